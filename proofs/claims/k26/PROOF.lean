import PyProof.Rows.All
import Wide.All
import OpenK.AllK
import Wide.FinOn
import Lean
import PyProof.EqAt
import PyProof.EqKinds
import PyProof.TupleCall
import PyProof.Rows.SetFrom
import PySem.Challenge.RW_slowshift_k26_steps_of_made_tables
set_option Elab.async false
set_option linter.all false
set_option maxRecDepth 100000
set_option genSizeOf false
set_option genSizeOfSpec false
set_option genInjectivity false
set_option maxHeartbeats 4000000
namespace L2
open PySem PySem.Spec PyProof.Rows
noncomputable abbrev Key:=Sum Int Str
noncomputable def keyIs:Key->Value->Bool
 | .inl k,v=>Value.isInt k v
 | .inr x,v=>Value.isStrOf x v
noncomputable def keyH(w:World):Key->Int
 | .inl k=>hashInt k
 | .inr x=>hashStr w x
theorem keyIs_shape:∀{k:Key}{v:Value},keyIs k v=true->(∃ i t,k=Sum.inl i/\v=Value.int i t)∨(∃ x t,k=Sum.inr x/\v=Value.str x t)
 | .inl i,v,h=>by
   obtain⟨t,e⟩:=Value.isInt_shape (k:=i) (v:=v) h;exact .inl ⟨i,t,rfl,e⟩
 | .inr x,v,h=>by
   obtain⟨t,e⟩:=Value.isStrOf_shape (x:=x) (v:=v) h;exact .inr ⟨x,t,rfl,e⟩
theorem keyIs_int(i:Int)(t:Tok):keyIs (.inl i) (.int i t)=true:=by simp[keyIs,Value.isInt]
theorem keyIs_str(x:Str)(t:Tok):keyIs (.inr x) (.str x t)=true:=by simp[keyIs,Value.isStrOf]
theorem key_ll(a b:Int):decide ((Sum.inl a:Key)=Sum.inl b)=(a == b):=by
 by_cases e:a=b
 · subst e;simp
 have h:¬ (Sum.inl a:Key)=Sum.inl b:=fun q=>e (Sum.inl.inj q);rw[decide_eq_false h];exact(beq_eq_false_iff_ne.mpr e).symm
theorem key_rr(a b:Str):decide ((Sum.inr a:Key)=Sum.inr b)=decide (a=b):=by
 by_cases e:a=b
 · subst e;simp
 have h:¬ (Sum.inr a:Key)=Sum.inr b:=fun q=>e (Sum.inr.inj q);rw[decide_eq_false h,decide_eq_false e]
theorem key_lr(a:Int)(b:Str):decide ((Sum.inl a:Key)=Sum.inr b)=false:=decide_eq_false (fun q=>nomatch q)
theorem key_rl(a:Str)(b:Int):decide ((Sum.inr a:Key)=Sum.inl b)=false:=decide_eq_false (fun q=>nomatch q)
noncomputable def mixKind(prog:Program)(w:World):PySem.KeyKind prog w Key where
 is:=keyIs
 hash:=keyH w
 inj:=fun v a b ha hb=>by
  rcases keyIs_shape ha with ⟨i,t,rfl,rfl⟩ | ⟨x,t,rfl,rfl⟩
  · rcases keyIs_shape hb with ⟨j,u,rfl,e⟩ | ⟨y,u,rfl,e⟩
    · injection e with e1 _;rw[e1]
    exact nomatch e
  rcases keyIs_shape hb with ⟨j,u,rfl,e⟩ | ⟨y,u,rfl,e⟩
  · exact nomatch e
  injection e with e1 _;rw[e1]
 byValue:=fun k v h=>by
  rcases keyIs_shape h with ⟨i,t,rfl,rfl⟩ | ⟨x,t,rfl,rfl⟩ <;> rfl
 pyHash:=fun hv h=>by
  rcases keyIs_shape hv with ⟨i,t,rfl,rfl⟩ | ⟨x,t,rfl,rfl⟩
  · exact wpAny_pyHash_int h
  exact wpAny_pyHash_str h
 eqBool:=fun hu hv h=>by
  rcases keyIs_shape hu with ⟨i,t,rfl,rfl⟩ | ⟨x,t,rfl,rfl⟩
  · rcases keyIs_shape hv with ⟨j,u,rfl,rfl⟩ | ⟨y,u,rfl,rfl⟩
    · rw[key_ll]at h;exact wpAny_eqBool_int h
    rw[key_lr]at h;exact SeqAt.EqAt.int_str i t y u _ _ _ _ h
  rcases keyIs_shape hv with ⟨j,u,rfl,rfl⟩ | ⟨y,u,rfl,rfl⟩
  · rw[key_rl]at h;exact SeqAt.EqAt.str_int x t j u _ _ _ _ h
  rw[key_rr]at h;exact wpAny_eqBool_str h
 «strs»:=fun k x t v h=>by
  rcases keyIs_shape h with ⟨i,u,rfl,e⟩ | ⟨y,u,rfl,e⟩
  · exact nomatch e
  injection e with e1 _;subst e1;cases v <;> rfl
theorem mixKind_int(prog:Program)(w:World)(i:Int)(t:Tok):(mixKind prog w).is (.inl i) (.int i t)=true:=keyIs_int i t
theorem mixKind_str(prog:Program)(w:World)(x:Str)(t:Tok):(mixKind prog w).is (.inr x) (.str x t)=true:=keyIs_str x t
end L2
namespace L2
open PySem PySem.Spec PyProof.Rows
set_option genInjectivity true in
inductive V where
 | non | bl (b:Bool) | int (i:Int) | str (x:Str) | byt (b:Array UInt8) | flt (b:UInt64) | ref (a:Addr) | ty (n:String)
 deriving DecidableEq
noncomputable def RelV:V->Value->Prop
 | .non,u=>u=Value.none
 | .bl b,u=>u=Value.bool b
 | .int i,u=>∃ t,u=Value.int i t
 | .str x,u=>∃ t,u=Value.str x t
 | .byt b,u=>∃ t,u=Value.bytes b t
 | .flt b,u=>∃ t,u=Value.float b t
 | .ref a,u=>u=Value.ref a
 | .ty n,u=>u=Value.type n
noncomputable abbrev Vals:List V->List Value->Prop:=Paired RelV
theorem Vals.length{xs:List V}{us:List Value}(r:Vals xs us):xs.length=us.length:=Paired.length r
theorem Vals.get:∀{xs:List V}{us:List Value}{i:Nat}{x:V},Vals xs us->xs[i]?=some x -> ∃ u,us[i]?=some u/\RelV x u
 | _,_,_,_,.nil,e=>by simp at e
 | _,_,0,_,.cons r _,e=>by simp at e;subst e;exact⟨_,rfl,r⟩
 | _,_,i+1,x,.cons _ t,e=>by
   obtain⟨u,h1,h2⟩:=Vals.get (i:=i) (x:=x) t (by simpa using e)
   exact⟨u,by simpa using h1,h2⟩
theorem Vals.set{x:V}{u:Value}(r:RelV x u):∀{xs:List V}{us:List Value} (i:Nat),Vals xs us->Vals (xs.set i x) (us.set i u)
 | _,_,_,.nil=>.nil
 | _,_,0,.cons _ t=>.cons r t
 | _,_,i+1,.cons q t=>.cons q (Vals.set r i t)
theorem Vals.append:∀{xs ys:List V}{us ws:List Value},Vals xs us->Vals ys ws->Vals (xs++ys) (us++ws)
 | _,_,_,_,.nil,s=>s
 | _,_,_,_,.cons r t,s=>.cons r (Vals.append t s)
theorem Vals.take:∀{xs:List V}{us:List Value} (n:Nat),Vals xs us->Vals (xs.take n) (us.take n)
 | _,_,0,_=>.nil
 | _,_,_+1,.nil=>.nil
 | _,_,n+1,.cons r t=>.cons r (Vals.take n t)
theorem Vals.drop:∀{xs:List V}{us:List Value} (n:Nat),Vals xs us->Vals (xs.drop n) (us.drop n)
 | _,_,0,r=>r
 | _,_,_+1,.nil=>.nil
 | _,_,n+1,.cons _ t=>Vals.drop n t
noncomputable def RelO:Option V->Option Value->Prop
 | some v,some u=>RelV v u
 | none,none=>True
 | _,_=>False
noncomputable def KV{κ:Type}:List (κ × V)->List (κ × Value)->Prop:=Paired fun(p:κ × V) (q:κ × Value)=>p.1=q.1/\RelV p.2 q.2
noncomputable def kV:Key->V
 | .inl i=>.int i
 | .inr x=>.str x
inductive HO where
 | lst (xs:List V)
 | tup (xs:List V)
 | dK (kvs:List (Key×V)) | dT (kvs:List (List Key×V))
 | set (S:Int->Bool) (n:Nat)
 | ins (C dx:Addr) (fs:List (Str×V))
 | own (x:Addr)
 | xd (fs:List (Str×V))
 | met (f x:Addr)
 | rng (lo hi:Int)
 | frz (o:Obj) (u:HO)
 | tbl (ps:Array Value)
 | ext (φ:Heap->Prop)
noncomputable abbrev Hp:=Addr->Option HO
noncomputable def upd(H:Hp)(a:Addr)(o:HO):Hp:=fun b=>if b=a then some o else H b
theorem upd_same{H:Hp}{a:Addr}{o:HO}:upd H a o a=some o:=by unfold upd;rw[if_pos rfl]
theorem upd_ne{H:Hp}{a b:Addr}{o:HO}(h:b≠a):upd H a o b=H b:=by unfold upd;rw[if_neg h]
theorem upd_upd{H:Hp}{a:Addr}{o u:HO}:upd (upd H a o) a u=upd H a u:=by
 funext b;unfold upd;split <;> rfl
theorem ne_of{H:Hp}{a b:Addr}{o u:HO}(h:H a=some o)(h':H b=some u)(d:o≠u):a≠b:=by
 intro e;subst e;rw[h]at h';exact d (Option.some.inj h')
theorem ne_of_none{H:Hp}{a b:Addr}{o:HO}(h:H a=some o)(h':H b=none):a≠b:=by
 intro e;subst e;rw[h]at h';cases h'
section
variable(P:Program)(w:World)
noncomputable def ObjOk(H:Hp)(h:Heap)(a:Addr):HO->Prop
 | .lst xs=>xs.length<=sizeLine /\ ∃(its:List Value) (n:Nat),Vals xs its/\h.get? a=some { cls:=.type "list",data:=.seq its.toArray n }
 | .tup xs=>xs.length<=sizeLine /\ ∃ its:List Value,Vals xs its/\IsTup h a its.toArray
 | .dK kvs=>kvs.length<=sizeLine/\(a == sysModules)=false /\ ∃ vs,KV kvs vs/\h.DictOf (mixKind P w) a vs
 | .dT kvs=>kvs.length<=sizeLine/\(a == sysModules)=false /\ ∃ xs:List (List Key×Addr×Value),
  Paired (fun(p:List Key×V) (q:List Key×Addr×Value)=>p.1=q.1/\H q.2.1=some (.tup (p.1.map kV))/\RelV p.2 q.2.2) kvs xs /\
  ∃ o es ep,h.get? a=some o/\o.ExactDict/\o.data=.dict es ep/\es.toList=xs.map (entryOfKey (tupleKind (mixKind P w)))/\(xs.map (·.1)).Nodup
 | .set S n=>h.SetOf (intKind P w) a S n
 | .ins C dx fs=>H dx=some (.own a)/\fs.length<=1000/\dx≠a/\h.get? a=some (W.instObj C dx) /\
  ∃ mA,h.Ns1 dx mA/\(∀ f,RelO (fs.lookup f) (mA f))/\PySem.Within mA (fs.map (·.1))
 | .own _=>∃ o,h.get? a=some o
 | .xd fs=>∃ mA,h.Ns1 a mA /\ ∀ f,RelO (fs.lookup f) (mA f)
 | .rng lo hi=>∃ t u v,h.get? a=some { cls:=.type "range",data:=.fields #[.int lo t,.int hi u,.int 1 v] }
 | .frz o u=>h.get? a=some o/\ObjOk H h a u
 | .tbl ps=>h.get? a=some { cls:=.none,data:=.fields ps }
 | .met f x=>h.get? a=some (W.methodObj (.ref f) (.ref x))
 | .ext φ=>φ h/\(∃ o,h.get? a=some o) /\ ∀ h1 h2:Heap,φ h1->(∀ o,h1.get? a=some o->h2.get? a=some o) -> φ h2
noncomputable def HOk(H:Hp)(h:Heap):Prop:=∀ a o,H a=some o->ObjOk P w H h a o
end
section
variable{P:Program}{w:World}{H H':Hp}{h h':Heap}{a:Addr}{o:HO}
theorem ObjOk.lt(x:ObjOk P w H h a o):a < h.objs.size:=by
 cases o with
 | lst xs=>obtain⟨_,_,_,_,e⟩:=x;exact Heap.lt_size e
 | tup xs=>obtain⟨_,_,_,p⟩:=x;exact p.lt
 | dK kvs=>obtain⟨_,_,_,_,o,_,_,e,_⟩:=x;exact Heap.lt_size e
 | dT kvs=>obtain⟨_,_,_,_,o,_,_,e,_⟩:=x;exact Heap.lt_size e
 | set S n=>obtain⟨o,_,_,_,e,_⟩:=x;exact Heap.lt_size e
 | ins C dx fs=>obtain⟨_,_,_,e,_⟩:=x;exact Heap.lt_size e
 | own y=>obtain⟨_,e⟩:=x;exact Heap.lt_size e
 | xd fs=>obtain⟨_,⟨_,_,_,e,_⟩,_⟩:=x;exact Heap.lt_size e
 | rng lo hi=>obtain⟨_,_,_,e⟩:=x;exact Heap.lt_size e
 | frz ob u=>obtain⟨e,_⟩:=x;exact Heap.lt_size e
 | tbl ps=>exact Heap.lt_size (show h.get? a=some _ from x)
 | met f y=>exact Heap.lt_size (show h.get? a=some _ from x)
 | ext φ=>obtain⟨_,⟨_,e⟩,_⟩:=x;exact Heap.lt_size e
theorem Paired.mapP{α β:Type}{F G:α -> β -> Prop}:∀{l₁:List α}{l₂:List β},Paired F l₁ l₂ -> (∀ a b,F a b->G a b)->Paired G l₁ l₂
 | _,_,.nil,_=>.nil
 | _,_,.cons r t,f=>.cons (f _ _ r) (Paired.mapP t f)
theorem ObjOk.stay(x:ObjOk P w H h a o)(k:∀ b u,(b=a∨H b=some (.own a))->h.get? b=some u->h'.get? b=some u)
 (ho:∀ b,H b=some (.own a)->H' b=some (.own a)) (ht:∀ b xs,H b=some (.tup xs)->H' b=some (.tup xs)):ObjOk P w H' h' a o:=by
 induction o with
 | lst xs=>obtain⟨z,its,n,r,e⟩:=x;exact⟨z,its,n,r,k _ _ (.inl rfl) e⟩
 | tup xs=>obtain⟨z,its,r,ob,e,c⟩:=x;exact⟨z,its,r,ob,k _ _ (.inl rfl) e,c⟩
 | dK kvs=>obtain⟨z,y,vs,r,ob,es,ep,e,c⟩:=x;exact⟨z,y,vs,r,ob,es,ep,k _ _ (.inl rfl) e,c⟩
 | dT kvs=>
   obtain⟨z,y,xs,r,ob,es,ep,e,c⟩:=x;exact⟨z,y,xs,Paired.mapP r fun p q z=>⟨z.1,ht _ _ z.2.1,z.2.2⟩,ob,es,ep,k _ _ (.inl rfl) e,c⟩
 | set S n=>obtain⟨ob,es,ep,t,e,c⟩:=x;exact⟨ob,es,ep,t,k _ _ (.inl rfl) e,c⟩
 | ins C dx fs=>
   obtain⟨d,z,ne,e,mA,⟨od,es,ep,e2,c⟩,r⟩:=x;exact⟨ho _ d,z,ne,k _ _ (.inl rfl) e,mA,⟨od,es,ep,k _ _ (.inr d) e2,c⟩,r⟩
 | own y=>obtain⟨ob,e⟩:=x;exact⟨ob,k _ _ (.inl rfl) e⟩
 | xd fs=>obtain⟨mA,⟨od,es,ep,e,c⟩,r⟩:=x;exact⟨mA,⟨od,es,ep,k _ _ (.inl rfl) e,c⟩,r⟩
 | rng lo hi=>obtain⟨t,u,v,e⟩:=x;exact⟨t,u,v,k _ _ (.inl rfl) e⟩
 | frz ob u ih=>obtain⟨e,q⟩:=x;exact⟨k _ _ (.inl rfl) e,ih q⟩
 | tbl ps=>
   have e:h.get? a=some { cls:=.none,data:=.fields ps }:=x;show h'.get? a=some { cls:=.none,data:=.fields ps };exact k a _ (.inl rfl) e
 | met f y=>
   have e:h.get? a=some (W.methodObj (.ref f) (.ref y)):=x;show h'.get? a=some (W.methodObj (.ref f) (.ref y));exact k a _ (.inl rfl) e
 | ext φ=>obtain⟨p,⟨o,e⟩,st⟩:=x;exact⟨st _ _ p fun o q=>k _ _ (.inl rfl) q,⟨o,k _ _ (.inl rfl) e⟩,st⟩
theorem HOk.lt(x:HOk P w H h)(e:H a=some o):a < h.objs.size:=(x a o e).lt
theorem HOk.fresh(x:HOk P w H h)(e:h.objs.size<=a):H a=none:=by
 cases q:H a with
 | none=>rfl
 | some u=>exact absurd (Nat.lt_of_lt_of_le (x.lt q) e) (Nat.lt_irrefl _)
theorem HOk.kept(x:HOk P w H h)(k:∀ b u,h.get? b=some u->h'.get? b=some u):HOk P w H h':=fun a o e=>
 (x a o e).stay (fun b u _ q=>k b u q) (fun _ q=>q) fun _ _ q=>q
theorem HOk.laid(x:HOk P w H h)(k:∀ b u,h.get? b=some u->h'.get? b=some u)(hp:h.objs.size<=a)(new:ObjOk P w (upd H a o) h' a o):HOk P w (upd H a o) h':=fun b u e=>by
 have hn:=x.fresh hp;by_cases hb:b=a
 · subst hb;rw[upd_same]at e;cases e;exact new
 rw[upd_ne hb]at e;exact(x b u e).stay (fun c v _ q=>k c v q) (fun c q=>by rw[upd_ne (ne_of_none q hn)];exact q) fun c xs q=>by rw[upd_ne (ne_of_none q hn)];exact q
end
noncomputable def Rd(H:Hp)(a:Addr)(u:HO):Prop:=H a=some u ∨ ∃ o,H a=some (.frz o u)
theorem Rd.ok{P:Program}{w:World}{H:Hp}{h:Heap}{a:Addr}{u:HO}(r:Rd H a u)(x:HOk P w H h):ObjOk P w H h a u:=by
 rcases r with r | ⟨o,r⟩
 · exact x a u r
 obtain⟨_,q⟩:=x a _ r;exact q
noncomputable def Mut:Option HO->Prop
 | some (.lst _)=>True
 | some (.dK _)=>True
 | some (.dT _)=>True
 | some (.set _ _)=>True
 | some (.ins _ _ _)=>True
 | some (.ext _)=>True
 | _=>False
section
variable{P:Program}{w:World}{H:Hp}{h h':Heap}{x e:Addr}{o':HO}
theorem HOk.write(ok:HOk P w H h)(mu:Mut (H x))(he:e=x∨H e=some (.own x))(k:∀ b u,b≠e->h.get? b=some u->h'.get? b=some u)(heo:∃ u,h'.get? e=some u)
 (new:ObjOk P w (upd H x o') h' x o'):HOk P w (upd H x o') h':=fun b u q=>by
 have nown:∀ c y,H c=some (.own y)->c≠x:=fun c y r z=>by subst z;rw[r]at mu;exact mu
 have ntup:∀ c xs,H c=some (.tup xs)->c≠x:=fun c xs r z=>by subst z;rw[r]at mu;exact mu
 by_cases hb:b=x
 · subst hb;rw[upd_same]at q;cases q;exact new
 rw[upd_ne hb]at q;by_cases hbe:b=e
 · have q':H b=some (.own x):=by
    rcases he with z | z
    · exact absurd (hbe.trans z) hb
    rw[hbe];exact z
   rw[q]at q';cases q';obtain⟨v,hv⟩:=heo;exact⟨v,by rw[hbe];exact hv⟩
 refine(ok b u q).stay (fun c v hc r=>k c v ?_ r) (fun c r=>by rw[upd_ne (nown c b r)];exact r) fun c xs r=>by rw[upd_ne (ntup c xs r)];exact r
 rcases hc with rfl | hc
 · exact hbe
 rintro rfl;rcases he with z | z
 · exact nown c b hc z
 rw[hc]at z;cases z;exact hb rfl
end
structure Un(fs ex:List Addr)(H H':Hp)(h h':Heap):Prop where
 keep:∀ b o,h.get? b=some o->H b=none->b∉fs->b∉ex->h'.get? b=some o
 slot:∀ b o,h.get? b=some o->H b=none->b∈fs->b∉ex -> ∃ sl,h'.get? b=some { o with slots:=sl }
 free:∀ b o,h.get? b=some o->H b=none->b∉ex->H' b=none
 there:∀ b o,h.get? b=some o->b∉ex -> ∃ o',h'.get? b=some o'
 tups:∀ b xs,H b=some (.tup xs)->H' b=some (.tup xs)
 frzs:∀ b o u,H b=some (.frz o u)->H' b=some (.frz o u)
 tbls:∀ b ps,H b=some (.tbl ps) -> ∃ more,H' b=some (.tbl (ps++more))
section
variable{fs fs' ex ex':List Addr}{H H1 H2:Hp}{h h1 h2 h':Heap}{a x e:Addr}{o:HO}
theorem Un.any(u:Un fs ex H H1 h h1){b:Addr}{ob:Obj}(q:h.get? b=some ob)(n:H b=none)(hx:b∉ex):∃ sl,h1.get? b=some { ob with slots:=sl }:=by
 by_cases hb:b∈fs
 · exact u.slot b ob q n hb hx
 exact⟨ob.slots,u.keep b ob q n hb hx⟩
theorem Un.kept(k:∀ b u,h.get? b=some u->h'.get? b=some u):Un fs ex H H h h':=
 ⟨fun b ob q _ _ _=>k b ob q,fun b ob q _ _ _=>⟨ob.slots,k b ob q⟩,fun _ _ _ n _=>n,fun b ob q _=>⟨ob,k b ob q⟩,fun _ _ q=>q,fun _ _ _ q=>q,fun _ ps q=>⟨#[],by rw[q];simp⟩⟩
theorem Un.refl:Un fs ex H H h h:=Un.kept fun _ _ q=>q
theorem Un.laid(k:∀ b u,h.get? b=some u->h'.get? b=some u)(hp:h.objs.size<=a)(hn:H a=none):Un fs ex H (upd H a o) h h' where
 keep:=fun b u q _ _ _=>k b u q
 slot:=fun b u q _ _ _=>⟨u.slots,k b u q⟩
 free:=fun b u q n _=>by rw[upd_ne (Nat.ne_of_lt (Nat.lt_of_lt_of_le (Heap.lt_size q) hp))];exact n
 there:=fun b u q _=>⟨u,k b u q⟩
 tups:=fun b xs q=>by rw[upd_ne (ne_of_none q hn)];exact q
 frzs:=fun b u xs q=>by rw[upd_ne (ne_of_none q hn)];exact q
 tbls:=fun b ps q=>⟨#[],by rw[upd_ne (ne_of_none q hn),q];simp⟩
theorem Un.write(mu:Mut (H x))(he:e=x∨H e=some (.own x))(k:∀ b u,b≠e->h.get? b=some u->h'.get? b=some u)(heo:∃ u,h'.get? e=some u):Un fs ex H (upd H x o) h h':=by
 have hx:∀ b,H b=none->b≠x:=fun b n z=>by subst z;rw[n]at mu;exact mu
 have hb:∀ b,H b=none->b≠e:=fun b n z=>by
  subst z;rcases he with r | r
  · exact hx b n r
  rw[n]at r;cases r
 have hm:∀ b u,H b=some u -> ¬ Mut (some u)->b≠x:=fun b u q nm z=>by subst z;rw[q]at mu;exact nm mu
 refine⟨fun b u q n _ _=>k b u (hb b n) q,fun b u q n _ _=>⟨u.slots,k b u (hb b n) q⟩,fun b u q n _=>by rw[upd_ne (hx b n)];exact n,fun b u q _=>?_,
  fun b xs q=>by rw[upd_ne (hm b _ q fun z=>z)];exact q,fun b u xs q=>by rw[upd_ne (hm b _ q fun z=>z)];exact q,fun b ps q=>⟨#[],by rw[upd_ne (hm b _ q fun z=>z),q];simp⟩⟩
 by_cases hbe:b=e
 · subst hbe;exact heo
 exact⟨u,k b u hbe q⟩
end
noncomputable def trk(h:Heap)(H:Hp):List Addr:=(List.range h.objs.size).filter fun a=>(H a).isSome
noncomputable def hidT(h:Heap)(H:Hp):Heap:=W.hideAll h (trk h H)
theorem hidT_size(h:Heap)(H:Hp):(hidT h H).objs.size=h.objs.size:=W.hideAll_size _ _
theorem hidT_get{h:Heap}{H:Hp}{b:Addr}{o:Obj}(e:h.get? b=some o)(n:H b=none):(hidT h H).get? b=some o:=
 W.hideAll_get _ e fun hm=>by
  have q:(H b).isSome=true:=(List.mem_filter.mp hm).2;rw[n]at q;simp at q
theorem of_hidT{h:Heap}{H:Hp}{b:Addr}{o:Obj}(e:(hidT h H).get? b=some o):h.get? b=some o/\H b=none:=by
 have e':h.get? b=some o:=W.of_hideAll (trk h H) e;refine⟨e',?_⟩;cases q:H b with
 | none=>rfl
 | some x=>
   have hm:b∈trk h H:=List.mem_filter.mpr ⟨List.mem_range.mpr (Heap.lt_size e'),by simp[q]⟩
   have z:(hidT h H).get? b=none:=W.hideAll_none (trk h H) hm;rw[z]at e;cases e
end L2
namespace L2
open PySem PySem.Spec PyProof.Rows
structure Mod(K:W.Frag)(mg:Str->Option Value)(base:Heap):Prop where
 kin:K.In base
 glob:base.Ns mainGlobals mg
 blt:∃ mb,base.Ns builtinsNs mb /\ ∀ x:Str,x ≠ "__name__" -> mb x=bootBuiltins x
 nolimit:base.NoLimit
structure Cx where
 prog:Program
 w:World
 K:W.Frag
 mg:Str->Option Value
 base:Heap
 A:Around
 N:List Str
 s₀:Shared
 H₀:Hp
 env:Env
 outer:List Env
 stack:List Env
 ex:List Addr
 fn:Str->Bool
 calm:Bool
 pn:List (Addr×Obj)
 xe:Value->Shared->Prop
noncomputable def frs(l:List Env):List Addr:=l.filterMap (·.frame)
noncomputable abbrev Cx.fs(X:Cx):List Addr:=frs X.outer
noncomputable def Vis(sc:Scope)(x:Str):Prop:=sc.names.lookup x=some .local∨sc.names.lookup x=some .cell∨sc.names.lookup x=some .free
noncomputable def Loc(sc:Scope)(x:Str):Prop:=sc.names.lookup x=some .local∨sc.names.lookup x=some .cell
noncomputable def Look(env:Env)(h:Heap)(m:Str->Option Value)(x:Str)(u:Value):Prop:=
 (env.kindOf x=some .local/\m x=some u)∨((env.kindOf x=some .cell∨env.kindOf x=some .free) /\ ∃ c,env.cells.lookup x=some c/\h.IsCell c (some u))
structure Cx.Ok(X:Cx):Prop where
 mod:Mod X.K X.mg X.base
 kind:X.env.scope.kind=.function
 glob:X.env.globals=mainGlobals
 blt:X.env.builtins=builtinsNs
 above:X.s₀.heap.objs.size<=X.env.locals
 inj:∀ x y c,X.env.cells.lookup x=some c->X.env.cells.lookup y=some c->x=y
 has:∀ x,(X.env.kindOf x=some .cell∨X.env.kindOf x=some .free) -> ∃ c,X.env.cells.lookup x=some c
 cab:∀ x c,X.fn x=true->X.env.cells.lookup x=some c->X.s₀.heap.objs.size<=c
 hd:X.calm=true->X.A.handled=none
 frames:X.A.frames=some X.stack
 stk:X.stack=X.outer∨(X.stack=X.env::X.outer/\X.env.frame=some X.env.locals)
 exf:∀ b∈X.ex,b≠X.env.locals /\ ∀ x c,X.env.cells.lookup x=some c->c≠b
 bs:∀ b o,X.base.get? b=some o->X.s₀.heap.get? b=some o/\X.H₀ b=none
 bsz:X.base.objs.size<=X.s₀.heap.objs.size
 noex:∀ b o,X.base.get? b=some o->b∉X.ex
 exfs:∀ b∈X.ex,b∉X.fs
 funs:X.s₀.heap.FunFrames X.base X.outer
 frf:∀ b∈X.fs,X.H₀ b=none
structure Inv(X:Cx)(pins:List (Addr×Obj))(σ:List (Option V))(H:Hp)(s:Shared):Prop where
 ok:X.Ok
 os:s.os=X.s₀.os
 bare:AllBare s.gens
 base:Un X.fs X.ex X.H₀ H X.s₀.heap s.heap
 loc:∃ m,s.heap.Ns X.env.locals m /\ ∀(i:Nat) (x:Str) (v:V),X.N[i]?=some x -> σ[i]?=some (some v)->Vis X.env.scope x -> ∃ u,RelV v u/\Look X.env s.heap m x u
 cell:∀ x c,X.env.cells.lookup x=some c -> ∃ v,s.heap.IsCell c v
 free:H X.env.locals=none
 freeC:∀ x c,X.env.cells.lookup x=some c->H c=none
 pin:∀ p∈X.pn++pins,s.heap.get? p.1=some p.2/\H p.1=none/\p.1≠X.env.locals/\p.1∉X.fs /\ ∀ v,p.2.data ≠ .cell v
 hok:HOk X.prog X.w H s.heap
 len:σ.length=X.N.length
section
variable{X:Cx}{pins:List (Addr×Obj)}{σ:List (Option V)}{H H':Hp}{s:Shared}{h':Heap}
theorem Cx.Ok.nofr(ok:X.Ok){b:Addr}{o:Obj}(e:X.base.get? b=some o):b∉X.fs:=fun hb=>by
 have:=(ok.funs.mem hb).1;rw[e]at this;cases this
theorem Inv.bs(I:Inv X pins σ H s):∀ b o,X.base.get? b=some o->s.heap.get? b=some o/\H b=none:=fun b o e=>
 ⟨I.base.keep b o (I.ok.bs b o e).1 (I.ok.bs b o e).2 (I.ok.nofr e) (I.ok.noex b o e),I.base.free b o (I.ok.bs b o e).1 (I.ok.bs b o e).2 (I.ok.noex b o e)⟩
theorem Inv.bk(I:Inv X pins σ H s):∀ b o,X.base.get? b=some o->s.heap.get? b=some o:=fun b o e=>(I.bs b o e).1
theorem Inv.mod(I:Inv X pins σ H s):Mod X.K X.mg X.base:=I.ok.mod
theorem Inv.kIn(I:Inv X pins σ H s):X.K.In s.heap:=I.ok.mod.kin.keeps I.bk
theorem Inv.lt(I:Inv X pins σ H s):X.env.locals < s.heap.objs.size:=let⟨_,hn,_⟩:=I.loc;hn.lt
theorem Inv.sz(I:Inv X pins σ H s):X.s₀.heap.objs.size<=s.heap.objs.size:=Nat.le_trans I.ok.above (Nat.le_of_lt I.lt)
theorem Inv.nofs(I:Inv X pins σ H s){a:Addr}(h:s.heap.objs.size<=a):a∉X.fs:=fun hb=>by
 obtain⟨_,o,ho,_⟩:=I.ok.funs.mem hb;exact absurd (Nat.lt_of_lt_of_le (Heap.lt_size ho) (Nat.le_trans I.sz h)) (Nat.lt_irrefl _)
theorem Inv.cne(I:Inv X pins σ H s):∀ x c,X.env.cells.lookup x=some c->c≠X.env.locals:=fun x c e z=>by
 obtain⟨v,o,ho,hd⟩:=I.cell x c e;obtain⟨m,⟨o',es,ep,ho',hd',_⟩,_⟩:=I.loc;rw[z,ho']at ho;cases ho;rw[hd']at hd;cases hd
theorem Inv.funs(I:Inv X pins σ H s):s.heap.FunFrames X.base X.outer:=by
 have all:∀(l:List Env),(∀ b∈frs l,b∈X.fs)->X.s₀.heap.FunFrames X.base l->s.heap.FunFrames X.base l:=by
  intro l
  induction l with
  | nil=>intro _ _;trivial
  | cons env r ih=>
    intro hs hl;obtain⟨hk,⟨L,o,hf,hn,ho,hd⟩,hr⟩:=hl;have hL:L∈X.fs:=hs L (by unfold frs;rw[List.filterMap_cons,hf];exact List.mem_cons_self)
    obtain⟨sl,e⟩:=I.base.slot L o ho (I.ok.frf L hL) hL fun z=>I.ok.exfs L z hL;exact⟨hk,⟨L,_,hf,hn,e,hd⟩,ih (fun b hb=>hs b (by unfold frs;rw[List.filterMap_cons,hf];exact List.mem_cons_of_mem _ hb)) hr⟩
 exact all X.outer (fun _ hb=>hb) I.ok.funs
theorem Inv.stack(I:Inv X pins σ H s):s.heap.FunFrames X.base X.stack:=by
 rcases I.ok.stk with e | ⟨e,hf⟩
 · rw[e];exact I.funs
 rw[e];obtain⟨m,hn,_⟩:=I.loc;refine .cons (by rw[I.ok.kind];decide) hf hn ?_ I.funs
 exact Heap.get?_none_of_le (Nat.le_trans I.ok.bsz I.ok.above)
theorem Inv.stkSub(I:Inv X pins σ H s):∀ b∈frs X.stack,b∈X.env.locals::X.fs:=fun b hb=>by
 rcases I.ok.stk with e | ⟨e,hf⟩
 · rw[e]at hb;exact List.mem_cons_of_mem _ hb
 rw[e]at hb;unfold frs at hb;rw[List.filterMap_cons,hf]at hb;exact hb
theorem Inv.stkFree(I:Inv X pins σ H s):∀ b∈frs X.stack,H b=none:=fun b hb=>by
 rcases List.mem_cons.mp (I.stkSub b hb)with e | hb
 · rw[e];exact I.free
 obtain⟨_,o,ho,_⟩:=I.ok.funs.mem hb;exact I.base.free b o ho (I.ok.frf b hb) fun z=>I.ok.exfs b z hb
theorem Inv.step{g':Array GenState}{t':Nat}{d':Drawn}{ch:List Addr}(I:Inv X pins σ H s)
 (hch:∀ b∈ch,(b∈X.ex∨X.s₀.heap.objs.size<=b)/\b≠X.env.locals/\(∀ x c,X.env.cells.lookup x=some c->c≠b) /\ ∀ p∈X.pn++pins,p.1≠b)
 (keep:∀ b o,b≠X.env.locals->b∉X.fs->b∉ch->s.heap.get? b=some o->H b=none->h'.get? b=some o)
 (slot:∀ b o,b≠X.env.locals->b∈X.fs->b∉ch->s.heap.get? b=some o->H b=none -> ∃ sl,h'.get? b=some { o with slots:=sl }) (free:∀ b o,b∉ch->s.heap.get? b=some o->H b=none->H' b=none)
 (there:∀ b o,b∉ch->s.heap.get? b=some o -> ∃ o',h'.get? b=some o')
 (tups:∀ b xs,H b=some (.tup xs)->H' b=some (.tup xs)) (frzs:∀ b o u,H b=some (.frz o u)->H' b=some (.frz o u)) (tbls:∀ b ps,H b=some (.tbl ps) -> ∃ more,H' b=some (.tbl (ps++more)))
 (ns:∀ m,s.heap.Ns X.env.locals m->h'.Ns X.env.locals m) (hok:HOk X.prog X.w H' h') (hg:AllBare g') :
 Inv X pins σ H' { s with heap:=h',gens:=g',drawn:=d',toks:=t' }:=by
 have neL:∀ b o,X.s₀.heap.get? b=some o->b≠X.env.locals:=fun b o e=>Nat.ne_of_lt (Nat.lt_of_lt_of_le (Heap.lt_size e) I.ok.above);have neC:∀ b o,X.s₀.heap.get? b=some o->b∉X.ex->b∉ch:=fun b o e hx hb=>by
  rcases(hch b hb).1 with z | z
  · exact hx z
  exact absurd (Nat.lt_of_lt_of_le (Heap.lt_size e) z) (Nat.lt_irrefl _)
 have cellK:∀ x c,X.env.cells.lookup x=some c -> ∀ v,s.heap.IsCell c v->h'.IsCell c v:=fun x c e v ⟨o,ho,hd⟩=>by
  have nch:c∉ch:=fun z=>(hch c z).2.2.1 x c e rfl;by_cases hc:c∈X.fs
  · obtain⟨sl,q⟩:=slot c o (I.cne x c e) hc nch ho (I.freeC x c e)
    exact⟨_,q,hd⟩
  exact⟨o,keep c o (I.cne x c e) hc nch ho (I.freeC x c e),hd⟩
 refine⟨I.ok,I.os,hg,⟨fun b o e n hb hx=>?_,fun b o e n hb hx=>?_,fun b o e n hx=>?_,fun b o e hx=>?_,fun b xs e=>tups b xs (I.base.tups b xs e),fun b o xs e=>frzs b o xs (I.base.frzs b o xs e),fun b ps e=>?_⟩,?_,fun x c e=>?_,?_,fun x c e=>?_,fun p hp=>?_,hok,I.len⟩
 · exact keep b o (neL b o e) hb (neC b o e hx) (I.base.keep b o e n hb hx) (I.base.free b o e n hx)
 · obtain⟨sl,e1⟩:=I.base.slot b o e n hb hx
   obtain⟨sl',e2⟩:=slot b _ (neL b o e) hb (neC b o e hx) e1 (I.base.free b o e n hx);exact⟨sl',e2⟩
 · obtain⟨o',e1⟩:=I.base.there b o e hx
   exact free b o' (neC b o e hx) e1 (I.base.free b o e n hx)
 · obtain⟨o',e1⟩:=I.base.there b o e hx
   exact there b o' (neC b o e hx) e1
 · obtain⟨m1,e1⟩:=I.base.tbls b ps e
   obtain⟨m2,e2⟩:=tbls b _ e1;exact⟨m1++m2,by rw[e2,Array.append_assoc]⟩
 · obtain⟨m,hn,hl⟩:=I.loc
   refine⟨m,ns m hn,fun i x v e1 e2 e3=>?_⟩;obtain⟨u,r,l⟩:=hl i x v e1 e2 e3;refine⟨u,r,?_⟩;rcases l with l | ⟨k,c,e,z⟩
   · exact .inl l
   exact .inr ⟨k,c,e,cellK x c e _ z⟩
 · obtain⟨v,z⟩:=I.cell x c e
   exact⟨v,cellK x c e v z⟩
 · obtain⟨m,⟨o,_,_,ho,_⟩,_⟩:=I.loc
   exact free _ o (fun z=>(hch _ z).2.1 rfl) ho I.free
 · obtain⟨v,o,ho,hd⟩:=I.cell x c e
   exact free c o (fun z=>(hch c z).2.2.1 x c e rfl) ho (I.freeC x c e)
 obtain⟨e,n,ne,nf,d⟩:=I.pin p hp;have nch:p.1∉ch:=fun z=>(hch p.1 z).2.2.2 p hp rfl;exact⟨keep p.1 p.2 ne nf nch e n,free p.1 p.2 nch e n,ne,nf,d⟩
theorem Inv.un{t':Nat}(I:Inv X pins σ H s)(u:Un X.fs [] H H' s.heap h')(hok:HOk X.prog X.w H' h'):Inv X pins σ H' { s with heap:=h',toks:=t' }:=by
 obtain⟨m,⟨o,es,ep,ho,r⟩,_⟩:=id I.loc;obtain⟨sl,hL⟩:=u.any ho I.free (by simp)
 exact I.step (g':=s.gens) (d':=s.drawn) (ch:=[]) (fun _ z=>nomatch z) (fun b o _ hb _ e n=>u.keep b o e n hb (by simp)) (fun b o _ hb _ e n=>u.slot b o e n hb (by simp)) (fun b o _ e n=>u.free b o e n (by simp)) (fun b o _ e=>u.there b o e (by simp)) u.tups u.frzs u.tbls (fun m' hm=>by
  obtain⟨o',es',ep',ho',r'⟩:=hm;rw[ho]at ho';cases ho';exact⟨_,es',ep',hL,r'⟩) hok I.bare
theorem Inv.call{g':Array GenState}{t':Nat}{d':Drawn}{ch:List Addr}(I:Inv X pins σ H s)(u:Un (frs X.stack) ch H H' s.heap h')(hok:HOk X.prog X.w H' h')(hg:AllBare g')
 (hch:∀ b∈ch,(b∈X.ex∨X.s₀.heap.objs.size<=b)/\b≠X.env.locals/\(∀ x c,X.env.cells.lookup x=some c->c≠b) /\ ∀ p∈X.pn++pins,p.1≠b) :
 Inv X pins σ H' { s with heap:=h',gens:=g',drawn:=d',toks:=t' }:=by
 obtain⟨m,⟨o,es,ep,ho,r⟩,_⟩:=id I.loc;obtain⟨sl,hL⟩:=u.any ho I.free fun z=>(hch _ z).2.1 rfl;exact I.step (ch:=ch) hch (fun b o hL hb hc e n=>u.keep b o e n (fun z=>(List.mem_cons.mp (I.stkSub b z)).elim hL hb) hc) (fun b o _ _ hc e n=>u.any e n hc) (fun b o hc e n=>u.free b o e n hc) (fun b o hc e=>u.there b o e hc) u.tups u.frzs u.tbls (fun m' hm=>by
  obtain⟨o',es',ep',ho',r'⟩:=hm;rw[ho]at ho';cases ho';exact⟨_,es',ep',hL,r'⟩) hok hg
theorem Inv.turned{t':Nat}{it:Addr}(I:Inv X pins σ H s)(k:∀ b o,b≠it->s.heap.get? b=some o->h'.get? b=some o)(hn:H it=none)(hL:it≠X.env.locals)
 (h1:it∈X.ex∨X.s₀.heap.objs.size<=it) (h2:∀ x c,X.env.cells.lookup x=some c->c≠it) (h3:∀ p∈X.pn++pins,p.1≠it):Inv X pins σ H { s with heap:=h',toks:=t' }:=by
 have nit:∀ b u,H b=some u->b≠it:=fun b u e z=>by rw[z,hn]at e;cases e
 refine I.step (g':=s.gens) (d':=s.drawn) (ch:=[it]) (fun b hb=>?_) (fun b o _ _ hc e _=>k b o (fun z=>hc (by simp[z])) e) (fun b o _ _ hc e _=>⟨o.slots,k b o (fun z=>hc (by simp[z])) e⟩) (fun _ _ _ _ n=>n)
  (fun b o hc e=>⟨o,k b o (fun z=>hc (by simp[z])) e⟩) (fun _ _ e=>e) (fun _ _ _ e=>e) (fun b ps e=>⟨#[],by rw[e];simp⟩) (fun m hm=>?_) (fun b u e=>?_) I.bare
 · have e:b=it:=by simpa using hb
   subst e;exact⟨h1,hL,h2,h3⟩
 · obtain⟨o,es,ep,ho,r⟩:=hm
   exact⟨o,es,ep,k _ o (Ne.symm hL) ho,r⟩
 refine(I.hok b u e).stay (fun c v hc q=>k c v ?_ q) (fun _ q=>q) fun _ _ q=>q;rcases hc with z | z
 · rw[z];exact nit b u e
 exact nit c _ z
theorem Inv.tok(I:Inv X pins σ H s)(t:Nat):Inv X pins σ H { s with toks:=t }:=I.un (h':=s.heap) (t':=t) Un.refl I.hok
theorem Inv.kept{t':Nat}(I:Inv X pins σ H s)(k:∀ b u,s.heap.get? b=some u->h'.get? b=some u):Inv X pins σ H { s with heap:=h',toks:=t' }:=I.un (Un.kept k) (I.hok.kept k)
theorem Inv.laid{a:Addr}{o:HO}{t':Nat}(I:Inv X pins σ H s)(k:∀ b u,s.heap.get? b=some u->h'.get? b=some u)(hp:s.heap.objs.size<=a)(new:ObjOk X.prog X.w (upd H a o) h' a o) :
 Inv X pins σ (upd H a o) { s with heap:=h',toks:=t' }:=I.un (Un.laid k hp (I.hok.fresh hp)) (I.hok.laid k hp new)
theorem Inv.write{x e:Addr}{o:HO}{t':Nat}(I:Inv X pins σ H s)(mu:Mut (H x))(he:e=x∨H e=some (.own x))(k:∀ b u,b≠e->s.heap.get? b=some u->h'.get? b=some u)(heo:∃ u,h'.get? e=some u)
 (new:ObjOk X.prog X.w (upd H x o) h' x o):Inv X pins σ (upd H x o) { s with heap:=h',toks:=t' }:=I.un (Un.write mu he k heo) (I.hok.write mu he k heo new)
theorem Inv.pins_of{pins':List (Addr×Obj)}(I:Inv X pins σ H s)(h:∀ p∈pins',s.heap.get? p.1=some p.2/\H p.1=none/\p.1≠X.env.locals/\p.1∉X.fs /\ ∀ v,p.2.data ≠ .cell v):Inv X pins' σ H s:=
 ⟨I.ok,I.os,I.bare,I.base,I.loc,I.cell,I.free,I.freeC,fun p hp=>(List.mem_append.mp hp).elim (fun z=>I.pin p (List.mem_append_left _ z)) (h p),I.hok,I.len⟩
theorem nodup_ix{N:List Str}(hN:N.Nodup){i j:Nat}{x:Str}(a:N[i]?=some x)(b:N[j]?=some x):i=j:=by
 obtain⟨h1,e1⟩:=List.getElem?_eq_some_iff.mp a;obtain⟨h2,e2⟩:=List.getElem?_eq_some_iff.mp b;exact(List.getElem_inj hN).mp (e1.trans e2.symm)
theorem store_ok2{M:Model}{A:Around}{E:Value->Shared->Prop}{i:Nat}{x:Str}{v:V}{u:Value}{Q:Unit->Shared->Prop}(I:Inv X pins σ H s)(hN:X.N.Nodup)(hi:X.N[i]?=some x)(hx:Loc X.env.scope x)(r:RelV v u)
 (h:∀ s',Inv X pins (σ.set i (some v)) H s'->(∃ a,Heap.SameBut a s.heap s'.heap/\(a=X.env.locals∨X.env.cells.lookup x=some a))->Q () s') (hf:X.fn x=true∨X.env.scope.names.lookup x=some .local:=by first | exact .inl rfl | exact .inr rfl | assumption):wpAny M A (storeName X.env x u) Q E s:=by
 obtain⟨m,hn,hl⟩:=id I.loc;have hcls:(X.env.scope.kind == .class || (X.env.scope.kind == .module && X.env.locals != X.env.globals))=false:=by rw[I.ok.kind];rfl
 have hiσ:i < σ.length:=by rw[I.len];exact(List.getElem?_eq_some_iff.mp hi).1
 have cne:=I.cne;have tracked:∀{a:Addr}{h':Heap},(∃ o,s.heap.get? a=some o/\H a=none)->Heap.SameBut a s.heap h'->HOk X.prog X.w H h':=fun {a h'} ha hs b ob e=>by
  obtain⟨_,_,hfree⟩:=ha;refine(I.hok b ob e).stay (fun c w' hc q=>(hs.2 c ?_).trans q) (fun _ q=>q) fun _ _ q=>q;rintro rfl;rcases hc with rfl | hc
  · rw[hfree]at e;cases e
  rw[hfree]at hc;cases hc
 rcases hx with hk | hk
 · refine wpAny_storeName_local hk hn (fun h' hn' hs=>?_) hcls
   obtain⟨oL,_,_,hoL,_⟩:=id hn;refine h _ ⟨I.ok,I.os,I.bare,⟨fun b o e n hb hx=>?_,fun b o e n hb hx=>?_,I.base.free,fun b o e hx=>?_,I.base.tups,I.base.frzs,I.base.tbls⟩,⟨_,hn',fun j y v' e1 e2 e3=>?_⟩,fun y c e=>?_,I.free,I.freeC,fun p hp=>?_,tracked ⟨oL,hoL,I.free⟩ hs,by simpa using I.len⟩ ⟨_,hs,.inl rfl⟩
   · exact(hs.2 b (Nat.ne_of_lt (Nat.lt_of_lt_of_le (Heap.lt_size e) I.ok.above))).trans (I.base.keep b o e n hb hx)
   · obtain⟨sl,e1⟩:=I.base.slot b o e n hb hx
     exact⟨sl,(hs.2 b (Nat.ne_of_lt (Nat.lt_of_lt_of_le (Heap.lt_size e) I.ok.above))).trans e1⟩
   · obtain⟨o',e1⟩:=I.base.there b o e hx
     exact⟨o',(hs.2 b (Nat.ne_of_lt (Nat.lt_of_lt_of_le (Heap.lt_size e) I.ok.above))).trans e1⟩
   · by_cases hj:j=i
     · subst hj
       rw[hi]at e1;cases e1;rw[List.getElem?_set_self hiσ]at e2;cases e2;exact⟨u,r,.inl ⟨hk,by simp⟩⟩
     rw[List.getElem?_set_ne (Ne.symm hj)]at e2;obtain⟨u',r',q⟩:=hl j y v' e1 e2 e3;refine⟨u',r',?_⟩;rcases q with ⟨k,e⟩ | ⟨k,c,e,z⟩
     · refine .inl ⟨k,?_⟩
       have:y≠x:=fun e=>hj (nodup_ix hN e1 (e ▸ hi));simp[this,e]
     exact .inr ⟨k,c,e,z.sameBut hs (cne y c e)⟩
   · obtain⟨w',z⟩:=I.cell y c e
     exact⟨w',z.sameBut hs (cne y c e)⟩
   obtain⟨e,n,ne,nf,d⟩:=I.pin p hp;exact⟨(hs.2 p.1 ne).trans e,n,ne,nf,d⟩
 have hfn:X.fn x=true:=by
  rcases hf with z | z
  · exact z
  rw[z]at hk;cases hk
 obtain⟨c,hc⟩:=I.ok.has x (.inl hk);obtain⟨w',z⟩:=I.cell x c hc;refine wpAny_storeName_cell I.ok.kind hk hc z (fun h' hc' hs=>?_);obtain⟨oc,hoc,hocd⟩:=id z;refine h { s with heap:=h' } ⟨I.ok,I.os,I.bare,⟨fun b o e n hb hx=>?_,fun b o e n hb hx=>?_,I.base.free,fun b o e hx=>?_,I.base.tups,I.base.frzs,I.base.tbls⟩,⟨m,hn.sameBut hs (Ne.symm (cne x c hc)),fun j y v' e1 e2 e3=>?_⟩,fun y c' e=>?_,I.free,I.freeC,fun p hp=>?_,tracked ⟨oc,hoc,I.freeC x c hc⟩ hs,by simpa using I.len⟩ ⟨c,hs,.inr hc⟩
 · exact(hs.2 b (Nat.ne_of_lt (Nat.lt_of_lt_of_le (Heap.lt_size e) (I.ok.cab x c hfn hc)))).trans (I.base.keep b o e n hb hx)
 · obtain⟨sl,e1⟩:=I.base.slot b o e n hb hx
   exact⟨sl,(hs.2 b (Nat.ne_of_lt (Nat.lt_of_lt_of_le (Heap.lt_size e) (I.ok.cab x c hfn hc)))).trans e1⟩
 · obtain⟨o',e1⟩:=I.base.there b o e hx
   exact⟨o',(hs.2 b (Nat.ne_of_lt (Nat.lt_of_lt_of_le (Heap.lt_size e) (I.ok.cab x c hfn hc)))).trans e1⟩
 · by_cases hj:j=i
   · subst hj
     rw[hi]at e1;cases e1;rw[List.getElem?_set_self hiσ]at e2;cases e2;exact⟨u,r,.inr ⟨.inl hk,c,hc,hc'⟩⟩
   rw[List.getElem?_set_ne (Ne.symm hj)]at e2;obtain⟨u',r',q⟩:=hl j y v' e1 e2 e3;refine⟨u',r',?_⟩;rcases q with q | ⟨k,c',e,z'⟩
   · exact .inl q
   refine .inr ⟨k,c',e,z'.sameBut hs ?_⟩;rintro rfl;exact hj (nodup_ix hN e1 (I.ok.inj _ _ _ e hc ▸ hi))
 · by_cases hcc:c'=c
   · subst hcc;exact⟨_,hc'⟩
   obtain⟨w2,z2⟩:=I.cell y c' e;exact⟨w2,z2.sameBut hs hcc⟩
 obtain⟨e,n,ne,nf,d⟩:=I.pin p hp;refine⟨(hs.2 p.1 ?_).trans e,n,ne,nf,d⟩;intro q;rw[q,hoc]at e;have q':oc=p.2:=Option.some.inj e;exact d w' (by rw[← q'];exact hocd)
theorem store_ok{M:Model}{A:Around}{E:Value->Shared->Prop}{i:Nat}{x:Str}{v:V}{u:Value}{Q:Unit->Shared->Prop}(I:Inv X pins σ H s)(hN:X.N.Nodup)(hi:X.N[i]?=some x)(hx:Loc X.env.scope x)(r:RelV v u)
 (h:∀ s',Inv X pins (σ.set i (some v)) H s'->Q () s') (hf:X.fn x=true∨X.env.scope.names.lookup x=some .local:=by first | exact .inl rfl | exact .inr rfl | assumption):wpAny M A (storeName X.env x u) Q E s:=
 store_ok2 I hN hi hx r (fun s' I' _=>h s' I') hf
theorem Inv.call'{s':Shared}{ch:List Addr}(I:Inv X pins σ H s)(ho:s'.os=s.os)(u:Un (frs X.stack) ch H H' s.heap s'.heap)(hok:HOk X.prog X.w H' s'.heap)(hg:AllBare s'.gens)
 (hch:∀ b∈ch,(b∈X.ex∨X.s₀.heap.objs.size<=b)/\b≠X.env.locals/\(∀ x c,X.env.cells.lookup x=some c->c≠b) /\ ∀ p∈X.pn++pins,p.1≠b):Inv X pins σ H' s':=by
 obtain⟨h',g',d',t',o'⟩:=s';have e:o'=s.os:=ho;subst e;exact I.call (g':=g') (t':=t') (d':=d') u hok hg hch
end
noncomputable abbrev XK:=Value->Option Addr->Hp->Prop
noncomputable abbrev St:=List (Option V)
noncomputable abbrev VK:=V->Hp->Prop
noncomputable abbrev TE:=St->Hp->VK->Prop
noncomputable abbrev TT:=St->Hp->(Bool->Hp->Prop)->Prop
noncomputable abbrev TA:=St->Hp->(List V->Hp->Prop)->Prop
structure Ends where
 nx:St->Hp->Prop
 rt:VK
 bk:St->Hp->Prop:=fun _ _=>False
 ct:St->Hp->Prop:=fun _ _=>False
noncomputable abbrev TS:=Ends->St->Hp->Prop
noncomputable def EP(X:Cx)(pins:List (Addr×Obj))(σ:St)(Q:VK)(u:Value)(s':Shared):Prop:=∃ v H',Inv X pins σ H' s'/\RelV v u/\Q v H'
noncomputable def TP(X:Cx)(pins:List (Addr×Obj))(σ:St)(Q:Bool->Hp->Prop)(b:Bool)(s':Shared):Prop:=∃ H',Inv X pins σ H' s'/\Q b H'
noncomputable def AP(X:Cx)(pins:List (Addr×Obj))(σ:St)(Q:List V->Hp->Prop)(us:List Value)(s':Shared):Prop:=∃ vs H',Inv X pins σ H' s'/\Vals vs us/\Q vs H'
noncomputable def SP(X:Cx)(pins:List (Addr×Obj))(D:Ends)(f:Flow)(s':Shared):Prop:=
 match f with
 | .next=>∃ σ' H',Inv X pins σ' H' s'/\D.nx σ' H'
 | .brk=>∃ σ' H',Inv X pins σ' H' s'/\D.bk σ' H'
 | .cont=>∃ σ' H',Inv X pins σ' H' s'/\D.ct σ' H'
 | .ret u=>∃ v σ' H',Inv X pins σ' H' s'/\RelV v u/\D.rt v H'
noncomputable def PE(X:Cx)(e:Expr)(t:TE):Prop:=
 ∀(pins:List (Addr×Obj)) (s:Shared) (σ:St) (H:Hp) (Q:VK),Inv X pins σ H s->t σ H Q->wpAny (model X.prog X.w) X.A (eval e X.env) (EP X pins σ Q) X.xe s
noncomputable def PT(X:Cx)(e:Expr)(t:TT):Prop:=
 ∀(pins:List (Addr×Obj)) (s:Shared) (σ:St) (H:Hp) (Q:Bool->Hp->Prop),Inv X pins σ H s->t σ H Q->wpAny (model X.prog X.w) X.A (isTrue e X.env (eval e X.env)) (TP X pins σ Q) X.xe s
noncomputable def PW(X:Cx)(e:Expr)(t:TT):Prop:=
 ∀(whole:Sem Value) (pins:List (Addr×Obj)) (s:Shared) (σ:St) (H:Hp) (Q:Bool->Hp->Prop),Inv X pins σ H s->t σ H Q->wpAny (model X.prog X.w) X.A (isTrue e X.env whole) (TP X pins σ Q) X.xe s
theorem PW.pt{X:Cx}{e:Expr}{t:TT}(h:PW X e t):PT X e t:=h _
noncomputable def PA(X:Cx)(es:List Expr)(t:TA):Prop:=
 ∀(pos:Pos) (pins:List (Addr×Obj)) (s:Shared) (σ:St) (H:Hp) (Q:List V->Hp->Prop),Inv X pins σ H s->t σ H Q->wpAny (model X.prog X.w) X.A (spliced (backTo pos (starEach es X.env))) (AP X pins σ Q) X.xe s
noncomputable def PS(X:Cx)(st:Stmt)(t:TS):Prop:=
 ∀(pins:List (Addr×Obj)) (s:Shared) (σ:St) (H:Hp) (D:Ends),Inv X pins σ H s->t D σ H->wpAny (model X.prog X.w) X.A (exec st X.env) (SP X pins D) X.xe s
noncomputable def PSs(X:Cx)(st:List Stmt)(t:TS):Prop:=
 ∀(pins:List (Addr×Obj)) (s:Shared) (σ:St) (H:Hp) (D:Ends),Inv X pins σ H s->t D σ H->wpAny (model X.prog X.w) X.A (execs st X.env) (SP X pins D) X.xe s
theorem thn{α:Type}{t:Sem α}{Q Q':α -> Shared->Prop}{M:Model}{A:Around}{E:Value->Shared->Prop}{s:Shared}(h:wpAny M A t Q E s)(hQ:∀ a s,Q a s->Q' a s):wpAny M A t Q' E s:=wpAny_mono h hQ fun _ _ x=>x
end L2
namespace L2
open PySem PySem.Spec PyProof.Rows
section
variable{X:Cx}
noncomputable def tVar(i:Nat):TE:=fun σ H Q=>∃ v,σ[i]?=some (some v)/\Q v H
noncomputable def tC(v:V):TE:=fun _ H Q=>Q v H
theorem pe_var{i:Nat}{x:Str}{pos:Pos}(hN:X.N[i]?=some x)(hv:Vis X.env.scope x)(hd:(x == ("__debug__":Str))=false:=by decide)(hcd:(x == ("__classdict__":Str))=false:=by decide):PE X (.Name x pos) (tVar i):=by
 intro pins s σ H Q I h;obtain⟨v,e,h⟩:=h;obtain⟨m,hn,hl⟩:=I.loc;obtain⟨u,r,l⟩:=hl i x v hN e hv;have fin:EP X pins σ Q u s:=⟨v,H,I,r,h⟩;rcases l with ⟨hk,hm⟩ | ⟨hk,c,hc,hcell⟩
 · exact wpAny_Name (wpAny_loadName_local I.ok.kind hk hn hm fin) hd
 rcases hk with hk | hk
 · exact wpAny_Name (wpAny_loadName_cell I.ok.kind hk hc hcell fin) hd
 exact wpAny_Name (wpAny_loadName_free I.ok.kind hk hc hcell fin hcd) hd
theorem pe_int{i j pos}:PE X (.Constant (.int i) j pos) (tC (.int i)):=fun _ _ _ H _ I h=>wpAny_Constant_int ⟨.int i,H,I.tok _,⟨_,rfl⟩,h⟩
theorem pe_bl{b j pos}:PE X (.Constant (.bool b) j pos) (tC (.bl b)):=fun _ _ _ H _ I h=>Constant_bool ⟨.bl b,H,I,rfl,h⟩
theorem pe_non{j pos}:PE X (.Constant .none j pos) (tC .non):=fun _ _ _ H _ I h=>Constant_none ⟨.non,H,I,rfl,h⟩
noncomputable def Gl(X:Cx)(x:Str):Prop:=X.env.kindOf x=some .globalImplicit
theorem ld_glob{E:Value->Shared->Prop}{pins:List (Addr×Obj)}{s:Shared}{σ:St}{H:Hp}{x:Str}{u:Value}{pos:Pos}{Q:Value->Shared->Prop}(I:Inv X pins σ H s)(hg:Gl X x)(hm:X.mg x=some u)(h:Q u s)
 (hd:(x == ("__debug__":Str))=false:=by decide):wpAny (model X.prog X.w) X.A (eval (.Name x pos) X.env) Q E s:=
 Calls.Name_function_global I.ok.kind hg (Calls.loadGlobal_global (by rw[I.ok.glob];exact I.mod.glob.keeps I.bk) hm h) hd
theorem ld_blt{E:Value->Shared->Prop}{pins:List (Addr×Obj)}{s:Shared}{σ:St}{H:Hp}{x:Str}{u:Value}{pos:Pos}{Q:Value->Shared->Prop}(I:Inv X pins σ H s)(hg:Gl X x)(hm:X.mg x=none)(hv:bootBuiltins x=some u)(h:Q u s)
 (hn:x ≠ "__name__":=by decide) (hd:(x == ("__debug__":Str))=false:=by decide):wpAny (model X.prog X.w) X.A (eval (.Name x pos) X.env) Q E s:=by
 obtain⟨mb,h1,h2⟩:=I.mod.blt;exact Calls.Name_function_global I.ok.kind hg (Calls.loadGlobal_builtin (by rw[I.ok.glob];exact I.mod.glob.keeps I.bk) hm (by rw[I.ok.blt];exact h1.keeps I.bk) ((h2 x hn).trans hv) h) hd
theorem pe_glob{x:Str}{v:V}{u:Value}{pos:Pos}(hg:Gl X x)(hm:X.mg x=some u)(r:RelV v u)(hd:(x == ("__debug__":Str))=false:=by decide):PE X (.Name x pos) (tC v):=
 fun _ _ _ H _ I h=>ld_glob I hg hm ⟨v,H,I,r,h⟩ hd
theorem pe_bltn{x:Str}{v:V}{u:Value}{pos:Pos}(hg:Gl X x)(hm:X.mg x=none)(hv:bootBuiltins x=some u)(r:RelV v u)(hn:x ≠ "__name__":=by decide)(hd:(x == ("__debug__":Str))=false:=by decide):PE X (.Name x pos) (tC v):=
 fun _ _ _ H _ I h=>ld_blt I hg hm hv ⟨v,H,I,r,h⟩ hn hd
variable{a b:Expr}{ta tb:TE}{pos:Pos}
noncomputable def tB(t:TE):TT:=fun σ H Q=>t σ H fun x H1=>∃ c,x=.bl c/\Q c H1
theorem pt_val{e:Expr}{t:TE}(h:PE X e t)(he:∀ whole,isTrue e X.env whole=(do let v ← whole;standAt e.pos;holding [v] (truthy v)):=by intro _;rfl):PT X e (tB t):=by
 intro pins s σ H Q I hw;refine isTrue_plain (thn (h pins s σ H _ I hw) fun v s1 ⟨x,H1,I1,r1,q1⟩=>?_) (he _);obtain⟨d,rfl,q⟩:=q1;cases r1;exact wpAny_truthy_bool ⟨H1,I1,q⟩
variable{tA tB':TT}{rest:List Expr}
noncomputable def tAnd(t u:TT):TT:=fun σ H Q=>t σ H fun c H1=>if c=true then u σ H1 Q else Q false H1
noncomputable def tOr(t u:TT):TT:=fun σ H Q=>t σ H fun c H1=>if c=true then Q true H1 else u σ H1 Q
noncomputable def tNot(t:TT):TT:=fun σ H Q=>t σ H fun c H1=>Q (!c) H1
theorem pw_and1(ha:PT X a tA):PW X (.BoolOp .And [a] pos) tA:=by
 intro wh pins s σ H Q I h;refine isTrue_and (thn (ha pins s σ H Q I h) fun c s1 e=>?_);cases c with
 | true=>exact isTrue_and_nil e
 | false=>exact e
theorem pw_or1(ha:PT X a tA):PW X (.BoolOp .Or [a] pos) tA:=by
 intro wh pins s σ H Q I h;refine isTrue_or (thn (ha pins s σ H Q I h) fun c s1 e=>?_);cases c with
 | false=>exact isTrue_or_nil e
 | true=>exact e
theorem pw_and(ha:PT X a tA)(hb:PW X (.BoolOp .And (b::rest) pos) tB'):PW X (.BoolOp .And (a::b::rest) pos) (tAnd tA tB'):=by
 intro wh pins s σ H Q I h;refine isTrue_and (thn (ha pins s σ H _ I h) fun c s1 zz=>?_);obtain⟨H1,I1,q1⟩:=zz;cases c with
 | true=>exact hb wh pins s1 σ H1 Q I1 q1
 | false=>exact⟨H1,I1,q1⟩
theorem pw_or(ha:PT X a tA)(hb:PW X (.BoolOp .Or (b::rest) pos) tB'):PW X (.BoolOp .Or (a::b::rest) pos) (tOr tA tB'):=by
 intro wh pins s σ H Q I h;refine isTrue_or (thn (ha pins s σ H _ I h) fun c s1 zz=>?_);obtain⟨H1,I1,q1⟩:=zz;cases c with
 | true=>exact⟨H1,I1,q1⟩
 | false=>exact hb wh pins s1 σ H1 Q I1 q1
theorem pt_not(ha:PT X a tA):PT X (.UnaryOp .Not a pos) (tNot tA):=by
 intro pins s σ H Q I h;exact isTrue_not (ha pins s σ H (fun c H1=>Q (!c) H1) I h)
noncomputable def tAndV(ta tb:TE):TE:=fun σ H Q=>ta σ H fun x H1=>∃ c,x=.bl c/\if c=true then tb σ H1 Q else Q (.bl false) H1
noncomputable def tNotV(ta:TE):TE:=fun σ H Q=>ta σ H fun x H1=>∃ c,x=.bl c/\Q (.bl (!c)) H1
theorem pe_one{op}{t:TE}(h:PE X a t):PE X (.BoolOp op [a] pos) t:=fun pins s σ H Q I hw=>BoolOp_one (h pins s σ H Q I hw)
theorem pe_and(ha:PE X a ta)(hb:PE X (.BoolOp .And (b::rest) pos) tb):PE X (.BoolOp .And (a::b::rest) pos) (tAndV ta tb):=by
 intro pins s σ H Q I h;refine BoolOp_and (thn (ha pins s σ H _ I h) fun v s1 zz=>?_);obtain⟨x,H1,I1,r1,q1⟩:=zz;obtain⟨c,rfl,q1⟩:=q1;cases r1;refine wpAny_truthy_bool ?_;cases c with
 | true=>exact hb pins s1 σ H1 Q I1 q1
 | false=>exact⟨.bl false,H1,I1,rfl,q1⟩
theorem pe_not(ha:PE X a ta):PE X (.UnaryOp .Not a pos) (tNotV ta):=by
 intro pins s σ H Q I h;refine UnaryOp_ (thn (ha pins s σ H _ I h) fun v s1 zz=>?_);obtain⟨x,H1,I1,r1,q1⟩:=zz;obtain⟨c,rfl,q1⟩:=q1;cases r1;exact not_of (wpAny_truthy_bool ⟨.bl (!c),H1,I1,rfl,q1⟩)
noncomputable def tIf(t:TT)(ta tb:TE):TE:=fun σ H Q=>t σ H fun c H1=>if c=true then ta σ H1 Q else tb σ H1 Q
theorem pe_ifExp{c:Expr}(hc:PT X c tA)(ha:PE X a ta)(hb:PE X b tb):PE X (.IfExp c a b pos) (tIf tA ta tb):=by
 intro pins s σ H Q I h;refine wpAny_IfExp (thn (hc pins s σ H _ I h) fun d s1 zz=>?_);obtain⟨H1,I1,q1⟩:=zz;cases d with
 | true=>exact ha pins s1 σ H1 Q I1 q1
 | false=>exact hb pins s1 σ H1 Q I1 q1
end
end L2
namespace L2
open PySem PySem.Spec PyProof.Rows
noncomputable def SqL(K:W.Frag)(H:Hp)(a:Addr)(xs:List V):Prop:=
 Rd H a (.lst xs) ∨
  ∃(o:Obj) (its:Array Value) (n:Nat),K.lookup a=some o/\o.cls=.type "list" /\ o.dict=none/\o.data=.seq its n/\its.size<=sizeLine/\Vals xs its.toList
noncomputable def SqT(K:W.Frag)(H:Hp)(a:Addr)(xs:List V):Prop:=
 Rd H a (.tup xs) ∨
  ∃(o:Obj) (its:Array Value) (n:Nat),K.lookup a=some o/\o.cls=.type "tuple" /\ o.data=.seq its n/\its.size<=sizeLine/\Vals xs its.toList
noncomputable def absV:Value->Option V
 | .none=>some .non
 | .bool b=>some (.bl b)
 | .int i _=>some (.int i)
 | .str x _=>some (.str x)
 | .bytes b _=>some (.byt b)
 | .float b _=>some (.flt b)
 | .ref a=>some (.ref a)
 | .type n=>some (.ty n)
 | _=>none
theorem RelV.abs{x:V}{u:Value}(r:RelV x u):absV u=some x:=by
 cases x with
 | non=>cases r;rfl
 | bl _=>cases r;rfl
 | int _=>obtain⟨t,rfl⟩:=r;rfl
 | str _=>obtain⟨t,rfl⟩:=r;rfl
 | byt _=>obtain⟨t,rfl⟩:=r;rfl
 | flt _=>obtain⟨t,rfl⟩:=r;rfl
 | ref _=>cases r;rfl
 | ty _=>cases r;rfl
theorem RelV.inj{x y:V}{u:Value}(r:RelV x u)(q:RelV y u):x=y:=Option.some.inj (r.abs.symm.trans q.abs)
theorem Vals.inj:∀{xs ys:List V}{us:List Value},Vals xs us->Vals ys us->xs=ys
 | _,_,_,.nil,.nil=>rfl
 | _,_,_,.cons r t,.cons r' t'=>by rw[r.inj r',Vals.inj t t']
section
variable{X:Cx}{pins:List (Addr×Obj)}{σ:St}{H:Hp}{s:Shared}{a:Addr}{xs ys:List V}
theorem SqL.of{K:W.Frag}(h:H a=some (.lst xs)):SqL K H a xs:=.inl (.inl h)
theorem SqT.of{K:W.Frag}(h:H a=some (.tup xs)):SqT K H a xs:=.inl (.inl h)
theorem Inv.list(I:Inv X pins σ H s)(h:SqL X.K H a xs):∃ its:List Value,Vals xs its/\PlainL s.heap a its.toArray/\xs.length<=sizeLine:=by
 rcases h with h | ⟨o,its,n,hk,hc,hd,hs,hz,r⟩
 · obtain⟨z,its,n,r,e⟩:=h.ok I.hok
   exact⟨its,r,⟨_,n,e,rfl,rfl,rfl⟩,z⟩
 refine⟨its.toList,r,⟨o,n,I.kIn a o hk,hc,hd,by simpa using hs⟩,?_⟩
 have e:=r.length;simp only[Array.length_toList]at e;omega
theorem Inv.tuple(I:Inv X pins σ H s)(h:SqT X.K H a xs):∃ its:List Value,Vals xs its/\IsTup s.heap a its.toArray/\xs.length<=sizeLine:=by
 rcases h with h | ⟨o,its,n,hk,hc,hs,hz,r⟩
 · obtain⟨z,its,r,p⟩:=h.ok I.hok
   exact⟨its,r,p,z⟩
 refine⟨its.toList,r,⟨o,I.kIn a o hk,hc,n,by simpa using hs⟩,?_⟩
 have e:=r.length;simp only[Array.length_toList]at e;omega
theorem Inv.list_inj(I:Inv X pins σ H s)(h:SqL X.K H a xs)(h':SqL X.K H a ys):xs=ys:=by
 obtain⟨its,r,⟨o,n,e,_,_,d⟩,_⟩:=I.list h;obtain⟨its',r',⟨o',n',e',_,_,d'⟩,_⟩:=I.list h';rw[e]at e';cases e';rw[d]at d';injection d' with d1 _;have:its=its':=by simpa using congrArg Array.toList d1
 subst this;exact r.inj r'
theorem Inv.tuple_inj(I:Inv X pins σ H s)(h:SqT X.K H a xs)(h':SqT X.K H a ys):xs=ys:=by
 obtain⟨its,r,⟨o,e,_,n,d⟩,_⟩:=I.tuple h;obtain⟨its',r',⟨o',e',_,n',d'⟩,_⟩:=I.tuple h';rw[e]at e';cases e';rw[d]at d';injection d' with d1 _;have:its=its':=by simpa using congrArg Array.toList d1
 subst this;exact r.inj r'
end
noncomputable abbrev Cx.wish(X:Cx)(E:Value->Shared->Prop):Cx:={ X with xe:=E }
noncomputable abbrev Cx.nox(X:Cx):Cx:=X.wish fun _ _=>False
theorem Cx.Ok.wish{X:Cx}(ok:X.Ok)(E:Value->Shared->Prop):(X.wish E).Ok:=
 ⟨ok.mod,ok.kind,ok.glob,ok.blt,ok.above,ok.inj,ok.has,ok.cab,ok.hd,ok.frames,ok.stk,ok.exf,ok.bs,ok.bsz,ok.noex,ok.exfs,ok.funs,ok.frf⟩
theorem Cx.Ok.unwish{X:Cx}{E:Value->Shared->Prop}(ok:(X.wish E).Ok):X.Ok:=
 ⟨ok.mod,ok.kind,ok.glob,ok.blt,ok.above,ok.inj,ok.has,ok.cab,ok.hd,ok.frames,ok.stk,ok.exf,ok.bs,ok.bsz,ok.noex,ok.exfs,ok.funs,ok.frf⟩
section
variable{X:Cx}{pins:List (Addr×Obj)}{σ:St}{H:Hp}{s:Shared}{E:Value->Shared->Prop}
theorem Inv.wish(I:Inv X pins σ H s)(E:Value->Shared->Prop):Inv (X.wish E) pins σ H s:=⟨I.ok.wish E,I.os,I.bare,I.base,I.loc,I.cell,I.free,I.freeC,I.pin,I.hok,I.len⟩
theorem Inv.unwish(I:Inv (X.wish E) pins σ H s):Inv X pins σ H s:=⟨I.ok.unwish,I.os,I.bare,I.base,I.loc,I.cell,I.free,I.freeC,I.pin,I.hok,I.len⟩
theorem SP.unwish{D:Ends}{f:Flow}{s':Shared}(h:SP (X.wish E) pins D f s'):SP X pins D f s':=by
 cases f with
 | next=>obtain⟨σ',H',I,q⟩:=h;exact⟨σ',H',I.unwish,q⟩
 | brk=>obtain⟨σ',H',I,q⟩:=h;exact⟨σ',H',I.unwish,q⟩
 | cont=>obtain⟨σ',H',I,q⟩:=h;exact⟨σ',H',I.unwish,q⟩
 | ret u=>obtain⟨v,σ',H',I,r,q⟩:=h;exact⟨v,σ',H',I.unwish,r,q⟩
theorem PSs.nox{st:List Stmt}{t:TS}(h:PSs X.nox st t):PSs X st t:=fun pins s σ H D I hw=>
 wpAny_mono (h pins s σ H D (I.wish _) hw) (fun _ _ q=>q.unwish) fun _ _ z=>False.elim z
end
section
variable{X:Cx}{st:Stmt}{rest:List Stmt}{t u:TS}{e:Expr}{te:TE}{pos:Pos}
noncomputable def tNext:TS:=fun D σ H=>D.nx σ H
noncomputable def tSeq(t u:TS):TS:=fun D σ H=>t { D with nx:=u D } σ H
theorem pss_nil:PSs X [] tNext:=fun _ _ σ H _ I h=>wpAny_execs_nil ⟨σ,H,I,h⟩
theorem pss_cons(h1:PS X st t)(h2:PSs X rest u):PSs X (st::rest) (tSeq t u):=by
 intro pins s σ H D I h;refine wpAny_execs_cons (thn (h1 pins s σ H { D with nx:=u D } I h) fun f s1 q=>?_);cases f with
 | next=>
   obtain⟨σ',H',I',q⟩:=q;exact h2 pins s1 σ' H' D I' q
 | ret v=>exact q
 | brk=>exact q
 | cont=>exact q
theorem pss_one(h1:PS X st t):PSs X [st] t:=by
 intro pins s σ H D I h;refine wpAny_execs_cons (thn (h1 pins s σ H D I h) fun f s1 q=>?_);cases f with
 | next=>exact wpAny_execs_nil q
 | ret v=>exact q
 | brk=>exact q
 | cont=>exact q
theorem Inv.quiet{pins:List (Addr×Obj)}{σ:St}{H:Hp}{s:Shared}(I:Inv X pins σ H s):interactive X.env=false:=by simp[interactive,I.ok.kind]
noncomputable def tDrop(te:TE):TS:=fun D σ H=>te σ H fun _ H1=>D.nx σ H1
theorem ps_expr(he:PE X e te)(hs:swapsWith e none pos.line X.env=pure false:=by rfl):PS X (.Expr e pos) (tDrop te):=by
 intro pins s σ H D I h;exact wpAny_Expr_any (thn (he pins s σ H _ I h) fun v s1 ⟨x,H1,I1,r1,q1⟩=>⟨σ,H1,I1,q1⟩) I.quiet hs
noncomputable def tRet(te:TE):TS:=fun D σ H=>te σ H D.rt
theorem ps_ret(he:PE X e te):PS X (.Return (some e) pos) (tRet te):=by
 intro pins s σ H D I h;exact wpAny_Return_some (thn (he pins s σ H _ I h) fun v s1 ⟨x,H1,I1,r1,q1⟩=>⟨x,σ,H1,I1,r1,q1⟩)
noncomputable def tIfS(c:TT)(t u:TS):TS:=fun D σ H=>c σ H fun b H1=>if b=true then t D σ H1 else u D σ H1
theorem ps_if{c:Expr}{a b:List Stmt}{tc:TT}(hc:PT X c tc)(ha:PSs X a t)(hb:PSs X b u):PS X (.If c a b pos) (tIfS tc t u):=by
 intro pins s σ H D I h;refine wpAny_If (thn (hc pins s σ H _ I h) fun d s1 zz=>?_);obtain⟨H1,I1,q1⟩:=zz;cases d with
 | true=>exact ha pins s1 σ H1 D I1 q1
 | false=>exact hb pins s1 σ H1 D I1 q1
noncomputable def tNever:TS:=fun _ _ _=>False
theorem ps_never:PS X st tNever:=fun _ _ _ _ _ _ h=>h.elim
end
noncomputable abbrev TG:=V->St->Hp->(St->Hp->Prop)->Prop
noncomputable abbrev TGs:=List V->St->Hp->(St->Hp->Prop)->Prop
noncomputable def PG(X:Cx)(target:Expr)(t:TG):Prop:=
 ∀(pins:List (Addr×Obj)) (s:Shared) (σ:St) (H:Hp) (v:V) (u:Value) (Q:St->Hp->Prop),Inv X pins σ H s->RelV v u->t v σ H Q ->
   wpAny (model X.prog X.w) X.A (assign target X.env u) (fun _ s'=>∃ σ' H',Inv X pins σ' H' s'/\Q σ' H') X.xe s
noncomputable def PGs(X:Cx)(ts:List Expr)(t:TGs):Prop:=
 ∀(pins:List (Addr×Obj)) (s:Shared) (σ:St) (H:Hp) (vs:List V) (us:List Value) (Q:St->Hp->Prop),Inv X pins σ H s->Vals vs us->t vs σ H Q ->
   wpAny (model X.prog X.w) X.A (assignInOrder ((assignEach ts X.env).map (·.2)) us) (fun _ s'=>∃ σ' H',Inv X pins σ' H' s'/\Q σ' H') X.xe s
noncomputable abbrev TSet:=V->V->V->Hp->(Hp->Prop)->Prop
noncomputable def PSet(X:Cx)(t:TSet):Prop:=
 ∀(pins:List (Addr×Obj)) (s:Shared) (σ:St) (H:Hp) (o i v:V) (ov iv u:Value) (Q:Hp->Prop),Inv X pins σ H s->RelV o ov->RelV i iv->RelV v u->t o i v H Q ->
   wpAny (model X.prog X.w) X.A (setItem ov iv u) (fun _ s'=>∃ H',Inv X pins σ H' s'/\Q H') X.xe s
section
variable{X:Cx}{pos:Pos}
noncomputable def gName(i:Nat):TG:=fun v σ H Q=>Q (σ.set i (some v)) H
theorem pg_name{i:Nat}{x:Str}(hN:X.N.Nodup)(hi:X.N[i]?=some x)(hx:Loc X.env.scope x)(hf:X.fn x=true∨X.env.scope.names.lookup x=some .local:=by first | exact .inl rfl | exact .inr rfl | assumption):PG X (.Name x pos) (gName i):=by
 intro pins s σ H v u Q I r h;exact wpAny_assign_Name (store_ok I hN hi hx r (fun s' I'=>⟨_,H,I',h⟩) hf)
noncomputable def gNil:TGs:=fun vs σ H Q=>vs=[]/\Q σ H
noncomputable def gCons(t:TG)(u:TGs):TGs:=fun vs σ H Q=>∃ v r,vs=v::r/\t v σ H fun σ' H'=>u r σ' H' Q
theorem pgs_nil:PGs X [] gNil:=by
 intro pins s σ H vs us Q I r h;obtain⟨e,h⟩:=h;subst e;cases r;exact assignInOrder_nil ⟨σ,H,I,h⟩
theorem pgs_cons{e:Expr}{es:List Expr}{t:TG}{u:TGs}(h1:PG X e t)(h2:PGs X es u)
 (hs:(assignEach (e::es) X.env).map (·.2)=assign e X.env::(assignEach es X.env).map (·.2):=by rfl):PGs X (e::es) (gCons t u):=by
 intro pins s σ H vs us Q I r h;obtain⟨v,vr,e1,h⟩:=h;subst e1;cases r with
 | cons r rr=>
   rw[hs];refine assignInOrder_cons (thn (h1 pins s σ H _ _ _ I r h) fun _ s1 zz=>?_);obtain⟨σ1,H1,I1,q1⟩:=zz;exact h2 pins s1 σ1 H1 _ _ Q I1 rr q1
noncomputable def gTup(K:W.Frag)(n:Nat)(t:TGs):TG:=fun v σ H Q=>∃ a xs,v=.ref a/\SqT K H a xs/\xs.length=n/\t xs σ H Q
theorem pg_tup{es:List Expr}{k:Nat}{t:TGs}{n:Nat}(hc:X.calm=true)(h:PGs X es t)
 (hn:(assignEach es X.env).length=n:=by rfl) (hst:(assignEach es X.env).findIdx? (·.1)=none:=by rfl):PG X (.Tuple es k pos) (gTup X.K n t):=by
 intro pins s σ H v u Q I r hw;obtain⟨a,xs,e1,hq,hl,hw⟩:=hw;subst e1;cases r;obtain⟨its,rv,ht,hz⟩:=I.tuple hq;refine assign_Tuple_tuple (I.ok.hd hc) ht (by simp[hn,← hl,rv.length]) hst fun h' hx=>?_
 have I1:Inv X pins σ H { s with heap:=h' }:=I.kept (t':=s.toks) fun b o e=>hx b o (Nat.ne_of_lt (Heap.lt_size e)) e;exact h pins _ σ H xs _ Q I1 (by simpa using rv) hw
noncomputable def gSub(to ti:TE)(t:TSet):TG:=fun v σ H Q=>to σ H fun o H1=>ti σ H1 fun i H2=>t o i v H2 fun H3=>Q σ H3
theorem pg_sub{o i:Expr}{to ti:TE}{t:TSet}(ho:PE X o to)(hi:PE X i ti)(hs:PSet X t)
 (ha:∀ v,assign (.Subscript o i pos) X.env v=(do
  let ov ← holding [v] (eval o X.env)
  let iv ← holding [v,ov] (eval i X.env)
  standAt pos
  holding [v,ov,iv] (setItem ov iv v)
  release [v,ov,iv] []):=by intro _;rfl):PG X (.Subscript o i pos) (gSub to ti t):=by
 intro pins s σ H v u Q I r h;rw[ha];refine wpAny_bind (wpAny_holding (thn (ho pins s σ H _ I h) fun ov s1 zz=>?_));obtain⟨x,H1,I1,r1,q1⟩:=zz;refine wpAny_bind (wpAny_holding (thn (hi pins s1 σ H1 _ I1 q1) fun iv s2 zz=>?_));obtain⟨y,H2,I2,r2,q2⟩:=zz;refine wpAny_bind (wpAny_standAt (wpAny_bind (wpAny_holding (thn (hs pins s2 σ H2 x y v ov iv u _ I2 r1 r2 r q2) fun _ s3 zz=>?_))));obtain⟨H3,I3,q3⟩:=zz;exact wpAny_release ⟨σ,H3,I3,q3⟩
noncomputable def tAsg(te:TE)(g:TG):TS:=fun D σ H=>te σ H fun x H1=>g x σ H1 D.nx
theorem ps_asg{tg e:Expr}{te:TE}{g:TG}(he:PE X e te)(hg:PG X tg g)(hs:swapsWithSole [tg] e pos.line X.env=pure false:=by rfl)(hw:swappedStores [tg] e X.env=pure none:=by rfl)
 (h1:(assignEach [tg] X.env).map (·.2)=[assign tg X.env]:=by rfl):PS X (.Assign [tg] e pos) (tAsg te g):=by
 intro pins s σ H D I h;refine wpAny_Assign_stores (thn (he pins s σ H _ I h) fun v s1 ⟨x,H1,I1,r1,q1⟩=>?_) hs hw;rw[h1];exact thn (hg pins s1 σ H1 x v _ I1 r1 q1) fun _ s2 q=>q
theorem ps_set{i:Nat}{x:Str}{e:Expr}{te:TE}{pos':Pos}(hN:X.N.Nodup)(hi:X.N[i]?=some x)(hx:Loc X.env.scope x)(he:PE X e te)(hs:swapsWith e (some (.Name x pos')) pos.line X.env=pure false:=by rfl)(hf:X.fn x=true∨X.env.scope.names.lookup x=some .local:=by first | exact .inl rfl | exact .inr rfl | assumption) :
 PS X (.Assign [.Name x pos'] e pos) (tAsg te (gName i)):=by
 intro pins s σ H D I h;refine wpAny_Assign_Name (thn (he pins s σ H _ I h) fun v s1 ⟨y,H1,I1,r1,q1⟩=>?_) hs;exact store_ok I1 hN hi hx r1 (fun s2 I2=>⟨_,H1,I2,q1⟩) hf
noncomputable def tPar(i j:Nat)(ta:TA):TS:=fun D σ H=>ta σ H fun vs H1=>∃ v w,vs=[v,w]/\D.nx ((σ.set i (some v)).set j (some w)) H1
theorem ps_par{i j:Nat}{x y:Str}{a b:Expr}{ta:TA}{px py pt:Pos}{kt k2 pt2}(hc:X.calm=true)(hN:X.N.Nodup)(hi:X.N[i]?=some x)(hj:X.N[j]?=some y)(hij:i≠j)
 (hx:X.env.scope.names.lookup x=some .local) (hy:X.env.scope.names.lookup y=some .local) (ha:PA X [a,b] ta)
 (hw:swappedStores [.Tuple [.Name x px,.Name y py] kt pt] (.Tuple [a,b] k2 pt2) X.env=pure (some [x,y]))
 (hs:swapsWithSole [.Tuple [.Name x px,.Name y py] kt pt] (.Tuple [a,b] k2 pt2) pos.line X.env=pure false:=by rfl) :
 PS X (.Assign [.Tuple [.Name x px,.Name y py] kt pt] (.Tuple [a,b] k2 pt2) pos) (tPar i j ta):=by
 intro pins s σ H D I h;rw[exec_Assign_arm];refine wpAny_bind (wpAny_standAt ?_);rw[hs];refine wpAny_bind (wpAny_pure ?_);rw[if_neg (by decide)]
 refine wpAny_bind (Tuple_ (thn (ha _ pins s σ H _ I h) fun us s1 zz=>?_));obtain⟨vs,H1,I1,r1,q1⟩:=zz;obtain⟨v,w,e1,q1⟩:=q1;subst e1;obtain⟨u1,u2,rfl,rv,rw'⟩:∃ u1 u2,us=[u1,u2]/\RelV v u1/\RelV w u2:=by
  cases r1 with
  | cons p q=>
    cases q with
    | cons p' q'=>
      cases q';exact⟨_,_,rfl,p,p'⟩
 refine wpAny_newObj_type ?_ (by show 2<=sizeLine;decide)
 have I2:Inv X pins σ H1 { s1 with heap:=s1.heap.push { cls:=.type "tuple",data:=.seq [u1,u2].toArray } }:=I1.kept (t':=s1.toks) fun b o e=>Heap.get?_push_of_some _ e;rw[hw];refine wpAny_bind (wpAny_pure ?_);show wpAny (model X.prog X.w) X.A (do rule "assign.swapped-stores";let items ← unpackItems (.ref s1.heap.objs.size) 2 none;assignInOrder [fun v=>bindName X.env y v,fun v=>bindName X.env x v] items.reverse;pure Flow.next) _ _ _;refine wpAny_bind (wpAny_rule (wpAny_bind (unpackItems_tuple (items:=#[u1,u2]) (I.ok.hd hc) (IsTup.new s1.heap _) fun h' hx'=>?_)));have I3:=I2.kept (h':=h') (t':=s1.toks) fun b o e=>hx' b o (Nat.ne_of_lt (Heap.lt_size e)) e;show wpAny _ _ (assignInOrder [fun v=>bindName X.env y v,fun v=>bindName X.env x v] [u2,u1] >>= fun _=>pure Flow.next) _ _ _;refine wpAny_bind (assignInOrder_cons (wpAny_bindName (store_ok I3 hN hj (.inl hy) rw' (fun s2 I4=>?_) (.inr hy))));refine assignInOrder_cons (wpAny_bindName (store_ok I4 hN hi (.inl hx) rv (fun s3 I5=>assignInOrder_nil (wpAny_pure ?_)) (.inr hx)));rw[List.set_comm _ _ (Ne.symm hij)]at I5;exact⟨_,H1,I5,q1⟩
end
section
variable{X:Cx}{pos:Pos}
end
structure It where
 go:Nat->Hp->Prop
 yld:Nat->Hp->V->Hp->Prop
 stop:Nat->Hp->Prop
noncomputable def FpOk(X:Cx)(pins:List (Addr×Obj))(H:Hp)(b:Addr):Prop:=
 H b=none/\b≠X.env.locals/\b∉X.fs/\(b∈X.ex∨X.s₀.heap.objs.size<=b)/\(∀ x c,X.env.cells.lookup x=some c->c≠b) /\ ∀ p∈X.pn++pins,p.1≠b
theorem Inv.fpOk{X:Cx}{pins:List (Addr×Obj)}{σ:St}{H H':Hp}{s:Shared}{b:Addr}(I:Inv X pins σ H s)(hb:s.heap.objs.size<=b)(hn:H' b=none):FpOk X pins H' b:=by
 refine⟨hn,Nat.ne_of_gt (Nat.lt_of_lt_of_le I.lt hb),I.nofs hb,.inr (Nat.le_trans I.sz hb),fun x c e z=>?_,fun p hp z=>?_⟩
 · obtain⟨v,q⟩:=I.cell x c e
   exact absurd (Nat.lt_of_lt_of_le q.lt (by rw[z];exact hb)) (Nat.lt_irrefl _)
 exact absurd (Nat.lt_of_lt_of_le (Heap.lt_size (I.pin p hp).1) (by rw[z];exact hb)) (Nat.lt_irrefl _)
structure Turn(P:Program)(w:World)(K:W.Frag)(tg:Expr)(J:It)(fp:List Addr)(it:Addr)(tn:Nat->Heap->Prop):Prop where
 mem:it∈fp
 obj:∀ i h,tn i h -> ∀ b∈fp,∃ o,h.get? b=some o /\ ∀ v,o.data ≠ .cell v
 keep:∀ i h h',tn i h->(∀ b∈fp,∀ o,h.get? b=some o->h'.get? b=some o)->tn i h'
 item:∀(X:Cx),X.prog=P->X.w=w->X.K=K->X.calm=true -> ∀(i:Nat) (pins:List (Addr×Obj)) (s:Shared) (σ:St) (H:Hp) (E:Value->Shared->Prop),Inv X pins σ H s->(∀ b∈fp,FpOk X pins H b)->tn i s.heap->J.go i H ->
  wpAny (model P w) X.A (pyNext (.ref it)) (fun r s1=>∃ u,r=some u /\
   wpAny (model P w) X.A (letOwnedTupleGo tg (.ref it) u) (fun _ s2=>∃ x H',Inv X pins σ H' s2/\RelV x u/\J.yld i H x H'/\tn (i+1) s2.heap /\ ∀ b∈fp,H' b=none) E s1) E s
 done:∀(X:Cx),X.prog=P->X.w=w->X.K=K->X.calm=true -> ∀(i:Nat) (pins:List (Addr×Obj)) (s:Shared) (σ:St) (H:Hp) (E:Value->Shared->Prop),Inv X pins σ H s->(∀ b∈fp,FpOk X pins H b)->tn i s.heap->J.stop i H ->
  wpAny (model P w) X.A (pyNext (.ref it)) (fun r s1=>r=none/\Inv X pins σ H s1) E s
 self:∀(A:Around) (i:Nat) (s:Shared) (Q:Value->Shared->Prop) (E:Value->Shared->Prop),tn i s.heap->Q (.ref it) s->wpAny (model P w) A (pyIter (.ref it)) Q E s
noncomputable abbrev TI:=St->Hp->(It->Hp->Prop)->Prop
noncomputable def PIE(X:Cx)(pins:List (Addr×Obj))(σ:St)(tg:Expr)(R:It->Hp->Prop)(itv:Value)(s2:Shared):Prop:=
 ∃(it:Addr) (fp:List Addr) (tn:Nat->Heap->Prop) (J:It) (H':Hp),itv=.ref it/\Inv X pins σ H' s2/\Turn X.prog X.w X.K tg J fp it tn/\tn 0 s2.heap/\(∀ b∈fp,FpOk X pins H' b)/\R J H'
noncomputable def PI(X:Cx)(tg iter:Expr)(wi:TI):Prop:=
 ∀(pins:List (Addr×Obj)) (s:Shared) (σ:St) (H:Hp) (R:It->Hp->Prop),Inv X pins σ H s->wi σ H R ->
   wpAny (model X.prog X.w) X.A (eval iter X.env) (fun v s1=>wpAny (model X.prog X.w) X.A (pyIter v) (PIE X pins σ tg R) X.xe s1) X.xe s
theorem go_of{M:Model}{A:Around}{E:Value->Shared->Prop}{s:Shared}{tg:Expr}{it:Addr}{u:Value}{o:Obj}{n:String}{vs:Array Value}{Q:Unit->Shared->Prop}(ho:s.heap.get? it=some o)(hc:o.cls=.type n)(hd:o.data=.fields vs)
 (hn:["enumerate","zip","dict_itemiterator","dict_reverseitemiterator","odict_iterator","itertools.zip_longest","itertools.pairwise"].contains n=false) (hQ:Q () s):wpAny M A (letOwnedTupleGo tg (.ref it) u) Q E s:=by
 unfold letOwnedTupleGo;cases tg <;> first
  | exact wpAny_pure hQ
  | (cases u <;> first
   | exact wpAny_pure hQ
   | (refine wpAny_bind (wpAny_load ho ?_)
      rw[hc,hd];show wpAny M A (if(["enumerate","zip","dict_itemiterator","dict_reverseitemiterator","odict_iterator","itertools.zip_longest","itertools.pairwise"].contains n && vs[0]? == some (rawInt _))=true then _ else _) Q E s;rw[if_neg (by intro h;rw[hn,Bool.false_and]at h;cases h)]
      exact wpAny_pure hQ))
noncomputable def Itl(K:W.Frag)(a:Addr):It:=
 ⟨fun i H=>∃ xs x,SqL K H a xs/\xs[i]?=some x,fun i H x H'=>H'=H /\ ∀ xs,SqL K H a xs->xs[i]?=some x,fun i H=>∃ xs,SqL K H a xs/\xs.length<=i⟩
noncomputable def Itt(K:W.Frag)(a:Addr):It:=
 ⟨fun i H=>∃ xs x,SqT K H a xs/\xs[i]?=some x,fun i H x H'=>H'=H /\ ∀ xs,SqT K H a xs->xs[i]?=some x,fun i H=>∃ xs,SqT K H a xs/\xs.length<=i⟩
noncomputable def Itr(lo:Int)(n:Nat):It:=⟨fun i _=>i < n,fun i H x H'=>H'=H/\x=.int (lo+i),fun i _=>n<=i⟩
theorem turn_list{P:Program}{w:World}{K:W.Frag}{tg:Expr}(a it:Addr):Turn P w K tg (Itl K a) [it] it (fun i h=>h.IsListIter it a i) where
 mem:=by simp
 obj:=fun i h st b hb=>by
  have e:b=it:=by simpa using hb
  subst e;obtain⟨o,e,c,d⟩:=st;exact⟨o,e,fun v z=>by rw[d]at z;cases z⟩
 keep:=fun i h h' st k=>st.at fun o e=>k it (by simp) o e
 item:=by
  intro X hP hw hK hc i pins s σ H E I hf st hg;subst hP hw hK;obtain⟨xs,x,hq,hx⟩:=hg;obtain⟨its,rv,p,hz⟩:=I.list hq;obtain⟨u,hu,ru⟩:=rv.get hx;obtain⟨f0,f1,f2,f3,f4,f5⟩:=hf it (by simp)
  refine wpAny_pyNext_list_item st p.isList (x:=u) (by simpa using hu) fun h' st' sb=>?_
  have I1:Inv X pins σ H { s with heap:=h' }:=I.turned (t':=s.toks) (fun b o hb e=>(sb.2 b hb).trans e) f0 f1 f3 f4 f5;obtain⟨o,e,c,d⟩:=id st';exact⟨u,rfl,go_of (s:={ s with heap:=h' }) e c d (by decide) ⟨x,H,I1,ru,⟨rfl,fun ys hy=>by rw[I.list_inj hy hq];exact hx⟩,st',fun b hb=>(hf b hb).1⟩⟩
 done:=by
  intro X hP hw hK hc i pins s σ H E I hf st hg;subst hP hw hK;obtain⟨xs,hq,hx⟩:=hg;obtain⟨its,rv,p,hz⟩:=I.list hq;obtain⟨f0,f1,f2,f3,f4,f5⟩:=hf it (by simp)
  have hl:=rv.length;exact wpAny_pyNext_list_end (I.ok.hd hc) st p.isList (by simp;omega) fun h' eb=>⟨rfl,I.turned (t':=s.toks) (fun b o hb e=>eb b o hb e) f0 f1 f3 f4 f5⟩
 self:=fun _ _ _ _ _ st h=>wpAny_pyIter_listiter st h
theorem turn_tuple{P:Program}{w:World}{K:W.Frag}{tg:Expr}(a it:Addr):Turn P w K tg (Itt K a) [it] it (fun i h=>h.IsTupleIter it a i) where
 mem:=by simp
 obj:=fun i h st b hb=>by
  have e:b=it:=by simpa using hb
  subst e;obtain⟨o,e,c,d⟩:=st;exact⟨o,e,fun v z=>by rw[d]at z;cases z⟩
 keep:=fun i h h' st k=>st.at fun o e=>k it (by simp) o e
 item:=by
  intro X hP hw hK hc i pins s σ H E I hf st hg;subst hP hw hK;obtain⟨xs,x,hq,hx⟩:=hg;obtain⟨its,rv,p,hz⟩:=I.tuple hq;obtain⟨u,hu,ru⟩:=rv.get hx;obtain⟨f0,f1,f2,f3,f4,f5⟩:=hf it (by simp)
  refine wpAny_pyNext_tuple_item st (show s.heap.IsTuple a its.toArray from p) (x:=u) (by simpa using hu) fun h' st' sb=>?_
  have I1:Inv X pins σ H { s with heap:=h' }:=I.turned (t':=s.toks) (fun b o hb e=>(sb.2 b hb).trans e) f0 f1 f3 f4 f5;obtain⟨o,e,c,d⟩:=id st';exact⟨u,rfl,go_of (s:={ s with heap:=h' }) e c d (by decide) ⟨x,H,I1,ru,⟨rfl,fun ys hy=>by rw[I.tuple_inj hy hq];exact hx⟩,st',fun b hb=>(hf b hb).1⟩⟩
 done:=by
  intro X hP hw hK hc i pins s σ H E I hf st hg;subst hP hw hK;obtain⟨xs,hq,hx⟩:=hg;obtain⟨its,rv,p,hz⟩:=I.tuple hq;obtain⟨f0,f1,f2,f3,f4,f5⟩:=hf it (by simp)
  have hl:=rv.length;exact wpAny_pyNext_tuple_end (I.ok.hd hc) st (show s.heap.IsTuple a its.toArray from p) (by simp;omega) fun h' eb=>⟨rfl,I.turned (t':=s.toks) (fun b o hb e=>eb b o hb e) f0 f1 f3 f4 f5⟩
 self:=fun _ _ _ _ _ st h=>wpAny_pyIter_tupleiter st h
theorem turn_range{P:Program}{w:World}{K:PySem.W.Frag}{tg:Expr}(it:Addr)(lo:Int)(n:Nat):Turn P w K tg (Itr lo n) [it] it (fun i h=>IsRangeIter h it (lo+(i:Nat)*1) ((n:Int) - (i:Nat)) 1) where
 mem:=by simp
 obj:=fun i h st b hb=>by
  have e:b=it:=by simpa using hb
  subst e;exact⟨_,st,fun v z=>by
   have z':Data.fields _=Data.cell v:=z;cases z'⟩
 keep:=fun i h h' st k=>k it (by simp) _ st
 item:=by
  intro X hP hw hK hc i pins s σ H E I hf st hg;subst hP hw hK;obtain⟨f0,f1,f2,f3,f4,f5⟩:=hf it (by simp)
  have W:=Walks.range (prog:=X.prog) (w:=X.w) (I.ok.hd hc) it lo 1 n;refine W.item i s _ _ hg st fun v h' tk hv st' kk=>?_;obtain⟨t,rfl⟩:=hv;have I1:Inv X pins σ H { s with heap:=h',toks:=tk }:=I.turned (fun b o hb e=>kk b o (by simpa using hb) e) f0 f1 f3 f4 f5
  refine⟨_,rfl,go_of (s:={ s with heap:=h',toks:=tk }) (n:="range_iterator") st' rfl rfl (by decide) ⟨.int (lo+i),H,I1,⟨t,?_⟩,⟨rfl,rfl⟩,st',fun b hb=>(hf b hb).1⟩⟩
  rw[Int.mul_one]
 done:=by
  intro X hP hw hK hc i pins s σ H E I hf st hg;subst hP hw hK;obtain⟨f0,f1,f2,f3,f4,f5⟩:=hf it (by simp)
  exact wpAny_pyNext_range_end (I.ok.hd hc) st (by have:n<=i:=hg;omega) fun h' eb=>⟨rfl,I.turned (t':=s.toks) (fun b o hb e=>eb b o hb e) f0 f1 f3 f4 f5⟩
 self:=fun _ _ _ _ _ st h=>wpAny_pyIter_rangeiter st h
end L2
namespace L2
open PySem PySem.Spec PyProof.Rows
section
variable{X:Cx}{tg:Expr}
noncomputable def iList(K:W.Frag)(tl:TE):TI:=fun σ H R=>tl σ H fun x H1=>∃ a,x=.ref a/\(∃ xs,SqL K H1 a xs)/\R (Itl K a) H1
noncomputable def iTup(K:W.Frag)(tl:TE):TI:=fun σ H R=>tl σ H fun x H1=>∃ a,x=.ref a/\(∃ xs,SqT K H1 a xs)/\R (Itt K a) H1
theorem pi_list{l:Expr}{tl:TE}(hl:PE X l tl):PI X tg l (iList X.K tl):=by
 intro pins s σ H R I h;refine thn (hl pins s σ H _ I h) fun v s1 zz=>?_;obtain⟨x,H1,I1,r1,q1⟩:=zz;obtain⟨a,e,⟨xs,hq⟩,q⟩:=q1;subst e;cases r1;obtain⟨its,rv,p,hz⟩:=I1.list hq;refine wpAny_pyIter_list p.isList ?_;refine⟨s1.heap.objs.size,[s1.heap.objs.size],_,_,H1,rfl,I1.kept (t':=s1.toks) fun b o e=>Heap.get?_push_of_some _ e,turn_list a _,⟨_,Heap.get?_push_size _ rfl,rfl,rfl⟩,fun b hb=>?_,q⟩;have e:b=s1.heap.objs.size:=by simpa using hb
 subst e;exact I1.fpOk (Nat.le_refl _) (I1.hok.fresh (Nat.le_refl _))
theorem pi_tup{l:Expr}{tl:TE}(hl:PE X l tl):PI X tg l (iTup X.K tl):=by
 intro pins s σ H R I h;refine thn (hl pins s σ H _ I h) fun v s1 zz=>?_;obtain⟨x,H1,I1,r1,q1⟩:=zz;obtain⟨a,e,⟨xs,hq⟩,q⟩:=q1;subst e;cases r1;obtain⟨its,rv,p,hz⟩:=I1.tuple hq;refine wpAny_pyIter_tuple (show s1.heap.IsTuple a its.toArray from p) ?_;refine⟨s1.heap.objs.size,[s1.heap.objs.size],_,_,H1,rfl,I1.kept (t':=s1.toks) fun b o e=>Heap.get?_push_of_some _ e,turn_tuple a _,⟨_,Heap.get?_push_size _ rfl,rfl,rfl⟩,fun b hb=>?_,q⟩;have e:b=s1.heap.objs.size:=by simpa using hb
 subst e;exact I1.fpOk (Nat.le_refl _) (I1.hok.fresh (Nat.le_refl _))
theorem range_it{pins:List (Addr×Obj)}{σ:St}{H:Hp}{s:Shared}{R:It->Hp->Prop}{E:Value->Shared->Prop}{lo hi:Int}{t u v:Tok}{tk:Nat}(I:Inv X pins σ H s)(h1:-(2 ^ 62)<=lo)(h2:lo < 2 ^ 62)(h3:-(2 ^ 62)<=hi)(h4:hi < 2 ^ 62)
 (q:R (Itr lo (hi - lo).toNat) H):wpAny (model X.prog X.w) X.A (pyIter (.ref s.heap.objs.size)) (PIE X pins σ tg R) E { s with heap:=s.heap.push { cls:=.type "range",data:=.fields #[.int lo t,.int hi u,.int 1 v] },toks:=tk }:=by
 refine wpAny_pyIter_range (IsRange.new ..) (small_one h1 h2 h3 h4) ?_;have I1:Inv X pins σ H { s with heap:=s.heap.push { cls:=.type "range",data:=.fields #[.int lo t,.int hi u,.int 1 v] },toks:=tk }:=I.kept fun b o e=>Heap.get?_push_of_some _ e;refine⟨(s.heap.push { cls:=.type "range",data:=.fields #[.int lo t,.int hi u,.int 1 v] }).objs.size,[(s.heap.push { cls:=.type "range",data:=.fields #[.int lo t,.int hi u,.int 1 v] }).objs.size],_,_,H,rfl,
  I1.kept (t':=tk) fun b o e=>Heap.get?_push_of_some _ e,turn_range _ lo (hi - lo).toNat,?_,fun b hb=>?_,q⟩
 · have e1:lo+((0:Nat):Int)*1=lo:=by simp
   have e2:(((hi - lo).toNat:Nat):Int) - ((0:Nat):Int)=Builtin.Range.rangeSize lo hi 1:=by rw[rangeSize_one];split <;> omega
   show IsRangeIter _ _ (lo+((0:Nat):Int)*1) ((((hi - lo).toNat:Nat):Int) - ((0:Nat):Int)) 1;rw[e1,e2];exact Heap.get?_push_size _ rfl
 have e:b=(s.heap.push { cls:=.type "range",data:=.fields #[.int lo t,.int hi u,.int 1 v] }).objs.size:=by simpa using hb
 subst e;exact I1.fpOk (Nat.le_refl _) (I1.hok.fresh (Nat.le_refl _))
noncomputable def iRng1(ta:TA):TI:=fun σ H R=>ta σ H fun vs H1=>∃ j:Int,vs=[.int j] /\ -(2 ^ 62)<=j/\j < 2 ^ 62/\R (Itr 0 j.toNat) H1
theorem pi_range1{a:Expr}{ta:TA}{p pos:Pos}(hg:Gl X "range")(hm:X.mg "range"=none)(ha:PA X [a] ta)(hs:starEach [a] X.env=[(false,eval a X.env)]:=by rfl):PI X tg (.Call (.Name "range" p) [a] [] pos) (iRng1 ta):=by
 intro pins s σ H R I h;refine Call_ (ld_blt I hg hm boot_range (PyProof.Rows.callWith_type1 (thn (ha pos pins s σ H _ I h) fun us s1 ⟨vs,H1,I1,r1,q1⟩=>?_) hs rfl));obtain⟨j,e,q1,q2,q⟩:=q1;subst e;cases r1 with
 | cons r rr=>
   cases rr;obtain⟨t,rfl⟩:=r;exact call_range_1 (range_it I1 (by omega) (by omega) q1 q2 (by simpa using q))
noncomputable def tFor(wi:TI)(g:TG)(tb:TS):TS:=fun D σ H=>wi σ H fun J H1=>∃ W:Nat->Nat->St->Hp->Prop,(∃ m,W 0 m σ H1) /\ ∀ i m σ H,W i m σ H ->
 (J.stop i H/\D.nx σ H)∨(J.go i H /\ ∃ N:St->Hp->Prop,(∀ σ' H',N σ' H' -> ∃ m',m' < m/\W (i+1) m' σ' H') /\ ∀ x H',J.yld i H x H'->g x σ H' fun σ2 H2=>tb { D with nx:=N,ct:=N,bk:=D.nx } σ2 H2)
noncomputable def pinsAt(fp:List Addr)(h:Heap):List (Addr×Obj):=fp.filterMap fun b=>(h.get? b).map fun o=>(b,o)
theorem mem_pinsAt{fp:List Addr}{h:Heap}{b:Addr}{o:Obj}(hb:b∈fp)(e:h.get? b=some o):(b,o)∈pinsAt fp h:=List.mem_filterMap.mpr ⟨b,hb,by rw[e];rfl⟩
theorem of_pinsAt{fp:List Addr}{h:Heap}{p:Addr×Obj}(hp:p∈pinsAt fp h):p.1∈fp/\h.get? p.1=some p.2:=by
 obtain⟨b,hb,e⟩:=List.mem_filterMap.mp hp;cases q:h.get? b with
 | none=>rw[q]at e;cases e
 | some o=>
   rw[q]at e;have e':(b,o)=p:=Option.some.inj e;subst e';exact⟨hb,q⟩
theorem Inv.pinned{pins:List (Addr×Obj)}{σ:St}{H:Hp}{s:Shared}{fp:List Addr}(I:Inv X pins σ H s)(hf:∀ b∈fp,FpOk X pins H b)(ho:∀ b∈fp,∃ o,s.heap.get? b=some o /\ ∀ v,o.data ≠ .cell v):Inv X (pins++pinsAt fp s.heap) σ H s:=
 I.pins_of fun p hp=>(List.mem_append.mp hp).elim (fun z=>I.pin p (List.mem_append_right _ z)) fun z=>by
  obtain⟨hb,e⟩:=of_pinsAt z;obtain⟨f0,f1,f2,_⟩:=hf p.1 hb;obtain⟨o,e',d⟩:=ho p.1 hb;rw[e]at e';cases e';exact⟨e,f0,f1,f2,d⟩
theorem Inv.unpinned{pins pl:List (Addr×Obj)}{σ:St}{H:Hp}{s:Shared}(I:Inv X (pins++pl) σ H s):Inv X pins σ H s:=I.pins_of fun p hp=>I.pin p (List.mem_append_right _ (List.mem_append_left _ hp))
theorem ps_for{iter:Expr}{body:List Stmt}{wi:TI}{g:TG}{tb:TS}{pos:Pos}(hp:PassesOwn (model X.prog X.w) X.A X.env X.xe)(hc:X.calm=true)(hi:PI X tg iter wi)(hg:PG X tg g)(hb:PSs X body tb)
 (hs:∀ x,foldedSetIterable iter X.env x=pure x:=by intro _;rfl):PS X (.For tg iter body [] pos) (tFor wi g tb):=by
 intro pins s σ H D I h;refine wpAny_For (thn (hi pins s σ H _ I h) fun v s1 h1=>thn h1 fun itv s2 h2=>?_) hs;obtain⟨it,fp,tn,J,H2,e,I2,T,st2,f2,W,⟨m0,w0⟩,turn⟩:=h2;subst e
 -- what stays true of the iterator's objects through the loop
 have stat:∀{H':Hp},(∀ b∈fp,H' b=none) -> ∀ b∈fp,FpOk X pins H' b:=fun hn b hb=>⟨hn b hb,(f2 b hb).2⟩;refine codeAny_forLoop_any (fun n s'=>∃ i σ' H',Inv X pins σ' H' s'/\tn i s'.heap/\(∀ b∈fp,H' b=none)/\W i n σ' H') ?_ m0 ⟨0,σ,H2,I2,st2,fun b hb=>(f2 b hb).1,w0⟩;rintro n s3 ⟨i,σ3,H3,I3,st3,fr3,w3⟩;rcases turn i n σ3 H3 w3 with ⟨stop,qn⟩ | ⟨go,N,hN,step⟩
 · refine wpAny_passesOwn hp (thn (T.done X rfl rfl rfl hc i pins s3 σ3 H3 X.xe I3 (stat fr3) st3 stop) fun r s4 zz=>?_)
   obtain⟨hr,I4⟩:=zz;subst hr;exact wpAny_execs_nil ⟨σ3,H3,I4,qn⟩
 refine wpAny_passesOwn hp (thn (T.item X rfl rfl rfl hc i pins s3 σ3 H3 X.xe I3 (stat fr3) st3 go) fun r s4 zz=>?_);obtain⟨u,hr,h4⟩:=zz;subst hr;refine wpAny_passesOwn hp (thn h4 fun _ s5 zz=>?_);obtain⟨x,H5,I5,r5,y5,st5,fr5⟩:=zz;have I5':=I5.pinned (stat fr5) (T.obj _ _ st5);refine wpAny_passesOwn hp (thn (hg _ s5 σ3 H5 x u _ I5' r5 (step x H5 y5)) fun _ s6 zz=>?_);obtain⟨σ6,H6,I6,q6⟩:=zz;refine wpAny_passesOwn hp (thn (hb _ s6 σ6 H6 _ I6 q6) fun f s7 q7=>?_);have again:∀{σ7:St}{H7:Hp},Inv X (pins++pinsAt fp s5.heap) σ7 H7 s7->N σ7 H7 -> ∃ m,m < n /\ ∃ i σ' H',Inv X pins σ' H' s7/\tn i s7.heap/\(∀ b∈fp,H' b=none)/\W i m σ' H':=fun {σ7 H7} I7 n7=>by
  obtain⟨m',hm,w7⟩:=hN σ7 H7 n7;refine⟨m',hm,i+1,σ7,H7,I7.unpinned,T.keep _ _ _ st5 fun b hb o e=>(I7.pin (b,o) (List.mem_append_right _ (List.mem_append_right _ (mem_pinsAt hb e)))).1,fun b hb=>?_,w7⟩;obtain⟨o,e,d⟩:=T.obj _ _ st5 b hb;exact(I7.pin (b,o) (List.mem_append_right _ (List.mem_append_right _ (mem_pinsAt hb e)))).2.1
 cases f with
 | next=>obtain⟨σ7,H7,I7,n7⟩:=q7;exact again I7 n7
 | cont=>obtain⟨σ7,H7,I7,n7⟩:=q7;exact again I7 n7
 | brk=>obtain⟨σ7,H7,I7,q7⟩:=q7;exact⟨σ7,H7,I7.unpinned,q7⟩
 | ret v=>obtain⟨x7,σ7,H7,I7,r7,q7⟩:=q7;exact⟨x7,σ7,H7,I7.unpinned,r7,q7⟩
end
theorem for_list{K:PySem.W.Frag}{a:Addr}{xs:List V}{g:TG}{tb:TS}{D:Ends}{σ:St}{H:Hp}(Pv:Nat->St->Hp->Prop)(h0:Pv 0 σ H)(hl:∀ i σ H,i<=xs.length->Pv i σ H->SqL K H a xs)
 (hs:∀ i x σ H,xs[i]?=some x->Pv i σ H->g x σ H fun σ2 H2=>tb { D with nx:=Pv (i+1),ct:=Pv (i+1),bk:=D.nx } σ2 H2) (hd:∀ σ H,Pv xs.length σ H->D.nx σ H) :
 ∃ W:Nat->Nat->St->Hp->Prop,(∃ m,W 0 m σ H) /\ ∀ i m σ H,W i m σ H ->
   ((Itl K a).stop i H/\D.nx σ H)∨((Itl K a).go i H /\ ∃ N:St->Hp->Prop,(∀ σ' H',N σ' H' -> ∃ m',m' < m/\W (i+1) m' σ' H') /\ ∀ x H',(Itl K a).yld i H x H'->g x σ H' fun σ2 H2=>tb { D with nx:=N,ct:=N,bk:=D.nx } σ2 H2):=by
 refine⟨fun i m σ H=>m=xs.length - i/\i<=xs.length/\Pv i σ H,⟨xs.length,by simp,Nat.zero_le _,h0⟩,?_⟩
 rintro i m σ H ⟨rfl,hi,p⟩;have q:=hl i σ H hi p;by_cases hlt:i < xs.length
 · refine .inr ⟨⟨xs,xs[i],q,by simp[hlt]⟩,Pv (i+1),fun σ' H' p'=>⟨xs.length - (i+1),by omega,rfl,hlt,p'⟩,fun x H' y=>?_⟩
   obtain⟨e,y⟩:=y;subst e;exact hs i x σ _ (y xs q) p
 have e:i=xs.length:=by omega
 subst e;exact .inl ⟨⟨xs,q,Nat.le_refl _⟩,hd σ H p⟩
theorem for_tup{K:PySem.W.Frag}{a:Addr}{xs:List V}{g:TG}{tb:TS}{D:Ends}{σ:St}{H:Hp}(Pv:Nat->St->Hp->Prop)(h0:Pv 0 σ H)(hl:∀ i σ H,i<=xs.length->Pv i σ H->SqT K H a xs)
 (hs:∀ i x σ H,xs[i]?=some x->Pv i σ H->g x σ H fun σ2 H2=>tb { D with nx:=Pv (i+1),ct:=Pv (i+1),bk:=D.nx } σ2 H2) (hd:∀ σ H,Pv xs.length σ H->D.nx σ H) :
 ∃ W:Nat->Nat->St->Hp->Prop,(∃ m,W 0 m σ H) /\ ∀ i m σ H,W i m σ H ->
   ((Itt K a).stop i H/\D.nx σ H)∨((Itt K a).go i H /\ ∃ N:St->Hp->Prop,(∀ σ' H',N σ' H' -> ∃ m',m' < m/\W (i+1) m' σ' H') /\ ∀ x H',(Itt K a).yld i H x H'->g x σ H' fun σ2 H2=>tb { D with nx:=N,ct:=N,bk:=D.nx } σ2 H2):=by
 refine⟨fun i m σ H=>m=xs.length - i/\i<=xs.length/\Pv i σ H,⟨xs.length,by simp,Nat.zero_le _,h0⟩,?_⟩
 rintro i m σ H ⟨rfl,hi,p⟩;have q:=hl i σ H hi p;by_cases hlt:i < xs.length
 · refine .inr ⟨⟨xs,xs[i],q,by simp[hlt]⟩,Pv (i+1),fun σ' H' p'=>⟨xs.length - (i+1),by omega,rfl,hlt,p'⟩,fun x H' y=>?_⟩
   obtain⟨e,y⟩:=y;subst e;exact hs i x σ _ (y xs q) p
 have e:i=xs.length:=by omega
 subst e;exact .inl ⟨⟨xs,q,Nat.le_refl _⟩,hd σ H p⟩
theorem for_range{lo:Int}{n:Nat}{g:TG}{tb:TS}{D:Ends}{σ:St}{H:Hp}(Pv:Nat->St->Hp->Prop)(h0:Pv 0 σ H)
 (hs:∀ i σ H,i < n->Pv i σ H->g (.int (lo+i)) σ H fun σ2 H2=>tb { D with nx:=Pv (i+1),ct:=Pv (i+1),bk:=D.nx } σ2 H2) (hd:∀ σ H,Pv n σ H->D.nx σ H) :
 ∃ W:Nat->Nat->St->Hp->Prop,(∃ m,W 0 m σ H) /\ ∀ i m σ H,W i m σ H ->
   ((Itr lo n).stop i H/\D.nx σ H)∨((Itr lo n).go i H /\ ∃ N:St->Hp->Prop,(∀ σ' H',N σ' H' -> ∃ m',m' < m/\W (i+1) m' σ' H') /\ ∀ x H',(Itr lo n).yld i H x H'->g x σ H' fun σ2 H2=>tb { D with nx:=N,ct:=N,bk:=D.nx } σ2 H2):=by
 refine⟨fun i m σ H=>m=n - i/\i<=n/\Pv i σ H,⟨n,by simp,Nat.zero_le _,h0⟩,?_⟩
 rintro i m σ H ⟨rfl,hi,p⟩;by_cases hlt:i < n
 · refine .inr ⟨hlt,Pv (i+1),fun σ' H' p'=>⟨n - (i+1),by omega,rfl,hlt,p'⟩,fun x H' y=>?_⟩
   obtain⟨e,y⟩:=y;subst e y;exact hs i σ _ hlt p
 have e:i=n:=by omega
 subst e;exact .inl ⟨Nat.le_refl _,hd σ H p⟩
end L2
namespace L2
open PySem PySem.Spec PyProof.Rows
noncomputable abbrev R2:=V->V->Hp->VK->Prop
noncomputable def OpR(X:Cx)(f:Value->Value->Sem Value)(r:R2):Prop:=
 ∀(pins:List (Addr×Obj)) (s:Shared) (σ:St) (H:Hp) (x y:V) (v u:Value) (Q:VK),Inv X pins σ H s->RelV x v->RelV y u->r x y H Q ->
   wpAny (model X.prog X.w) X.A (f v u) (EP X pins σ Q) X.xe s
noncomputable def UnR(X:Cx)(f:Value->Sem Value)(r:V->Hp->VK->Prop):Prop:=
 ∀(pins:List (Addr×Obj)) (s:Shared) (σ:St) (H:Hp) (x:V) (v:Value) (Q:VK),Inv X pins σ H s->RelV x v->r x H Q ->
   wpAny (model X.prog X.w) X.A (f v) (EP X pins σ Q) X.xe s
noncomputable def CallR(X:Cx)(f:Value)(r:List V->Hp->VK->Prop):Prop:=
 ∀(pins:List (Addr×Obj)) (s:Shared) (σ:St) (H:Hp) (xs:List V) (us:List Value) (Q:VK),Inv X pins σ H s->Vals xs us->r xs H Q ->
   wpAny (model X.prog X.w) X.A (call f us) (EP X pins σ Q) X.xe s
noncomputable def tOp(r:R2)(ta tb:TE):TE:=fun σ H Q=>ta σ H fun x H1=>tb σ H1 fun y H2=>r x y H2 Q
noncomputable def tUn(r:V->Hp->VK->Prop)(ta:TE):TE:=fun σ H Q=>ta σ H fun x H1=>r x H1 Q
noncomputable def rI(C:Int->Int->Prop)(g:Int->Int->V):R2:=fun x y H Q=>∃ i j,x=.int i/\y=.int j/\C i j/\Q (g i j) H
noncomputable def rI0(g:Int->Int->V):R2:=fun x y H Q=>∃ i j,x=.int i/\y=.int j/\Q (g i j) H
noncomputable def rU(g:Int->V):V->Hp->VK->Prop:=fun x H Q=>∃ i,x=.int i/\Q (g i) H
section
variable{X:Cx}{a b c:Expr}{ta tb tc:TE}{pos:Pos}
theorem binT(ha:PE X a ta)(hb:PE X b tb){pins:List (Addr×Obj)}{s:Shared}{σ:St}{H:Hp}{R:V->V->Hp->Prop}(I:Inv X pins σ H s)
 (h:ta σ H fun x H1=>tb σ H1 fun y H2=>R x y H2) {Q:Value->Shared->Prop}{f:Value->Value->Sem Value}
 (hf:∀ v u s2 x y H2,Inv X pins σ H2 s2->RelV x v->RelV y u->R x y H2->wpAny (model X.prog X.w) X.A (f v u) Q X.xe s2) :
 wpAny (model X.prog X.w) X.A (eval a X.env) (fun v s₁=>wpAny (model X.prog X.w) X.A (eval b X.env) (fun u s₂=>wpAny (model X.prog X.w) X.A (f v u) Q X.xe s₂) X.xe s₁) X.xe s:=by
 refine thn (ha pins s σ H _ I h) fun v s1 zz=>?_;obtain⟨x,H1,I1,r1,q1⟩:=zz;refine thn (hb pins s1 σ H1 _ I1 q1) fun u s2 zz=>?_;obtain⟨y,H2,I2,r2,q2⟩:=zz;exact hf v u s2 x y H2 I2 r1 r2 q2
theorem pe_op{op:Operator}{r:R2}(ho:OpR X (binaryOp op) r)(ha:PE X a ta)(hb:PE X b tb):PE X (.BinOp a op b pos) (tOp r ta tb):=by
 intro pins s σ H Q I h;exact wpAny_BinOp (binT ha hb I h fun v u s2 x y H2 I2 rx ry q=>ho pins s2 σ H2 x y v u Q I2 rx ry q)
theorem pe_un{op:UnaryOp}{r:V->Hp->VK->Prop}(ho:UnR X (unaryOp op) r)(ha:PE X a ta):PE X (.UnaryOp op a pos) (tUn r ta):=by
 intro pins s σ H Q I h;exact UnaryOp_ (thn (ha pins s σ H _ I h) fun v s1 ⟨x,H1,I1,r1,q1⟩=>ho pins s1 σ H1 x v Q I1 r1 q1)
theorem opI{f:Value->Value->Sem Value}{C:Int->Int->Prop}{g:Int->Int->Int}
 (rule:∀(i j:Int) (t u:Tok) (s:Shared) (Q:Value->Shared->Prop) (E:Value->Shared->Prop),C i j->Q (.int (g i j) s.toks) { s with toks:=s.toks+1 } -> wpAny (model X.prog X.w) X.A (f (.int i t) (.int j u)) Q E s) :
 OpR X f (rI C fun i j=>.int (g i j)):=by
 intro pins s σ H x y v u Q I rx ry h;obtain⟨i,j,rfl,rfl,hc,q⟩:=h;obtain⟨t,rfl⟩:=rx;obtain⟨t',rfl⟩:=ry;exact rule i j t t' s _ _ hc ⟨.int (g i j),H,I.tok _,⟨_,rfl⟩,q⟩
theorem opI0{f:Value->Value->Sem Value}{g:Int->Int->Int}
 (rule:∀(i j:Int) (t u:Tok) (s:Shared) (Q:Value->Shared->Prop) (E:Value->Shared->Prop),Q (.int (g i j) s.toks) { s with toks:=s.toks+1 } -> wpAny (model X.prog X.w) X.A (f (.int i t) (.int j u)) Q E s) :
 OpR X f (rI0 fun i j=>.int (g i j)):=by
 intro pins s σ H x y v u Q I rx ry h;obtain⟨i,j,rfl,rfl,q⟩:=h;obtain⟨t,rfl⟩:=rx;obtain⟨t',rfl⟩:=ry;exact rule i j t t' s _ _ ⟨.int (g i j),H,I.tok _,⟨_,rfl⟩,q⟩
theorem opB0{f:Value->Value->Sem Value}{g:Int->Int->Bool}
 (rule:∀(i j:Int) (t u:Tok) (s:Shared) (Q:Value->Shared->Prop) (E:Value->Shared->Prop),Q (.bool (g i j)) s->wpAny (model X.prog X.w) X.A (f (.int i t) (.int j u)) Q E s) :
 OpR X f (rI0 fun i j=>.bl (g i j)):=by
 intro pins s σ H x y v u Q I rx ry h;obtain⟨i,j,rfl,rfl,q⟩:=h;obtain⟨t,rfl⟩:=rx;obtain⟨t',rfl⟩:=ry;exact rule i j t t' s _ _ ⟨.bl (g i j),H,I,rfl,q⟩
noncomputable def CPow(i j:Int):Prop:=0<=j/\j<=1000000/\i.natAbs < 2 ^ 64
noncomputable def CMul(i j:Int):Prop:=(-(2 ^ 64) < i/\i < 2 ^ 64)∨(-(2 ^ 64) < j/\j < 2 ^ 64)
theorem CMul.ok{i j:Int}(h:CMul i j):IntMulOk i j:=by
 rcases h with ⟨h1,h2⟩ | ⟨h1,h2⟩
 · exact .of_left (intBits_le_64 h1 h2)
 exact .of_right (intBits_le_64 h1 h2)
theorem two_pow_nn(k:Nat):(0:Int)<=2 ^ k:=by
 rw[two_pow_cast];exact Int.natCast_nonneg _
theorem op_add:OpR X (binaryOp .Add) (rI0 fun i j=>.int (i+j)):=opI0 fun _ _ _ _ _ _ _ q=>add_int q
theorem op_sub:OpR X (binaryOp .Sub) (rI0 fun i j=>.int (i - j)):=opI0 fun _ _ _ _ _ _ _ q=>sub_int q
theorem op_mul:OpR X (binaryOp .Mult) (rI CMul fun i j=>.int (i*j)):=opI fun _ _ _ _ _ _ _ hc q=>mul_int q hc.ok
theorem op_mod:OpR X (binaryOp .Mod) (rI (fun _ j=>0 < j) fun i j=>.int (i % j)):=opI fun i j _ _ _ _ _ hc q=>by
 have h1:(0:Int) < j:=hc;exact mod_int' (by omega) (by rw[Int.fmod_eq_emod_of_nonneg i (by omega)];exact q)
theorem op_pow:OpR X (binaryOp .Pow) (rI CPow fun i j=>.int (i ^ j.toNat)):=opI fun _ _ _ _ _ _ _ hc q=>pow_int_small hc.1 hc.2.1 hc.2.2 q
theorem op_shl:OpR X (binaryOp .LShift) (rI CPow fun i j=>.int (i*2 ^ j.toNat)):=opI fun _ _ _ _ _ _ _ hc q=>lshift_int_small hc.1 hc.2.1 hc.2.2 q
theorem op_shr:OpR X (binaryOp .RShift) (rI (fun _ j=>0<=j) fun i j=>.int (i / 2 ^ j.toNat)):=opI fun i j _ _ _ _ _ hc q=>
 rshift_int hc (by rw[Int.fdiv_eq_ediv_of_nonneg i (two_pow_nn _)];exact q)
theorem op_and:OpR X (binaryOp .BitAnd) (rI0 fun i j=>.int (Builtin.bitAnd i j)):=opI0 fun _ _ _ _ _ _ _ q=>and_int q
theorem unI{f:Value->Sem Value}{g:Int->Int}
 (rule:∀(i:Int) (t:Tok) (s:Shared) (Q:Value->Shared->Prop) (E:Value->Shared->Prop),Q (.int (g i) s.toks) { s with toks:=s.toks+1 } -> wpAny (model X.prog X.w) X.A (f (.int i t)) Q E s) :
 UnR X f (rU fun i=>.int (g i)):=by
 intro pins s σ H x v Q I rx h;obtain⟨i,rfl,q⟩:=h;obtain⟨t,rfl⟩:=rx;exact rule i t s _ _ ⟨.int (g i),H,I.tok _,⟨_,rfl⟩,q⟩
theorem un_neg:UnR X (unaryOp .USub) (rU fun i=>.int (-i)):=unI fun _ _ _ _ _ q=>neg_int q
end
noncomputable def scal:V->V->Bool
 | .non,.non=>true | .non,.int _=>true | .int _,.non=>true | .non,.bl _=>true | .bl _,.non=>true | .non,.str _=>true | .str _,.non=>true
 | .int _,.int _=>true | .bl _,.bl _=>true | .str _,.str _=>true | .byt _,.byt _=>true
 | .int _,.str _=>true | .str _,.int _=>true | .bl _,.str _=>true | .str _,.bl _=>true
 | _,_=>false
noncomputable def rEq:R2:=fun x y H Q=>scal x y=true/\Q (.bl (decide (x=y))) H
noncomputable def rNe:R2:=fun x y H Q=>scal x y=true/\Q (.bl (!decide (x=y))) H
theorem dec_int{i j:Int}:decide (V.int i=V.int j)=(i == j):=by
 rw[Bool.eq_iff_iff];simp
theorem dec_bl{i j:Bool}:decide (V.bl i=V.bl j)=(i == j):=by
 rw[Bool.eq_iff_iff];simp
theorem dec_str{i j:Str}:decide (V.str i=V.str j)=(i == j):=by
 rw[Bool.eq_iff_iff];simp
theorem dec_byt{i j:Array UInt8}:decide (V.byt i=V.byt j)=(i.toList == j.toList):=by
 rw[Bool.eq_iff_iff];cases i;cases j;simp
section
variable{X:Cx}{a b c:Expr}{ta tb tc:TE}{pos:Pos}
theorem fin_bl{pins:List (Addr×Obj)}{σ:St}{H:Hp}{s:Shared}{Q:VK}{k k':Bool}(I:Inv X pins σ H s)(q:Q (.bl k) H)(e:k=k'):EP X pins σ Q (.bool k') s:=by
 subst e;exact⟨.bl k,H,I,rfl,q⟩
theorem op_eq:OpR X (compareOp .Eq) rEq:=by
 intro pins s σ H x y v u Q I rx ry h;obtain⟨hs,q⟩:=h;cases x with
 | non=>
   cases rx;cases y with
   | non=>cases ry;exact PySem.EqNone.eq_none_none (fin_bl I q (by simp))
   | bl j=>cases ry;exact PySem.EqNone.eq_none_bool (fin_bl I q (by simp))
   | int j=>obtain⟨t',rfl⟩:=ry;exact PySem.EqNone.eq_none_int (fin_bl I q (by simp))
   | str j=>obtain⟨t',rfl⟩:=ry;exact PySem.EqNone.eq_none_str (fin_bl I q (by simp))
   | _=>exact absurd (show false=true from hs) Bool.false_ne_true
 | bl i=>
   cases rx;cases y with
   | non=>cases ry;exact PySem.EqNone.eq_bool_none (fin_bl I q (by simp))
   | bl j=>cases ry;exact eq_bool (fin_bl I q dec_bl)
   | str j=>obtain⟨t',rfl⟩:=ry;exact PySem.EqMixed.eq_bool_str (fin_bl I q (by simp))
   | _=>exact absurd (show false=true from hs) Bool.false_ne_true
 | int i=>
   obtain⟨t,rfl⟩:=rx;cases y with
   | non=>cases ry;exact PySem.EqNone.eq_int_none (fin_bl I q (by simp))
   | int j=>obtain⟨t',rfl⟩:=ry;exact eq_int (fin_bl I q dec_int)
   | str j=>obtain⟨t',rfl⟩:=ry;exact PySem.EqMixed.eq_int_str (fin_bl I q (by simp))
   | _=>exact absurd (show false=true from hs) Bool.false_ne_true
 | str i=>
   obtain⟨t,rfl⟩:=rx;cases y with
   | non=>cases ry;exact PySem.EqNone.eq_str_none (fin_bl I q (by simp))
   | bl j=>cases ry;exact PySem.EqMixed.eq_str_bool (fin_bl I q (by simp))
   | int j=>obtain⟨t',rfl⟩:=ry;exact PySem.EqMixed.eq_str_int (fin_bl I q (by simp))
   | str j=>obtain⟨t',rfl⟩:=ry;exact eq_str (fin_bl I q dec_str)
   | _=>exact absurd (show false=true from hs) Bool.false_ne_true
 | byt i=>
   obtain⟨t,rfl⟩:=rx;cases y with
   | byt j=>obtain⟨t',rfl⟩:=ry;exact W.eq_bytes (fin_bl I q dec_byt)
   | _=>exact absurd (show false=true from hs) Bool.false_ne_true
 | _=>cases y <;> exact absurd (show false=true from hs) Bool.false_ne_true
theorem op_ne:OpR X (compareOp .NotEq) rNe:=by
 intro pins s σ H x y v u Q I rx ry h;obtain⟨hs,q⟩:=h;cases x with
 | non=>
   cases rx;cases y with
   | non=>cases ry;exact PySem.EqNone.ne_none_none (fin_bl I q (by simp))
   | bl j=>cases ry;exact PySem.EqNone.ne_none_bool (fin_bl I q (by simp))
   | int j=>obtain⟨t',rfl⟩:=ry;exact PySem.EqNone.ne_none_int (fin_bl I q (by simp))
   | str j=>obtain⟨t',rfl⟩:=ry;exact PySem.EqNone.ne_none_str (fin_bl I q (by simp))
   | _=>exact absurd (show false=true from hs) Bool.false_ne_true
 | bl i=>
   cases rx;cases y with
   | non=>cases ry;exact PySem.EqNone.ne_bool_none (fin_bl I q (by simp))
   | bl j=>cases ry;exact ne_bool (fin_bl I q (congrArg not dec_bl))
   | str j=>obtain⟨t',rfl⟩:=ry;exact PySem.EqMixed.ne_bool_str (fin_bl I q (by simp))
   | _=>exact absurd (show false=true from hs) Bool.false_ne_true
 | int i=>
   obtain⟨t,rfl⟩:=rx;cases y with
   | non=>cases ry;exact PySem.EqNone.ne_int_none (fin_bl I q (by simp))
   | int j=>obtain⟨t',rfl⟩:=ry;exact ne_int (fin_bl I q (congrArg not dec_int))
   | str j=>obtain⟨t',rfl⟩:=ry;exact PySem.EqMixed.ne_int_str (fin_bl I q (by simp))
   | _=>exact absurd (show false=true from hs) Bool.false_ne_true
 | str i=>
   obtain⟨t,rfl⟩:=rx;cases y with
   | non=>cases ry;exact PySem.EqNone.ne_str_none (fin_bl I q (by simp))
   | bl j=>cases ry;exact PySem.EqMixed.ne_str_bool (fin_bl I q (by simp))
   | int j=>obtain⟨t',rfl⟩:=ry;exact PySem.EqMixed.ne_str_int (fin_bl I q (by simp))
   | str j=>obtain⟨t',rfl⟩:=ry;exact ne_str (fin_bl I q (congrArg not dec_str))
   | _=>exact absurd (show false=true from hs) Bool.false_ne_true
 | byt i=>
   obtain⟨t,rfl⟩:=rx;cases y with
   | byt j=>obtain⟨t',rfl⟩:=ry;exact W.ne_bytes (fin_bl I q (congrArg not dec_byt))
   | _=>exact absurd (show false=true from hs) Bool.false_ne_true
 | _=>cases y <;> exact absurd (show false=true from hs) Bool.false_ne_true
theorem op_lt:OpR X (compareOp .Lt) (rI0 fun i j=>.bl (decide (i < j))):=opB0 fun _ _ _ _ _ _ _ q=>lt_int q
theorem op_le:OpR X (compareOp .LtE) (rI0 fun i j=>.bl (decide (i<=j))):=opB0 fun _ _ _ _ _ _ _ q=>le_int q
theorem op_gt:OpR X (compareOp .Gt) (rI0 fun i j=>.bl (decide (j < i))):=opB0 fun _ _ _ _ _ _ _ q=>gt_int q
theorem op_ge:OpR X (compareOp .GtE) (rI0 fun i j=>.bl (decide (j<=i))):=opB0 fun _ _ _ _ _ _ _ q=>ge_int q
theorem op_isN:OpR X (compareOp .Is) (fun x y H Q=>y=.non/\Q (.bl (decide (x=.non))) H):=by
 intro pins s σ H x y v u Q I rx ry h;obtain⟨rfl,q⟩:=h;cases ry;refine is_none_gen (fin_bl I q ?_);cases x <;> first
  | (cases rx;rfl)
  | (obtain⟨t,rfl⟩:=rx;rfl)
theorem op_notN:OpR X (compareOp .IsNot) (fun x y H Q=>y=.non/\Q (.bl (!decide (x=.non))) H):=by
 intro pins s σ H x y v u Q I rx ry h;obtain⟨rfl,q⟩:=h;cases ry;refine isnot_none_gen (fin_bl I q ?_);cases x <;> first
  | (cases rx;rfl)
  | (obtain⟨t,rfl⟩:=rx;rfl)
theorem nomark(b:Expr){op:CmpOp}(h:op ≠ .In:=by decide)(h2:op ≠ .NotIn:=by decide):behindInMarks op b=false:=by
 have e1:(op == CmpOp.In)=false:=by cases op <;> first | rfl | exact absurd rfl h
 have e2:(op == CmpOp.NotIn)=false:=by cases op <;> first | rfl | exact absurd rfl h2
 cases b <;> simp[behindInMarks,e1,e2]
theorem pe_cmpR{op:CmpOp}{r:R2}(ho:OpR X (compareOp op) r)(ha:PE X a ta)(hb:PE X b tb)(hm:behindInMarks op b=false):PE X (.Compare a [op] [b] pos) (tOp r ta tb):=by
 intro pins s σ H Q I h;exact wpAny_Compare1 (binT ha hb I h fun v u s2 x y H2 I2 rx ry q=>ho pins s2 σ H2 x y v u Q I2 rx ry q) hm
noncomputable def tTest(t:TE):TT:=fun σ H Q=>t σ H fun x H'=>∃ k,x=.bl k/\Q k H'
theorem pt_cmpR{op:CmpOp}{r:R2}(ho:OpR X (compareOp op) r)(ha:PE X a ta)(hb:PE X b tb)(hm:behindInMarks op b=false):PT X (.Compare a [op] [b] pos) (tTest (tOp r ta tb)):=by
 intro pins s σ H Q I h;refine wpAny_isTrue_Compare1 (thn (ha pins s σ H _ I h) fun v s1 ⟨x,H1,I1,r1,q1⟩=>thn (hb pins s1 σ H1 _ I1 q1) fun u s2 ⟨y,H2,I2,r2,q2⟩=>
  thn (ho pins s2 σ H2 x y v u _ I2 r1 r2 q2) fun c s3 ⟨z,H3,I3,r3,k,e,q3⟩=>?_) hm
 subst e;cases r3;exact wpAny_truthy_bool ⟨H3,I3,q3⟩
noncomputable def tChain(r r':R2)(ta tb tc:TE):TE:=fun σ H Q=>ta σ H fun x H1=>tb σ H1 fun y H2=>r x y H2 fun z H3=>∃ k,z=.bl k /\
 (if k=true then tc σ H3 fun w' H4=>r' y w' H4 Q else Q (.bl false) H3)
theorem pt_chain{op op':CmpOp}{r r':R2}(ho:OpR X (compareOp op) r)(ho':OpR X (compareOp op') r')(ha:PE X a ta)(hb:PE X b tb)(hc:PE X c tc)
 (hm:lastMarks [op,op'] [b,c]=false:=by with_unfolding_all rfl):PT X (.Compare a [op,op'] [b,c] pos) (tTest (tChain r r' ta tb tc)):=by
 intro pins s σ H Q I h;refine isTrue_chain (thn (ha pins s σ H _ I h) fun v s1 ⟨x,H1,I1,r1,q1⟩=>test_link (thn (hb pins s1 σ H1 _ I1 q1) fun u s2 ⟨y,H2,I2,r2,q2⟩=>
  thn (ho pins s2 σ H2 x y v u _ I2 r1 r2 q2) fun d s3 ⟨z,H3,I3,r3,k,e,q3⟩=>?_)) hm
 subst e;cases r3;refine wpAny_truthy_bool ?_;cases k with
 | false=>
   obtain⟨k',e',q'⟩:=q3;cases e';exact ite_ff ⟨H3,I3,q'⟩
 | true=>
   refine ite_tt (test_last (thn (hc pins s3 σ H3 _ I3 q3) fun w' s4 ⟨z',H4,I4,r4,q4⟩=>thn (ho' pins s4 σ H4 y z' u w' _ I4 r2 r4 q4) fun d' s5 zz=>?_));obtain⟨z2,H5,I5,r5,k2,e2,q5⟩:=zz;subst e2;cases r5;exact wpAny_truthy_bool ⟨H5,I5,q5⟩
theorem line63:(sizeLine:Nat) < 2 ^ 63:=by rw[sizeLine_eq];decide
theorem vals1{x:V}{us:List Value}(r:Vals [x] us):∃ u,us=[u]/\RelV x u:=by
 cases r with
 | cons r1 r2=>cases r2;exact⟨_,rfl,r1⟩
theorem vals2{x y:V}{us:List Value}(r:Vals [x,y] us):∃ u w',us=[u,w']/\RelV x u/\RelV y w':=by
 cases r with
 | cons r1 r2=>
   cases r2 with
   | cons r3 r4=>cases r4;exact⟨_,_,rfl,r1,r3⟩
theorem call_int1:CallR X (.type "int") (fun xs H Q=>(∃ i,xs=[.int i]/\Q (.int i) H) ∨ ∃ k,xs=[.bl k]/\Q (.int (if k then 1 else 0)) H):=by
 intro pins s σ H xs us Q I r h;rcases h with ⟨i,rfl,q⟩ | ⟨k,rfl,q⟩
 · obtain⟨u,rfl,t,rfl⟩:=vals1 r
   exact call_int_int ⟨.int i,H,I,⟨_,rfl⟩,q⟩
 obtain⟨u,rfl,r1⟩:=vals1 r;cases r1;exact call_int_bool ⟨.int (if k then 1 else 0),H,I.tok _,⟨_,rfl⟩,q⟩
end
end L2
namespace L2
open PySem PySem.Spec PyProof.Rows
structure ObjM(h:Heap)(x dx C:Addr)(mA:Str->Option Value):Prop where
 obj:h.get? x=some (W.instObj C dx)
 ns:h.Ns1 dx mA
 ne:dx≠x
theorem lookIn_ns{h:Heap}{dx:Addr}{mA:Str->Option Value}(n:h.Ns1 dx mA):∃ od,h.get? dx=some od /\ ∀ name,W.lookIn name od=some (mA name):=by
 obtain⟨o,es,ep,ho,hd,hk,_,hm⟩:=n;refine⟨o,ho,fun name=>?_⟩;have e:=hm name;unfold nsFind findBy at e;rw[← Array.find?_toList]at e;unfold W.lookIn;rw[hd]
 dsimp only
 split
 · rename_i y q
   rw[q]at e;exact congrArg some e
 rename_i q;rw[q]at e;have a:es.toList.any (·.refKey)=false:=by
  rw[List.any_eq_false];intro y hy;obtain⟨z,t,hkey⟩:=hk y (Array.mem_toList_iff.mp hy);simp[DictEntry.refKey,hkey]
 have a':¬ es.toList.any (·.refKey)=true:=by rw[a];exact Bool.false_ne_true
 rw[if_neg a'];exact congrArg some e
theorem ObjM.look{h:Heap}{x dx C:Addr}{mA:Str->Option Value}(I:ObjM h x dx C mA):∃ od,W.InstAt h x (W.instObj C dx) C (some od) /\ ∀ name,W.lookIn name od=some (mA name):=
 let⟨od,ho,hl⟩:=lookIn_ns I.ns
 ⟨od,⟨I.obj,rfl,rfl,ho⟩,hl⟩
section
variable{prog:Program}{w:World}{A:Around}{E:Value->Shared->Prop}{s:Shared}{K:W.Frag}{x dx C f:Addr}{mA:Str->Option Value}{name:Str}{v:Value}
theorem get_map{expr:Bool}{Q:Value->Shared->Prop}(X:K.In s.heap)(I:ObjM s.heap x dx C mA)(hg:W.plainGet K C name=true)(hh:W.hasDictIn K C=true)
 (ha:W.findIn K (.ref C) name=some none) (hv:mA name=some v) (hv':W.handedIn v=true) (h:Q v { s with toks:=s.toks+1 }) :
 wpAny (model prog w) A (getAttr (.ref x) name expr) Q E s:=by
 obtain⟨od,J,hl⟩:=I.look;exact W.get_value X J (W.plainGet_of hg).1 (W.findObj_own hh ha rfl (by rw[hl,hv])) hv' h
theorem get_meth{pl:Sem Bool}{Q:Value×List Value->Shared->Prop}(X:K.In s.heap)(I:ObjM s.heap x dx C mA)(hg:W.plainGet K C name=true)
 (hf:W.findIn K (.ref C) name=some (some (.ref f))) (ht:W.isFn K (.ref f)=true) (hv:mA name=none) (h:Q (.ref f,[.ref x]) s) :
 wpAny (model prog w) A (getMethod (.ref x) name pl) Q E s:=by
 obtain⟨od,J,hl⟩:=I.look;exact W.method_fn X J (W.plainGet_of hg).1 (W.plainGet_of hg).2 hf (beq_iff_eq.mp ht) (by show(W.lookIn name od).map (·.isSome)=some false;rw[hl,hv];rfl) h
theorem set_map{ns:List Str}{Q:Unit->Shared->Prop}(X:K.In s.heap)(I:ObjM s.heap x dx C mA)
 (hs:W.findIn K (.ref C) "__setattr__"=some (some (.builtin "object.__setattr__"))) (hp:W.plainOver K C=true) (ht:W.takerIn K C name=some none) (hh:W.hasDictIn K C=true)
 (hw:PySem.Within mA ns) (hsz:ns.length<=sizeLine)
 (h:∀ h',ObjM h' x dx C (fun y=>if y=name then some v else mA y)->Heap.SameBut dx s.heap h'->Q () { s with heap:=h',toks:=s.toks+2 }) :
 wpAny (model prog w) A (setAttr (.ref x) name v) Q E s:=by
 obtain⟨od,J,hl⟩:=I.look;refine W.set_plain X J hs (W.osa_open (s:={ s with toks:=s.toks+1 }) (r:=none) X J hp ht fun b=>?_);obtain⟨cd,hc,hd'⟩:=W.any_some hh;have hx:s.heap.get? x=some ⟨.ref C,some dx,.plain,#[]⟩:=I.obj;refine wpAny_bind (wpAny_pure (wpAny_bind (wpAny_bind (wpAny_loadPart hx (wpAny_bind (W.Looks.here (s:={ s with toks:=s.toks+1 }) (W.looks_clsIn X hc) ?_))))));rw[hd'];refine wpAny_pure (a:=some dx) (wpAny_bind (wpAny_pure (wpAny_bind ?_)));refine wpAny_nsSet1 (s:={ s with toks:=s.toks+1 }) I.ns fun h' hn2 hs2=>?_;obtain⟨oD,esD,epD,hoD,hdD,hcD⟩:=hn2.count (PySem.Within.cons name v hw);refine wpAny_bind (wpAny_lookBehind hoD (by rw[hdD];exact pastItsLine_dict (Nat.le_trans hcD (by rw[List.length_cons];omega))) ?_)
 exact wpAny_pure (h _ ⟨(hs2.2 _ (Ne.symm I.ne)).trans I.obj,hn2,I.ne⟩ hs2)
theorem make_map{R:Result->Shared->Prop}{vs:List Value}{kw:List (Str×Value)}(X:K.In s.heap)(hm:W.makesIn K C=true)
 (hi:W.findIn K (.ref C) "__init__"=some (some (.ref f))) (hf:W.typeIn K (.ref f)=some (.type "function"))
 (h:codeAny (model prog w) (A.under (.builtin "type.__call__" ⟨.ref C::vs,kw⟩)) (.call (.ref f) ⟨.ref (s.heap.objs.size+1)::vs,kw⟩) (W.InitBack (s.heap.objs.size+1) R)
  { s with heap:=(s.heap.push W.emptyDict).push (W.instObj C s.heap.objs.size) }) :
 codeAny (model prog w) A (.call (.ref C) ⟨vs,kw⟩) R s:=by
 obtain⟨hh,g,d,t,os⟩:=s;exact W.make_core (W.makes_of X hm) (W.looks_findIn X hi) (fun self=>W.bind_fn X self hf) (.inl rfl) h
end
noncomputable def putF(f:Str)(v:V):List (Str×V)->List (Str×V)
 | []=>[(f,v)]
 | (g,x)::r=>if g=f then(g,v)::r else(g,x)::putF f v r
theorem lookup_putF(f g:Str)(v:V):∀ fs:List (Str×V),(putF f v fs).lookup g=if g=f then some v else fs.lookup g
 | []=>by
   show List.lookup g [(f,v)]=_;by_cases h:g=f
   · have hb:(g == f)=true:=beq_iff_eq.mpr h
     simp only[List.lookup,hb,if_pos h]
   have hb:(g == f)=false:=beq_eq_false_iff_ne.mpr h;simp only[List.lookup,hb,if_neg h]
 | (k,x)::r=>by
   have ih:=lookup_putF f g v r;rw[show putF f v ((k,x)::r)=(if k=f then(k,v)::r else(k,x)::putF f v r)from rfl];by_cases hk:k=f
   · rw[if_pos hk]
     by_cases h:g=k
     · have hb:(g == k)=true:=beq_iff_eq.mpr h
       simp only[List.lookup,hb,if_pos (h.trans hk)]
     have hb:(g == k)=false:=beq_eq_false_iff_ne.mpr h;simp only[List.lookup,hb,if_neg (fun e:g=f=>h (e.trans hk.symm))]
   rw[if_neg hk];by_cases h:g=k
   · have hb:(g == k)=true:=beq_iff_eq.mpr h
     simp only[List.lookup,hb,if_neg (fun e:g=f=>hk (h.symm.trans e))]
   have hb:(g == k)=false:=beq_eq_false_iff_ne.mpr h;simp only[List.lookup,hb];exact ih
theorem keys_putF(f:Str)(v:V):∀ fs:List (Str×V),f∈(putF f v fs).map (·.1) /\ ∀ g,g∈fs.map (·.1)->g∈(putF f v fs).map (·.1)
 | []=>⟨by simp[putF],fun g h=>by simp at h⟩
 | (k,x)::r=>by
   obtain⟨i1,i2⟩:=keys_putF f v r;rw[show putF f v ((k,x)::r)=(if k=f then(k,v)::r else(k,x)::putF f v r)from rfl];by_cases hk:k=f
   · rw[if_pos hk]
     subst hk;exact⟨by simp,fun g h=>by simpa using h⟩
   rw[if_neg hk];refine⟨?_,fun g h=>?_⟩
   · rw[List.map_cons]
     exact List.mem_cons_of_mem _ i1
   rw[List.map_cons]at h ⊢;rcases List.mem_cons.mp h with e | e
   · exact List.mem_cons.mpr (.inl e)
   exact List.mem_cons_of_mem _ (i2 g e)
theorem length_putF(f:Str)(v:V):∀ fs:List (Str×V),(putF f v fs).length<=fs.length+1
 | []=>by simp[putF]
 | (k,x)::r=>by
   have ih:=length_putF f v r;rw[show putF f v ((k,x)::r)=(if k=f then(k,v)::r else(k,x)::putF f v r)from rfl];by_cases hk:k=f
   · rw[if_pos hk,List.length_cons,List.length_cons];omega
   rw[if_neg hk,List.length_cons,List.length_cons];omega
theorem RelO.some_of{v:V}{o:Option Value}(r:RelO (some v) o):∃ u,o=some u/\RelV v u:=by
 cases o with
 | none=>exact(show False from r).elim
 | some u=>exact⟨u,rfl,r⟩
theorem RelO.none_of{o:Option Value}(r:RelO none o):o=none:=by
 cases o with
 | none=>rfl
 | some u=>exact(show False from r).elim
theorem handed_of{v:V}{u:Value}(r:RelV v u):W.handedIn u=true:=by
 cases v with
 | non=>cases (show u=Value.none from r);rfl
 | bl b=>cases (show u=Value.bool b from r);rfl
 | int i=>obtain⟨t,e⟩:=(show ∃ t,u=Value.int i t from r);cases e;rfl
 | str x=>obtain⟨t,e⟩:=(show ∃ t,u=Value.str x t from r);cases e;rfl
 | byt b=>obtain⟨t,e⟩:=(show ∃ t,u=Value.bytes b t from r);cases e;rfl
 | flt b=>obtain⟨t,e⟩:=(show ∃ t,u=Value.float b t from r);cases e;rfl
 | ref a=>cases (show u=Value.ref a from r);rfl
 | ty n=>cases (show u=Value.type n from r);rfl
section
variable{P:Program}{w:World}{H H':Hp}{h h':Heap}{a C dx:Addr}{fs fs':List (Str×V)}
theorem ins_get(hok:HOk P w H h)(e:H a=some (.ins C dx fs)):∃ mA,ObjM h a dx C mA/\(∀ f,RelO (fs.lookup f) (mA f))/\PySem.Within mA (fs.map (·.1))/\fs.length<=1000/\H dx=some (.own a):=by
 obtain⟨d,z,ne,ob,mA,n,r,q⟩:=(show ObjOk P w H h a (.ins C dx fs)from hok a _ e);exact⟨mA,⟨ob,n,ne⟩,r,q,z,d⟩
end
structure Cls(K:W.Frag)(C:Addr):Prop where
 pg:W.plainGet K C Str.empty=true
 hd:W.hasDictIn K C=true
 po:W.plainOver K C=true
 sa:W.findIn K (.ref C) "__setattr__"=some (some (.builtin "object.__setattr__"))
theorem Cls.get{K:W.Frag}{C:Addr}(c:Cls K C)(f:Str):W.plainGet K C f=true:=c.pg
noncomputable def NoAttr(K:W.Frag)(C:Addr)(f:Str):Prop:=W.findIn K (.ref C) f=some none
theorem NoAttr.taker{K:W.Frag}{C:Addr}{f:Str}(n:NoAttr K C f):W.takerIn K C f=some none:=by
 unfold W.takerIn;rw[show W.findIn K (.ref C) f=some none from n]
 rfl
structure Meth(K:W.Frag)(C:Addr)(m:Str)(f:Addr):Prop where
 at_:W.findIn K (.ref C) m=some (some (.ref f))
 fn:W.isFn K (.ref f)=true
 kp:W.keepIn K (.ref f)=true
section
variable{X:Cx}{pins:List (Addr×Obj)}{σ:St}{H:Hp}{s:Shared}{a C dx:Addr}{fs:List (Str×V)}{f:Str}{v:V}{A:Around}{E:Value->Shared->Prop}
theorem getattr_ok{b:Bool}{Q:Value->Shared->Prop}(I:Inv X pins σ H s)(e:H a=some (.ins C dx fs))(c:Cls X.K C)(n:NoAttr X.K C f)(l:fs.lookup f=some v)
 (h:∀ u s',Inv X pins σ H s'->RelV v u->Q u s'):wpAny (model X.prog X.w) A (getAttr (.ref a) f b) Q E s:=by
 obtain⟨mA,O,r,_,_,_⟩:=ins_get I.hok e;obtain⟨u,hu,ru⟩:=RelO.some_of (v:=v) (o:=mA f) (by rw[← l];exact r f)
 exact get_map I.kIn O (c.get f) c.hd n hu (handed_of ru) (h u _ (I.tok _) ru)
theorem getmeth_ok{m:Str}{g:Addr}{pl:Sem Bool}{Q:Value×List Value->Shared->Prop}(I:Inv X pins σ H s)(e:H a=some (.ins C dx fs))(c:Cls X.K C)(k:Meth X.K C m g)(l:fs.lookup m=none)
 (h:Q (.ref g,[.ref a]) s):wpAny (model X.prog X.w) A (getMethod (.ref a) m pl) Q E s:=by
 obtain⟨mA,O,r,_,_,_⟩:=ins_get I.hok e;have hn:mA m=none:=RelO.none_of (by rw[← l];exact r m)
 exact get_meth I.kIn O (c.get m) k.at_ k.fn hn h
theorem setattr_ok{y:V}{u:Value}{Q:Unit->Shared->Prop}(I:Inv X pins σ H s)(e:H a=some (.ins C dx fs))(c:Cls X.K C)(n:NoAttr X.K C f)(hl:fs.length < 1000)(ry:RelV y u)
 (h:∀ s',Inv X pins σ (upd H a (.ins C dx (putF f y fs))) s'->Q () s'):wpAny (model X.prog X.w) A (setAttr (.ref a) f u) Q E s:=by
 obtain⟨mA,O,r,wi,_,ho⟩:=ins_get I.hok e;have hz:(fs.map (·.1)).length<=sizeLine:=by rw[List.length_map,sizeLine_eq];omega
 refine set_map I.kIn O c.sa c.po n.taker c.hd wi hz fun h' O' sb=>h _ ?_;have hd:∃ o,h'.get? dx=some o:=let⟨o,_,_,e',_⟩:=O'.ns;⟨o,e'⟩;refine I.write (x:=a) (e:=dx) (by rw[e];exact True.intro) (.inr ho) (fun b q hb z=>(sb.2 b hb).trans z) hd ?_
 refine⟨by rw[upd_ne O.ne];exact ho,?_,O.ne,O'.obj,_,O'.ns,fun g=>?_,fun g hg=>?_⟩
 · have:=length_putF f y fs;omega
 · show RelO ((putF f y fs).lookup g) (if g=f then some u else mA g)
   rw[lookup_putF];by_cases q:g=f
   · rw[if_pos q,if_pos q];exact ry
   rw[if_neg q,if_neg q];exact r g
 by_cases q:g=f
 · rw[q];exact(keys_putF f y fs).1
 refine(keys_putF f y fs).2 g (wi g fun z=>hg ?_);show(if g=f then some u else mA g)=none;rw[if_neg q];exact z
theorem Inv.made(I:Inv X pins σ H s):Inv X pins σ (upd (upd H s.heap.objs.size (.own (s.heap.objs.size+1))) (s.heap.objs.size+1) (.ins C s.heap.objs.size []))
 { s with heap:=(s.heap.push W.emptyDict).push (W.instObj C s.heap.objs.size) }:=by
 have e1:(s.heap.push W.emptyDict).get? s.heap.objs.size=some W.emptyDict:=Heap.get?_push_size s.heap rfl;have e2:((s.heap.push W.emptyDict).push (W.instObj C s.heap.objs.size)).get? (s.heap.objs.size+1)=some (W.instObj C s.heap.objs.size):=by
  have:=Heap.get?_push_size (s.heap.push W.emptyDict) (o:=W.instObj C s.heap.objs.size) rfl
  rwa [Heap.size_push]at this
 have e3:(s.heap.push W.emptyDict).Ns s.heap.objs.size (fun _=>none):=⟨W.emptyDict,#[],_,e1,rfl,(fun e he=>absurd he (by simp)),fun _=>rfl⟩
 have I1:=I.laid (a:=s.heap.objs.size) (o:=.own (s.heap.objs.size+1)) (h':=s.heap.push W.emptyDict) (t':=s.toks) (fun b u q=>Heap.get?_push_of_some _ q) (Nat.le_refl _) ⟨_,e1⟩;refine I1.laid (a:=s.heap.objs.size+1) (o:=.ins C s.heap.objs.size []) (t':=s.toks) (fun b u q=>Heap.get?_push_of_some _ q) (Nat.le_of_eq (Heap.size_push _ _)) ?_;have ne:s.heap.objs.size≠s.heap.objs.size+1:=Nat.ne_of_lt (Nat.lt_succ_self _);refine⟨by rw[upd_ne ne,upd_same],Nat.zero_le _,ne,e2,fun _=>none,(Heap.Ns1.of_empty e3).at fun o q=>Heap.get?_push_of_some _ q,fun _=>True.intro,fun y hy=>absurd rfl hy⟩
theorem attr_of{prog:Program}{w:World}{env:Env}{e:Expr}{f:Str}{pos:Pos}{s:Shared}{Q:Value->Shared->Prop}(hb:attributeBase e f env (eval e env)=eval e env)
 (h:wpAny (model prog w) A (eval e env) (fun o s₁=>wpAny (model prog w) A (getAttr o f true) Q E s₁) E s):wpAny (model prog w) A (eval (.Attribute e f pos) env) Q E s:=
 Attribute_any_ h (by rw[arm_eval_Attribute,hb])
end
noncomputable def tFld(K:W.Frag)(ta:TE)(f:Str):TE:=fun σ H Q=>ta σ H fun x H1=>∃ a C dx fs v,x=.ref a/\H1 a=some (.ins C dx fs)/\Cls K C/\NoAttr K C f/\fs.lookup f=some v/\Q v H1
noncomputable def sFld(K:W.Frag)(ta tv:TE)(f:Str):TS:=fun D σ H=>tv σ H fun y H1=>ta σ H1 fun x H2=>∃ a C dx fs,x=.ref a/\H2 a=some (.ins C dx fs)/\Cls K C/\NoAttr K C f/\fs.length < 1000 /\
 D.nx σ (upd H2 a (.ins C dx (putF f y fs)))
noncomputable def InOp(X:Cx)(op:Operator)(rd:V->V->Hp->VK->Prop):Prop:=
 ∀(pins:List (Addr×Obj)) (s:Shared) (σ:St) (H:Hp) (x y:V) (u v:Value) (Q:VK),Inv X pins σ H s->RelV x u->RelV y v->rd x y H Q->wpAny (model X.prog X.w) X.A (inplaceOp op u v) (EP X pins σ Q) X.xe s
noncomputable def sFldAug(K:W.Frag)(ta tv:TE)(rd:V->V->Hp->VK->Prop)(f:Str):TS:=fun D σ H=>ta σ H fun x H1=>∃ a C dx fs v,x=.ref a/\H1 a=some (.ins C dx fs)/\Cls K C/\NoAttr K C f/\fs.lookup f=some v /\
 tv σ H1 fun y H2=>rd v y H2 fun z H3=>∃ dx' fs',H3 a=some (.ins C dx' fs')/\fs'.length < 1000/\D.nx σ (upd H3 a (.ins C dx' (putF f z fs')))
section
variable{X:Cx}{o e value:Expr}{f:Str}{pos pos' tpos:Pos}{ta tv:TE}
theorem pe_fld(he:PE X e ta)(hb:attributeBase e f X.env (eval e X.env)=eval e X.env):PE X (.Attribute e f pos) (tFld X.K ta f):=by
 intro pins s σ H Q I h;refine attr_of hb (thn (he pins s σ H _ I h) fun u s1 zz=>?_);obtain⟨x,H1,I1,rx,a,C,dx,fs,v,ex,ea,c,n,l,q⟩:=zz;subst ex;obtain rfl:u=Value.ref a:=rx;exact getattr_ok I1 ea c n l fun u' s2 I2 ru=>⟨v,H1,I2,ru,q⟩
theorem ps_fld(ha:PE X o ta)(hv:PE X value tv)(hs:swapsWith value (some (.Attribute o f pos')) pos.line X.env=pure false):PS X (.Assign [.Attribute o f pos'] value pos) (sFld X.K ta tv f):=by
 intro pins s σ H D I h;refine plainObj_wpAny_Assign_Attribute (thn (hv pins s σ H _ I h) fun u s1 ⟨y,H1,I1,ry,q⟩=>thn (ha pins s1 σ H1 _ I1 q) fun ov s2 ⟨x,H2,I2,rx,a,C,dx,fs,ex,ea,c,n,l,q2⟩=>?_) hs;subst ex;obtain rfl:ov=Value.ref a:=rx;exact setattr_ok I2 ea c n l ry fun s3 I3=>⟨σ,_,I3,q2⟩
theorem ps_fldaug{op:Operator}{rd:V->V->Hp->VK->Prop}(ha:PE X o ta)(hv:PE X value tv)(hop:InOp X op rd):PS X (.AugAssign (.Attribute o f tpos) op value pos) (sFldAug X.K ta tv rd f):=by
 intro pins s σ H D I h;refine wpAny_AugAssign_AttributeAny (thn (ha pins s σ H _ I h) fun ov s1 zz=>?_);obtain⟨x,H1,I1,rx,a,C,dx,fs,v,ex,ea,c,n,l,q⟩:=zz;subst ex;obtain rfl:ov=Value.ref a:=rx;refine getattr_ok I1 ea c n l fun u s2 I2 ru=>thn (hv pins s2 σ H1 _ I2 q) fun w3 s3 ⟨y,H2,I3,ry,q3⟩=>thn (hop pins s3 σ H2 v y u w3 _ I3 ru ry q3) fun w4 s4 zz=>?_;obtain⟨z,H3,I4,rz,dx',fs',ea',l',q4⟩:=zz;exact setattr_ok I4 ea' c n l' rz fun s5 I5=>⟨σ,_,I5,q4⟩
noncomputable def rAdd:V->V->Hp->VK->Prop:=fun x y H Q=>∃ i j,x=.int i/\y=.int j/\Q (.int (i+j)) H
theorem in_add:InOp X .Add rAdd:=by
 rintro pins s σ H x y u v Q I rx ry ⟨i,j,rfl,rfl,q⟩;obtain⟨t,rfl⟩:=(show ∃ t,u=Value.int i t from rx);obtain⟨t',rfl⟩:=(show ∃ t',v=Value.int j t' from ry);exact PyProof.Rows.iadd_int ⟨.int (i+j),H,I.tok _,⟨_,rfl⟩,q⟩
end
section
variable{X:Cx}{pins:List (Addr×Obj)}{σ:St}{H:Hp}{s:Shared}{A:Around}{E:Value->Shared->Prop}{Q:Value->Shared->Prop}{c:Value}{b:Bool}
inductive TyOf(K:W.Frag)(H:Hp):V->Value->Prop where
 | non:TyOf K H .non (.type "NoneType")
 | bl (x:Bool):TyOf K H (.bl x) (.type "bool")
 | int (i:Int):TyOf K H (.int i) (.type "int")
 | str (x:Str):TyOf K H (.str x) (.type "str")
 | flt (x:UInt64):TyOf K H (.flt x) (.type "float")
 | lst {a:Addr}{xs:List V} (e:H a=some (.lst xs)):TyOf K H (.ref a) (.type "list")
 | frz {a:Addr}{o:Obj}{xs:List V} (e:H a=some (.frz o (.lst xs))):TyOf K H (.ref a) (.type "list")
 | tup {a:Addr}{xs:List V} (e:H a=some (.tup xs)):TyOf K H (.ref a) (.type "tuple")
 | dK {a:Addr}{kvs:List (Key×V)} (e:H a=some (.dK kvs)):TyOf K H (.ref a) (.type "dict")
 | dT {a:Addr}{kvs:List (List Key×V)} (e:H a=some (.dT kvs)):TyOf K H (.ref a) (.type "dict")
 | ins {a C dx:Addr}{fs:List (Str×V)} (e:H a=some (.ins C dx fs)) (cl:Cls K C) (ha:W.findIn K (.ref C) "__class__"=some (some (.builtin "object.__class__")))
  (hn:W.specialIn K (.builtin "object.__class__") "__get__"=some (some (.builtin "getset_descriptor.__get__"))) (htk:W.takesIn K (.builtin "object.__class__")=some true)
  (hm:W.mroIn K C (.type "object")=some true):TyOf K H (.ref a) (.ref C)
theorem isinst_ok{x:V}{u t:Value}(I:Inv X pins σ H s)(rx:RelV x u)(ty:TyOf X.K H x t)(e:W.kitOne X.K t c=some b)(h:∀ tk,Q (.bool b) { s with toks:=tk }) :
 wpAny (model X.prog X.w) A (call (.builtin "isinstance") [u,c]) Q E s:=by
 cases ty with
 | non=>cases (show u=Value.none from rx);exact W.kia_one W.kitx_none I.kIn True.intro e (fun z=>nomatch z) h
 | bl y=>cases (show u=Value.bool y from rx);exact W.kia_one W.kitx_bool I.kIn True.intro e (fun z=>nomatch z) h
 | int i=>obtain⟨t,q⟩:=(show ∃ t,u=Value.int i t from rx);cases q;exact W.kia_one W.kitx_int I.kIn True.intro e (fun z=>nomatch z) h
 | str y=>obtain⟨t,q⟩:=(show ∃ t,u=Value.str y t from rx);cases q;exact W.kia_one W.kitx_str I.kIn True.intro e (fun z=>nomatch z) h
 | flt y=>obtain⟨t,q⟩:=(show ∃ t,u=Value.float y t from rx);cases q;exact W.kia_one W.kitx_float I.kIn True.intro e (fun z=>nomatch z) h
 | @lst a xs ea=>
   cases (show u=Value.ref a from rx);obtain⟨_,_,n,_,h1⟩:=(show ObjOk X.prog X.w H s.heap a (.lst xs)from I.hok a _ ea);exact W.kia_one W.kitx_list I.kIn ⟨_,h1,rfl⟩ e (fun z=>nomatch z) h
 | @frz a ob xs ea=>
   cases (show u=Value.ref a from rx);obtain⟨_,_,_,n,_,h1⟩:=(show ObjOk X.prog X.w H s.heap a (.frz ob (.lst xs))from I.hok a _ ea);exact W.kia_one W.kitx_list I.kIn ⟨_,h1,rfl⟩ e (fun z=>nomatch z) h
 | @tup a xs ea=>
   cases (show u=Value.ref a from rx);obtain⟨_,_,_,p⟩:=(show ObjOk X.prog X.w H s.heap a (.tup xs)from I.hok a _ ea);obtain⟨o,h1,h2,_⟩:=p;exact W.kia_one W.kitx_tuple I.kIn ⟨o,h1,h2⟩ e (fun z=>nomatch z) h
 | @dK a kvs ea=>
   cases (show u=Value.ref a from rx);obtain⟨_,_,vs,_,p⟩:=(show ObjOk X.prog X.w H s.heap a (.dK kvs)from I.hok a _ ea);obtain⟨o,es,ep,h1,h2,_⟩:=p;exact W.kia_one W.kitx_dict I.kIn ⟨o,h1,h2.1⟩ e (fun z=>nomatch z) h
 | @dT a kvs ea=>
   cases (show u=Value.ref a from rx);obtain⟨_,_,xs,_,o,es,ep,h1,h2,_⟩:=(show ObjOk X.prog X.w H s.heap a (.dT kvs)from I.hok a _ ea);exact W.kia_one W.kitx_dict I.kIn ⟨o,h1,h2.1⟩ e (fun z=>nomatch z) h
 | @ins a C dx fs ea cl ha hn htk hm=>
   cases (show u=Value.ref a from rx);obtain⟨mA,O,_⟩:=ins_get I.hok ea;obtain⟨od,J,_⟩:=O.look;exact W.kia_one (W.kitx_own (cl.get _) cl.hd ha hn htk hm) I.kIn J e (fun z=>nomatch z) h
end
end L2
namespace L2
open PySem PySem.Spec PyProof.Rows
structure Room(k:Nat)(A:Around):Prop where
 hd:A.handled=none
 dp:A.depth+3*k+5 < recursionLimit
 un:A.units+16*k+200 < cLine
theorem Room.mono{j k:Nat}{A:Around}(r:Room k A)(h:j<=k):Room j A:=⟨r.hd,by have:=r.dp;omega,by have:=r.un;omega⟩
theorem Room.up{j k:Nat}{A:Around}(r:Room k A)(h:j<=k:=by first | decide | omega):Room j A:=r.mono h
theorem Room.deeper{k:Nat}{A:Around}(r:Room (k+1) A)(env:Env):Room k (A.deeper env):=
 ⟨r.hd,by have:=r.dp;show A.depth+1+3*k+5 < _;omega,by have:=r.un;show A.units+3+16*k+200 < _;omega⟩
theorem Room.in1{k:Nat}{A:Around}(r:Room (k+1) A):Room k A.in1:=
 ⟨r.hd,by have:=r.dp;show A.depth+3*k+5 < _;omega,by have:=r.un;show A.units+1+16*k+200 < _;omega⟩
theorem make_depth{A:Around}{C:Addr}{us:List Value}{kw:List (Str×Value)}:(A.under (.builtin "type.__call__" ⟨.ref C::us,kw⟩)).depth=A.depth+1:=by
 first | rfl | simp[Around.under,Code.weight,Code.isCreation,Code.isGuard,Code.isCaller,Code.frames,Code.isFrame,guardIds]
theorem make_units{A:Around}{C:Addr}{us:List Value}{kw:List (Str×Value)}:(A.under (.builtin "type.__call__" ⟨.ref C::us,kw⟩)).units=A.units+1:=by
 first | rfl | simp[Around.under,Code.cUnits,Code.frames,Code.isFrame]
theorem Room.make{k:Nat}{A:Around}(r:Room (k+1) A)(C:Addr)(us:List Value)(kw:List (Str×Value)):Room k (A.under (.builtin "type.__call__" ⟨.ref C::us,kw⟩)):=
 ⟨r.hd,by have:=r.dp;rw[make_depth];omega,by have:=r.un;rw[make_units];omega⟩
theorem Room.depth{k:Nat}{A:Around}(r:Room k A):A.depth < recursionLimit:=by have:=r.dp;omega
theorem Room.units{k:Nat}{A:Around}(r:Room k A):A.units+64 < cLine:=by have:=r.un;omega
noncomputable def tNil:TA:=fun _ H Q=>Q [] H
noncomputable def tCons(ta:TE)(tr:TA):TA:=fun σ H Q=>ta σ H fun x H1=>tr σ H1 fun xs H2=>Q (x::xs) H2
section
variable{X:Cx}{e:Expr}{es:List Expr}{te:TE}{t:TA}{pos:Pos}
theorem pa_nil:PA X [] tNil:=fun _ _ _ _ H Q I h=>Calls.spliced_nil ⟨[],H,I,.nil,h⟩
theorem pa_cons(ha:PE X e te)(hr:PA X es t)(hs:starEach (e::es) X.env=(false,eval e X.env)::starEach es X.env:=by rfl):PA X (e::es) (tCons te t):=by
 intro pos pins s σ H Q I h;rw[hs];show wpAny _ _ (spliced ((false,eval e X.env)::backTo pos (starEach es X.env))) _ _ s;refine Calls.spliced_cons (thn (ha pins s σ H _ I h) fun u s1 zz=>?_);obtain⟨x,H1,I1,r1,q1⟩:=zz;exact thn (hr pos pins s1 σ H1 _ I1 q1) fun us s2 ⟨xs,H2,I2,r2,q2⟩=>⟨x::xs,H2,I2,.cons r1 r2,q2⟩
noncomputable def tTup(t:TA):TE:=fun σ H Q=>t σ H fun xs H1=>xs.length<=sizeLine /\ ∀ p,H1 p=none->Q (.ref p) (upd H1 p (.tup xs))
noncomputable def tLst(t:TA):TE:=fun σ H Q=>t σ H fun xs H1=>xs.length<=sizeLine /\ ∀ p,H1 p=none->Q (.ref p) (upd H1 p (.lst xs))
theorem pe_tup{x1}(h:PA X es t):PE X (.Tuple es x1 pos) (tTup t):=by
 intro pins s σ H Q I hq;refine wpAny_Tuple_spliced (thn (h pos pins s σ H _ I hq) fun us s1 ⟨xs,H1,I1,r,z,q⟩=>⟨by rw[← r.length];exact z,?_⟩)
 have hf:H1 s1.heap.objs.size=none:=I1.hok.fresh (Nat.le_refl _);refine⟨.ref s1.heap.objs.size,upd H1 s1.heap.objs.size (.tup xs),I1.laid (t':=s1.toks) (fun b u e=>Heap.get?_push_of_some _ e) (Nat.le_refl _) ?_,rfl,q _ hf⟩;exact⟨z,us,r,⟨_,Heap.get?_push_size _ rfl,rfl,_,rfl⟩⟩
theorem pe_lst(h:PA X es t):PE X (.List es pos) (tLst t):=by
 intro pins s σ H Q I hq;refine wpAny_List_spliced (thn (h pos pins s σ H _ I hq) fun us s1 ⟨xs,H1,I1,r,z,q⟩=>⟨by rw[← r.length];exact z,?_⟩)
 have hf:H1 s1.heap.objs.size=none:=I1.hok.fresh (Nat.le_refl _);refine⟨.ref s1.heap.objs.size,upd H1 s1.heap.objs.size (.lst xs),I1.laid (t':=s1.toks) (fun b u e=>Heap.get?_push_of_some _ e) (Nat.le_refl _) ?_,rfl,q _ hf⟩;exact⟨z,us,0,r,Heap.get?_push_size _ rfl⟩
end
noncomputable abbrev Sp:=List V->Hp->VK->XK->Prop
noncomputable abbrev CXT:=List Env->Hp->Shared->XK->Value->Shared->Prop
structure Env0(P:Program)(w:World)(K:W.Frag)(mg:Str->Option Value)(base:Heap)(A:Around)(outer:List Env)(s:Shared)(H:Hp):Prop where
 frames:A.frames=some outer
 mod:Mod K mg base
 bs:∀ b o,base.get? b=some o->s.heap.get? b=some o/\H b=none
 bsz:base.objs.size<=s.heap.objs.size
 funs:s.heap.FunFrames base outer
 frf:∀ b∈frs outer,H b=none
 hok:HOk P w H s.heap
 bare:AllBare s.gens
noncomputable def CE(outer:List Env)(P:Program)(w:World)(H:Hp)(s:Shared)(Q:VK)(u:Value)(s':Shared):Prop:=
 ∃ v H',s'.os=s.os/\AllBare s'.gens/\Un (frs outer) [] H H' s.heap s'.heap/\HOk P w H' s'.heap/\RelV v u/\Q v H'
noncomputable def CR(CX:CXT)(outer:List Env)(P:Program)(w:World)(H:Hp)(s:Shared)(Q:VK)(E:XK)(r:Result)(s':Shared):Prop:=
 match r with
 | .ok (.ret u)=>CE outer P w H s Q u s'
 | .ok _=>False
 | .error e=>CX outer H s E e s'
structure FnOk(P:Program)(w:World)(K:W.Frag)(mg:Str->Option Value)(base:Heap)(CX:CXT)(k:Nat)(f:Addr)(fd:FuncData)(ps:List Str)(sp:Sp):Prop where
 len:∀ vs H Q E,sp vs H Q E->vs.length=ps.length
 run:∀(A:Around) (outer:List Env) (s:Shared) (H:Hp) (args:Args) (us:List Value) (vs:List V) (Q:VK) (E:XK),Room k A->Env0 P w K mg base A outer s H->BindsTo s fd args (ps.zip us)->Vals vs us->sp vs H Q E ->
  codeAny (model P w) A (.call (.ref f) args) (CR CX outer P w H s Q E) s
theorem Env0.make{P:Program}{w:World}{K:W.Frag}{mg:Str->Option Value}{base:Heap}{A:Around}{outer:List Env}{s:Shared}{H:Hp}(e:Env0 P w K mg base A outer s H)(C:Addr)(us:List Value)(kw:List (Str×Value)) :
 Env0 P w K mg base (A.under (.builtin "type.__call__" ⟨.ref C::us,kw⟩)) outer s H:=⟨by first | exact e.frames | (simpa [Around.under,Code.envs,Code.isFrame,pushEnvs] using e.frames),e.mod,e.bs,e.bsz,e.funs,e.frf,e.hok,e.bare⟩
theorem Env0.in1{P:Program}{w:World}{K:W.Frag}{mg:Str->Option Value}{base:Heap}{A:Around}{outer:List Env}{s:Shared}{H:Hp}(e:Env0 P w K mg base A outer s H) :
 Env0 P w K mg base A.in1 outer s H:=⟨e.frames,e.mod,e.bs,e.bsz,e.funs,e.frf,e.hok,e.bare⟩
section
variable{X:Cx}{pins:List (Addr×Obj)}{σ:St}{H:Hp}{s s':Shared}
theorem Inv.env0(I:Inv X pins σ H s):Env0 X.prog X.w X.K X.mg X.base X.A X.stack s H:=
 ⟨I.ok.frames,I.ok.mod,I.bs,Nat.le_trans I.ok.bsz I.sz,I.stack,I.stkFree,I.hok,I.bare⟩
theorem Inv.after{Q:VK}{u:Value}(I:Inv X pins σ H s)(h:CE X.stack X.prog X.w H s Q u s'):EP X pins σ Q u s':=by
 obtain⟨v,H',os,bare,un,hok,r,q⟩:=h;obtain⟨hh,g,d,t,os'⟩:=s';obtain rfl:os'=s.os:=os;exact⟨v,H',I.call (h':=hh) (g':=g) (d':=d) (t':=t) (ch:=[]) un hok bare (fun b z=>absurd z (by simp)),r,q⟩
end
noncomputable def tCall(sp:Sp)(dvs:List V)(E:XK)(t:TA):TE:=fun σ H Q=>t σ H fun vs H1=>sp (vs++dvs) H1 Q E
noncomputable def tMeth(C:Addr)(m:Str)(sp:Sp)(dvs:List V)(E:XK)(ta:TE)(t:TA):TE:=fun σ H Q=>ta σ H fun x H1=>∃ a dx fs,x=.ref a/\H1 a=some (.ins C dx fs)/\fs.lookup m=none /\
 t σ H1 fun vs H2=>sp (x::(vs++dvs)) H2 Q E
noncomputable def tMake(C:Addr)(sp:Sp)(dvs:List V)(E:XK)(t:TA):TE:=fun σ H Q=>t σ H fun vs H1=>∀ x dx,H1 x=none->H1 dx=none->dx≠x ->
 sp (.ref x::(vs++dvs)) (upd (upd H1 dx (.own x)) x (.ins C dx [])) (fun v H2=>v=.non/\Q (.ref x) H2) E
noncomputable def Binds(K:W.Frag)(fd:FuncData)(ps:List Str)(ds:List Value):Prop:=
 ∀(s:Shared) (us:List Value),K.In s.heap->(us++ds).length=ps.length->BindsTo s fd ⟨us,[]⟩ (ps.zip (us++ds))
theorem Binds.all{K:W.Frag}{fd:FuncData}{ps:List Str}(h:∀ us:List Value,us.length=ps.length->bindArgs fd ⟨us,[]⟩=pure (ps.zip us)):Binds K fd ps []:=fun s us _ hl=>by
 rw[List.append_nil]at hl ⊢;exact .of_eq (h us hl)
noncomputable def Passes(CX:CXT)(X:Cx)(E:XK):Prop:=∀(pins:List (Addr×Obj)) (σ:St) (H:Hp) (s:Shared) (e:Value) (s':Shared),Inv X pins σ H s->CX X.stack H s E e s'->X.xe e s'
section
variable{X:Cx}{CX:CXT}{k:Nat}{f C:Addr}{fd:FuncData}{ps:List Str}{sp:Sp}{dvs:List V}{ds:List Value}{E:XK}{x m:Str}{p pos apos:Pos}{e o:Expr}{es:List Expr}{ta:TE}{t:TA}
theorem run_fn{pins:List (Addr×Obj)}{σ:St}{H:Hp}{s:Shared}{Q:VK}{us:List Value}{vs:List V}(F:FnOk X.prog X.w X.K X.mg X.base CX k f fd ps sp)(hr:Room k X.A)(hb:Binds X.K fd ps ds)(hd:Vals dvs ds)(hx:Passes CX X E)
 (I:Inv X pins σ H s) (r:Vals vs us) (h:sp (vs++dvs) H Q E):wpAny (model X.prog X.w) X.A (call (.ref f) us) (EP X pins σ Q) X.xe s:=by
 have r2:Vals (vs++dvs) (us++ds):=r.append hd;have hl:(us++ds).length=ps.length:=by rw[← r2.length];exact F.len _ _ _ _ h
 refine wpAny_call (codeAny_mono (F.run X.A X.stack s H ⟨us,[]⟩ (us++ds) (vs++dvs) Q E hr I.env0 (hb s us I.kIn hl) r2 h) fun r s' hq=>?_);cases r with
 | error e=>exact hx pins σ H s e s' I hq
 | ok fl=>
   cases fl with
   | ret u=>exact I.after hq
   | next=>exact False.elim hq
   | brk=>exact False.elim hq
   | cont=>exact False.elim hq
theorem pe_call(F:FnOk X.prog X.w X.K X.mg X.base CX k f fd ps sp)(hr:Room k X.A)(hg:Gl X x)(hm:X.mg x=some (.ref f))(hk:W.keepIn X.K (.ref f)=true)(hb:Binds X.K fd ps ds)(hd:Vals dvs ds)(hx:Passes CX X E)
 (ha:PA X (e::es) t) (hdb:(x == ("__debug__":Str))=false:=by decide) (he:starEach (e::es) X.env=(false,eval e X.env)::starEach es X.env:=by rfl) (hpl:(backTo pos (starEach es X.env)).any (·.1)=false:=by rfl) :
 PE X (.Call (.Name x p) (e::es) [] pos) (tCall sp dvs E t):=by
 intro pins s σ H Q I h;refine wpAny_Call_Name_kw (ld_glob I hg hm ?_ hdb);refine W.callWith_K (h₀:=X.base) I.ok.mod.kin hk (thn (ha pos pins s σ H _ I h) fun us s1 ⟨vs,H1,I1,r,q⟩=>⟨I1.kIn,?_⟩) he hpl;exact run_fn F hr hb hd hx I1 r q
theorem pe_meth{pl:Sem Bool}(he:PE X o ta)(c:Cls X.K C)(hm:Meth X.K C m f)(F:FnOk X.prog X.w X.K X.mg X.base CX k f fd ps sp)(hr:Room k X.A)(hb:Binds X.K fd ps ds)(hd:Vals dvs ds)(hx:Passes CX X E)(ha:PA X (e::es) t)
 (hst:starEach (e::es) X.env=(false,eval e X.env)::starEach es X.env:=by rfl) (hpl:(backTo pos (starEach es X.env)).any (·.1)=false:=by rfl)
 (ht:eval (.Call (.Attribute o m apos) (e::es) [] pos) X.env=(do
  let ov ← eval o X.env
  standAt apos.atName
  let(f,first) ← holding [ov] (getMethod ov m pl)
  callWith pos f first (backTo pos (starEach (e::es) X.env)) (backToKw pos (keywordEach [] X.env))):=by rfl) :
 PE X (.Call (.Attribute o m apos) (e::es) [] pos) (tMeth C m sp dvs E ta t):=by
 intro pins s σ H Q I h;refine W.methodCall_KW (pl:=pl) (thn (he pins s σ H _ I h) fun u s1 ⟨x,H1,I1,rx,a,dx,fs,ex,ea,l,q⟩=>?_) ht;subst ex;obtain rfl:u=Value.ref a:=rx;refine getmeth_ok I1 ea c hm l ?_;refine W.callWith_K (first:=[.ref a]) (h₀:=X.base) I.ok.mod.kin hm.kp (thn (ha pos pins s1 σ H1 _ I1 q) fun us s2 ⟨vs,H2,I2,r,q2⟩=>⟨I2.kIn,?_⟩) hst hpl;exact run_fn (us:=.ref a::us) (vs:=.ref a::vs) F hr hb hd hx I2 (.cons rfl r) q2
theorem pe_meth0{pl:Sem Bool}(he:PE X o ta)(c:Cls X.K C)(hm:Meth X.K C m f)(F:FnOk X.prog X.w X.K X.mg X.base CX k f fd ps sp)(hr:Room k X.A)(hb:Binds X.K fd ps ds)(hd:Vals dvs ds)(hx:Passes CX X E)
 (ht:eval (.Call (.Attribute o m apos) [] [] pos) X.env=(do
  let ov ← eval o X.env
  standAt apos.atName
  let(f,first) ← holding [ov] (getMethod ov m pl)
  callWith pos f first (backTo pos (starEach [] X.env)) (backToKw pos (keywordEach [] X.env))):=by rfl) :
 PE X (.Call (.Attribute o m apos) [] [] pos) (tMeth C m sp dvs E ta tNil):=by
 intro pins s σ H Q I h;refine W.methodCall_KW (pl:=pl) (thn (he pins s σ H _ I h) fun u s1 ⟨x,H1,I1,rx,a,dx,fs,ex,ea,l,q⟩=>?_) ht;subst ex;obtain rfl:u=Value.ref a:=rx;refine getmeth_ok I1 ea c hm l ?_;exact W.callWith_K0 (first:=[.ref a]) I1.kIn hm.kp (run_fn (us:=[.ref a]) (vs:=[.ref a]) F hr hb hd hx I1 (.cons rfl .nil) q)
structure Mk(K:W.Frag)(C f:Addr):Prop where
 makes:W.makesIn K C=true
 init:W.findIn K (.ref C) "__init__"=some (some (.ref f))
 fn:W.isFn K (.ref f)=true
 kp:W.keepIn K (.ref C)=true
theorem run_make{pins:List (Addr×Obj)}{σ:St}{H:Hp}{s:Shared}{Q:VK}{us:List Value}{vs:List V}(M:Mk X.K C f)(F:FnOk X.prog X.w X.K X.mg X.base CX k f fd ps sp)(hr:Room (k+1) X.A)(hb:Binds X.K fd ps ds)(hd:Vals dvs ds)
 (hx:Passes CX X E) (I:Inv X pins σ H s) (r:Vals vs us)
 (h:∀ x dx,H x=none->H dx=none->dx≠x->sp (.ref x::(vs++dvs)) (upd (upd H dx (.own x)) x (.ins C dx [])) (fun v H2=>v=.non/\Q (.ref x) H2) E) :
 wpAny (model X.prog X.w) X.A (call (.ref C) us) (EP X pins σ Q) X.xe s:=by
 have hq:=h (s.heap.objs.size+1) s.heap.objs.size (I.hok.fresh (Nat.le_succ _)) (I.hok.fresh (Nat.le_refl _)) (Nat.ne_of_lt (Nat.lt_succ_self _));have I2:=Inv.made (C:=C) I;have r2:Vals (V.ref (s.heap.objs.size+1)::(vs++dvs)) (Value.ref (s.heap.objs.size+1)::(us++ds)):=.cons rfl (r.append hd);have hl:(Value.ref (s.heap.objs.size+1)::us++ds).length=ps.length:=by
  have e:=r2.length;rw[F.len _ _ _ _ hq]at e;exact e.symm
 refine wpAny_call (make_map (f:=f) I.kIn M.makes M.init (beq_iff_eq.mp M.fn) (codeAny_mono (F.run _ X.stack _ _ ⟨Value.ref (s.heap.objs.size+1)::us,[]⟩ (Value.ref (s.heap.objs.size+1)::(us++ds)) _ _ E (hr.make C us [])
  (I2.env0.make C us []) (hb _ (Value.ref (s.heap.objs.size+1)::us) I2.kIn hl) r2 hq) fun r s' hq'=>?_))
 cases r with
 | error e=>exact hx pins σ _ _ e s' I2 hq'
 | ok fl=>
   cases fl with
   | ret u=>
     obtain⟨v,H',I3,rv,ev,q3⟩:=I2.after hq';subst ev;exact⟨rv,⟨V.ref (s.heap.objs.size+1),H',I3,rfl,q3⟩⟩
   | next=>exact False.elim hq'
   | brk=>exact False.elim hq'
   | cont=>exact False.elim hq'
theorem pe_make(M:Mk X.K C f)(F:FnOk X.prog X.w X.K X.mg X.base CX k f fd ps sp)(hr:Room (k+1) X.A)(hg:Gl X x)(hm:X.mg x=some (.ref C))(hb:Binds X.K fd ps ds)(hd:Vals dvs ds)(hx:Passes CX X E)
 (ha:PA X (e::es) t) (hdb:(x == ("__debug__":Str))=false:=by decide) (he:starEach (e::es) X.env=(false,eval e X.env)::starEach es X.env:=by rfl) (hpl:(backTo pos (starEach es X.env)).any (·.1)=false:=by rfl) :
 PE X (.Call (.Name x p) (e::es) [] pos) (tMake C sp dvs E t):=by
 intro pins s σ H Q I h;refine wpAny_Call_Name_kw (ld_glob I hg hm ?_ hdb);refine W.callWith_K (h₀:=X.base) I.ok.mod.kin M.kp (thn (ha pos pins s σ H _ I h) fun us s1 ⟨vs,H1,I1,r,q⟩=>⟨I1.kIn,?_⟩) he hpl;exact run_make M F hr hb hd hx I1 r q
end
section
variable{X:Cx}{CX:CXT}{k:Nat}{f C:Addr}{fd:FuncData}{ps ks:List Str}{sp:Sp}{E:XK}{x m:Str}{p pos apos kpos:Pos}{e o:Expr}{es:List Expr}{kws:List Keyword}{te ta:TE}{t tk:TA}{nm:Option Str}
variable{g:List Value->List Value->List Value}{gV:List V->List V->List V}
end
structure FnScope(N P:List Str)(sc:Scope):Prop where
 kind:sc.kind=.function
 co:sc.isCoroutine=false
 gen:sc.isGenerator=false
 nd:N.Nodup
 pre:N.take P.length=P
 par:∀ x∈P,sc.names.lookup x=some .local∨sc.names.lookup x=some .cell
 nofree:∀ y∈sc.names,y.2 ≠ .free
theorem bindL_out{kindOf:Str->Option NameKind}{x:Str}:∀{binds:List (Str×Value)}{m:Str->Option Value},(∀ v,(x,v)∉binds)->bindL kindOf binds m x=m x
 | [],_,_=>rfl
 | (n,v)::r,m,h=>by
   unfold bindL;rw[bindL_out fun w hw=>h w (List.mem_cons_of_mem _ hw)];split
   · have:x≠n:=by rintro rfl;exact h v List.mem_cons_self
     simp[this]
   rfl
theorem bindC_out{kindOf:Str->Option NameKind}{x:Str}:∀{binds:List (Str×Value)}{m:Str->Option Value},(∀ v,(x,v)∉binds)->bindC kindOf binds m x=m x
 | [],_,_=>rfl
 | (n,v)::r,m,h=>by
   unfold bindC;rw[bindC_out fun w hw=>h w (List.mem_cons_of_mem _ hw)];split
   · rfl
   have:x≠n:=by rintro rfl;exact h v List.mem_cons_self
   simp[this]
theorem bindL_get{kindOf:Str->Option NameKind}{x:Str}{v:Value}:∀{P:List Str}{vs:List Value}{i:Nat}{m:Str->Option Value},P.Nodup->P[i]?=some x->vs[i]?=some v->kindOf x=some .local ->
 bindL kindOf (P.zip vs) m x=some v
 | [],_,_,_,_,h,_,_=>by simp at h
 | _::_,[],_,_,_,_,h,_=>by simp at h
 | p::P,w::vs,0,m,nd,h1,h2,hk=>by
   simp at h1 h2;subst h1;subst h2;show bindL kindOf ((p,w)::P.zip vs) m p=_;unfold bindL;rw[bindL_out fun v hv=>(List.nodup_cons.mp nd).1 (List.of_mem_zip hv).1,if_pos hk];simp
 | p::P,w::vs,i+1,m,nd,h1,h2,hk=>by
   show bindL kindOf ((p,w)::P.zip vs) m x=_;unfold bindL;exact bindL_get (i:=i) (List.nodup_cons.mp nd).2 (by simpa using h1) (by simpa using h2) hk
theorem bindC_get{kindOf:Str->Option NameKind}{x:Str}{v:Value}:∀{P:List Str}{vs:List Value}{i:Nat}{m:Str->Option Value},P.Nodup->P[i]?=some x->vs[i]?=some v->kindOf x≠some .local ->
 bindC kindOf (P.zip vs) m x=some v
 | [],_,_,_,_,h,_,_=>by simp at h
 | _::_,[],_,_,_,_,h,_=>by simp at h
 | p::P,w::vs,0,m,nd,h1,h2,hk=>by
   simp at h1 h2;subst h1;subst h2;show bindC kindOf ((p,w)::P.zip vs) m p=_;unfold bindC;rw[bindC_out fun v hv=>(List.nodup_cons.mp nd).1 (List.of_mem_zip hv).1,if_neg hk];simp
 | p::P,w::vs,i+1,m,nd,h1,h2,hk=>by
   show bindC kindOf ((p,w)::P.zip vs) m x=_;unfold bindC;exact bindC_get (i:=i) (List.nodup_cons.mp nd).2 (by simpa using h1) (by simpa using h2) hk
noncomputable def start(N:List Str)(vs:List V):St:=vs.map some++List.replicate (N.length - vs.length) none
noncomputable def cxOf(CX:CXT)(P:Program)(w:World)(K:W.Frag)(mg:Str->Option Value)(base:Heap)(N:List Str)(qual:Str)(scope:Scope)(f:Addr)(cd:Value)(A:Around)(outer:List Env)(s:Shared)(H:Hp)(E:XK):Cx where
 prog:=P
 w:=w
 K:=K
 mg:=mg
 base:=base
 A:=A.deeper (envOfC qual scope s.heap.objs.size f cd)
 N:=N
 s₀:=s
 H₀:=H
 env:=envOfC qual scope s.heap.objs.size f cd
 outer:=outer
 stack:=envOfC qual scope s.heap.objs.size f cd::outer
 ex:=[]
 calm:=true
 fn:=fun _=>true
 pn:=[]
 xe:=fun e s'=>wpAny (model P w) (A.deeper (envOfC qual scope s.heap.objs.size f cd)) (leaving (envOfC qual scope s.heap.objs.size f cd) e) (fun _ s''=>CX outer H s E e s'') (fun e' s''=>CX outer H s E e' s'') s'
theorem cell_has{sc:Scope}{n:Nat}{x:Str}(h:sc.names.lookup x=some .cell):∃ c,(cellsFrom n sc.names []).lookup x=some c:=by
 have q:=W.cellsFrom_some sc.names n [] (.inl h);exact Option.isSome_iff_exists.mp q
theorem inv_start{CX:CXT}{P:Program}{w:World}{K:W.Frag}{mg:Str->Option Value}{base:Heap}{N ps:List Str}{qual:Str}{scope:Scope}{f:Addr}{cd:Value}{A:Around}{outer:List Env}{s s1:Shared}{H:Hp}{E:XK}{us:List Value}{vs:List V}
 (S:FnScope N ps scope) (hd:A.handled=none) (e0:Env0 P w K mg base A outer s H) (hl:vs.length=ps.length) (r:Vals vs us)
 (x:InCallC s s.heap.objs.size (bindL (envOfC qual scope s.heap.objs.size f cd).kindOf (ps.zip us) fun _=>none) (cellsFrom (s.heap.objs.size+1) scope.names []) (bindC (envOfC qual scope s.heap.objs.size f cd).kindOf (ps.zip us) fun _=>none) s1) :
 Inv (cxOf CX P w K mg base N qual scope f cd A outer s H E) [] (start N vs) H s1:=by
 have hpl:ps.length<=N.length:=by have:=congrArg List.length S.pre;rw[List.length_take]at this;omega
 obtain⟨h1,tk,rfl,hk⟩:=x.done;have noA:∀ b:Addr,b∉(cxOf CX P w K mg base N qual scope f cd A outer s H E).ex:=fun b z=>absurd (show b∈([]:List Addr)from z) (by simp)
 refine⟨⟨e0.mod,S.kind,rfl,rfl,Nat.le_refl _,fun y z c h1 h2=>?_,fun y hy=>?_,fun y c _ h=>?_,fun _=>hd,Around.frames_deeper e0.frames,.inr ⟨rfl,rfl⟩,fun b z=>absurd z (noA b),e0.bs,e0.bsz,fun b _ _=>noA b,fun b z=>absurd z (noA b),e0.funs,e0.frf⟩,
  rfl,e0.bare,Un.kept hk,⟨_,x.toInCall.ns,fun i y v h1 h2 h3=>?_⟩,fun y c h=>⟨_,x.cell y c h⟩,e0.hok.fresh (Nat.le_refl _),fun y c h=>?_,fun p hp=>absurd (show p∈([]:List (Addr×Obj))from hp) (by simp),e0.hok.kept hk,?_⟩
 · exact name_of_addr x.apart (PySem.mem_of_lookup h1) (PySem.mem_of_lookup h2)
 · have hy:scope.names.lookup y=some .cell∨scope.names.lookup y=some .free:=hy
   rcases hy with hy | hy
   · exact cell_has hy
   exact absurd rfl (S.nofree _ (PySem.mem_of_lookup hy))
 · exact Nat.le_of_lt (x.above y c (PySem.mem_of_lookup h))
 · have hi:i < vs.length:=by
    unfold start at h2;by_cases hi:i < vs.length
    · exact hi
    rw[List.getElem?_append_right (by simpa using hi)]at h2
    rw[List.getElem?_replicate]at h2;split at h2 <;> cases h2
   have ha:vs[i]?=some v:=by
    unfold start at h2;rw[List.getElem?_append_left (by simpa using hi),List.getElem?_map]at h2
    cases e:vs[i]? with
    | none=>rw[e]at h2;cases h2
    | some a=>rw[e]at h2;cases h2;rfl
   obtain⟨u,hu,rv⟩:=r.get ha;have hp:ps[i]?=some y:=by
    rw[← S.pre,List.getElem?_take_of_lt (by omega)];exact h1
   have ndP:ps.Nodup:=by rw[← S.pre];exact S.nd.sublist (List.take_sublist _ _)
   refine⟨u,rv,?_⟩;rcases S.par y (List.mem_of_getElem? hp)with k | k
   · exact .inl ⟨k,bindL_get ndP hp hu k⟩
   obtain⟨c,e⟩:=cell_has (n:=s.heap.objs.size+1) k;refine .inr ⟨.inl k,c,e,?_⟩;have q:=x.cell y c e;rw[bindC_get ndP hp hu (by show scope.names.lookup y≠_;rw[k];decide)]at q
   exact q
 · exact e0.hok.fresh (Nat.le_of_lt (x.above y c (PySem.mem_of_lookup h)))
 unfold start;show _=N.length;rw[List.length_append,List.length_map,List.length_replicate];omega
theorem fn_of{CX:CXT}{P:Program}{w:World}{K:W.Frag}{mg:Str->Option Value}{base:Heap}{k:Nat}{f:Addr}{name qual:Str}{params:Arguments}{body:List Stmt}{scope:Scope}{dV kV doc pm cdv ct oc:Value}{an od:Option Addr}
 {osl:Array (Option Value)}{N ps:List Str}{sp:Sp} (lk:K.lookup f=some ⟨oc,od,.func (W.fnOf name qual params body scope dV kV doc pm an cdv ct),osl⟩) (hcd:W.codeIn K cdv qual=true) (S:FnScope N ps scope)
 (len:∀ vs H Q E,sp vs H Q E->vs.length=ps.length)
 (hbody:∀(A:Around) (outer:List Env) (s:Shared) (H:Hp) (vs:List V) (Q:VK) (E:XK),Room k (A.deeper (envOfC qual scope s.heap.objs.size f cdv))->sp vs H Q E ->
  ∃ t,PSs (cxOf CX P w K mg base N qual scope f cdv A outer s H E) body t/\t { nx:=fun _ H'=>Q .non H',rt:=Q } (start N vs) H) :
 FnOk P w K mg base CX (k+1) f (W.fnOf name qual params body scope dV kV doc pm an cdv ct) ps sp:=by
 refine⟨len,fun A outer s H args us vs Q E hr e0 hb r hsp=>?_⟩;have hl:=len _ _ _ _ hsp;have KX:K.In s.heap:=e0.mod.kin.keeps fun b o e=>(e0.bs b o e).1;have lim:s.heap.NoLimit:=e0.mod.nolimit.keeps fun b o e=>(e0.bs b o e).1;have hkind:∀ y∈ps.zip us,scope.names.lookup y.1=some .local∨(scope.names.lookup y.1=some .cell/\((cellsFrom (s.heap.objs.size+1) scope.names []).lookup y.1).isSome=true):=fun⟨n,v⟩ hy=>by
  rcases S.par n (List.of_mem_zip hy).1 with q | q
  · exact .inl q
  exact .inr ⟨q,W.cellsFrom_some _ _ _ (.inl q)⟩
 refine codeAny_call_function hr.depth (KX _ _ lk) rfl S.co S.gen rfl (W.codeRec_of KX hcd) (hb _ _ _ _ ?_);refine wpAny_newFunctionEnv_cells S.kind hkind fun env he s1 x=>?_;subst he;refine⟨lim.keeps x.toInCall.keep,codeAny_func ?_⟩;obtain⟨t,ht,hq⟩:=hbody A outer s H vs Q E (hr.deeper _) hsp;have I:Inv (cxOf CX P w K mg base N qual scope f cdv A outer s H E) [] (start N vs) H s1:=inv_start S hr.hd e0 hl r x;refine wpAny_mono (ht [] s1 (start N vs) H _ I hq) (fun fl s' hs=>?_) fun e s' hs=>hs;have fin:∀{σ':St}{H':Hp}{v:V}{u:Value},Inv (cxOf CX P w K mg base N qual scope f cdv A outer s H E) [] σ' H' s'->RelV v u->Q v H'->CE outer P w H s Q u s':=
  fun {σ' H' v u} J rv q=>⟨v,H',J.os,J.bare,J.base,J.hok,rv,q⟩
 cases fl with
 | ret u=>
   obtain⟨v,σ',H',J,rv,q⟩:=hs;exact fin J rv q
 | next=>
   obtain⟨σ',H',J,q⟩:=hs;exact fin (v:=V.non) (u:=Value.none) J rfl q
 | brk=>
   obtain⟨_,_,_,q⟩:=hs;exact False.elim q
 | cont=>
   obtain⟨_,_,_,q⟩:=hs;exact False.elim q
end L2
namespace L2
open PySem PySem.Spec PyProof.Rows
section
variable{X:Cx}{x:Str}{p pos:Pos}{e:Expr}{es:List Expr}{t:TA}{id T:String}{r:List V->Hp->VK->Prop}
noncomputable def tCB(r:List V->Hp->VK->Prop)(t:TA):TE:=fun σ H Q=>t σ H fun vs H1=>r vs H1 Q
theorem pe_callB(hc:CallR X (.builtin id) r)(hg:Gl X x)(hm:X.mg x=none)(hv:bootBuiltins x=some (.builtin id))(ha:PA X (e::es) t)(hn:x ≠ "__name__":=by decide)(hdb:(x == ("__debug__":Str))=false:=by decide)
 (he:starEach (e::es) X.env=(false,eval e X.env)::starEach es X.env:=by rfl) (hpl:(backTo pos (starEach es X.env)).any (·.1)=false:=by rfl):PE X (.Call (.Name x p) (e::es) [] pos) (tCB r t):=by
 intro pins s σ H Q I h;refine wpAny_Call_Name_kw (ld_blt I hg hm hv ?_ hn hdb);exact PyProof.Rows.callWith_builtin1 (thn (ha pos pins s σ H _ I h) fun us s1 ⟨vs,H1,I1,r1,q1⟩=>hc pins s1 σ H1 vs us Q I1 r1 q1) he hpl
theorem pe_callTy(hc:CallR X (.type T) r)(hg:Gl X x)(hm:X.mg x=none)(hv:bootBuiltins x=some (.type T))(ha:PA X (e::es) t)(hn:x ≠ "__name__":=by decide)(hdb:(x == ("__debug__":Str))=false:=by decide)
 (he:starEach (e::es) X.env=(false,eval e X.env)::starEach es X.env:=by rfl) (hpl:(backTo pos (starEach es X.env)).any (·.1)=false:=by rfl):PE X (.Call (.Name x p) (e::es) [] pos) (tCB r t):=by
 intro pins s σ H Q I h;refine wpAny_Call_Name_kw (ld_blt I hg hm hv ?_ hn hdb);exact PyProof.Rows.callWith_type1 (thn (ha pos pins s σ H _ I h) fun us s1 ⟨vs,H1,I1,r1,q1⟩=>hc pins s1 σ H1 vs us Q I1 r1 q1) he hpl
end
end L2
namespace HT
open PySem PyProof.Rows
section
open PySem.SeqAt
open PySem.AutoSeq1 (wpAny_loadPart')
open PySem.MeetsSeq PySem.MeetsSeq2 PySem.MeetsSeq3
end
section
variable{prog:Program}{w:World}{A:Around}{E:Value->Shared->Prop}{s:Shared}
noncomputable def sIx(n d:Nat):Option Int->Nat
 | none=>d
 | some v=>if v < 0 then(v+(n:Int)).toNat else min v.toNat n
theorem sIx_none(n d:Nat):sIx n d none=d:=rfl
theorem sIx_nat(n d k:Nat):sIx n d (some (k:Int))=min k n:=by
 show(if(k:Int) < 0 then((k:Int)+(n:Int)).toNat else min (k:Int).toNat n)=min k n;rw[if_neg (by omega),Int.toNat_natCast]
end
end HT
namespace L2
open PySem PySem.Spec PyProof.Rows
noncomputable abbrev TO:=St->Hp->(Option Int->Hp->Prop)->Prop
noncomputable def PO(X:Cx)(e:Option Expr)(t:TO):Prop:=
 ∀(pins:List (Addr×Obj)) (s:Shared) (σ:St) (H:Hp) (Q:Option Int->Hp->Prop),Inv X pins σ H s->t σ H Q ->
   wpAny (model X.prog X.w) X.A (evalPart e X.env) (fun u s'=>∃ o H',Inv X pins σ H' s'/\IsPart u o/\Q o H') X.xe s
noncomputable def tNoPart:TO:=fun _ H Q=>Q none H
noncomputable def tPart(t:TE):TO:=fun σ H Q=>t σ H fun x H1=>∃ i,x=.int i/\Q (some i) H1
theorem intsAre_of{ns:List Int}:∀{us:List Value},Vals (ns.map V.int) us->IntsAre us ns:=by
 induction ns with
 | nil=>intro us r;rw[List.map_nil]at r;cases r;exact .nil
 | cons n ns ih=>
   intro us r;rw[List.map_cons]at r;cases r with
   | cons r1 r2=>
     obtain⟨t,e⟩:=r1;subst e;exact .cons n t (ih r2)
section
variable{X:Cx}{e:Expr}{te:TE}{lo hi:Option Expr}{tl th:TO}{pos p2:Pos}
theorem po_none:PO X none tNoPart:=by
 intro pins s σ H Q I h;rw[evalPart_none];exact wpAny_pure ⟨none,H,I,.none,h⟩
theorem po_some(h:PE X e te):PO X (some e) (tPart te):=by
 intro pins s σ H Q I hw;rw[evalPart_some];refine thn (h pins s σ H _ I hw) fun u s1 zz=>?_;obtain⟨x,H1,I1,r1,q1⟩:=zz;obtain⟨i,rfl,q⟩:=q1;obtain⟨t,rfl⟩:=r1;exact⟨some i,H1,I1,.int i t,q⟩
noncomputable def SlR(X:Cx)(r:V->Option Int->Option Int->Hp->VK->Prop):Prop:=
 ∀(pins:List (Addr×Obj)) (s:Shared) (σ:St) (H:Hp) (x:V) (v vl vu:Value) (lo hi:Option Int) (sl:Addr) (Q:VK),Inv X pins σ H s->RelV x v->s.heap.IsSliceOf sl vl vu .none->IsPart vl lo->IsPart vu hi->r x lo hi H Q ->
   ∃ T id,typeLookup (.type T) "__getitem__"=pure (some (.builtin id))/\s.TypeIs v T/\wpAny (model X.prog X.w) X.A (getItem v (.ref sl)) (EP X pins σ Q) X.xe s
noncomputable def tSl(r:V->Option Int->Option Int->Hp->VK->Prop)(te:TE)(tl th:TO):TE:=fun σ H Q=>te σ H fun x H1=>tl σ H1 fun l H2=>th σ H2 fun u H3=>r x l u H3 Q
theorem pe_slice{r:V->Option Int->Option Int->Hp->VK->Prop}(hr:SlR X r)(he:PE X e te)(hl:PO X lo tl)(hu:PO X hi th):PE X (.Subscript e (.Slice lo hi none p2) pos) (tSl r te tl th):=by
 intro pins s σ H Q I h;refine Subscript_ (thn (he pins s σ H _ I h) fun v s1 zz=>?_);obtain⟨x,H1,I1,r1,q1⟩:=zz;refine wpAny_Slice (thn (hl pins s1 σ H1 _ I1 q1) fun vl s2 ⟨l,H2,I2,pl,q2⟩=>thn (hu pins s2 σ H2 _ I2 q2) fun vu s3 zz=>?_);obtain⟨u,H3,I3,pu,q3⟩:=zz;rw[evalPart_none];refine wpAny_pure ?_;have I4:Inv X pins σ H3 { s3 with heap:=s3.heap.push { cls:=.type "slice",data:=.fields #[vl,vu,.none] } }:=I3.kept (t':=s3.toks) fun b ob q=>Heap.get?_push_of_some _ q;obtain⟨T,id,hT,ht,hg⟩:=hr pins { s3 with heap:=s3.heap.push { cls:=.type "slice",data:=.fields #[vl,vu,.none] } } σ H3 x v vl vu l u s3.heap.objs.size Q I4 r1 (Heap.IsSliceOf.new ..) pl pu q3;show wpAny (model X.prog X.w) X.A (subscriptTail e (.Slice lo hi none p2) v (.ref s3.heap.objs.size)) (EP X pins σ Q) X.xe { s3 with heap:=s3.heap.push { cls:=.type "slice",data:=.fields #[vl,vu,.none] } };exact tail_any (ops:=[.ref s3.heap.objs.size,v]) ht hT hg (by with_unfolding_all rfl)
noncomputable def cutV(xs:List V)(lo hi:Option Int):List V:=(xs.drop (HT.sIx xs.length 0 lo)).take (HT.sIx xs.length xs.length hi - HT.sIx xs.length 0 lo)
theorem cutV_length(xs:List V)(lo hi:Option Int):(cutV xs lo hi).length<=xs.length:=by
 unfold cutV;rw[List.length_take,List.length_drop];omega
end
end L2
namespace L2
open PySem PySem.Spec PyProof.Rows
noncomputable def ixN(n:Nat)(i:Int):Option Nat:=if 0<=i then(if i < n then some i.toNat else none)else if -(n:Int)<=i then some (i+n).toNat else none
noncomputable def atI{α:Type}(xs:List α)(i:Int):Option α:=(ixN xs.length i).bind fun j=>xs[j]?
theorem ixN_seq{n:Nat}{i:Int}{j:Nat}(h:ixN n i=some j):seqIndex? i n=some j/\j < n /\ -(n:Int)<=i/\i < n:=by
 unfold ixN at h;by_cases h0:0<=i
 · rw[if_pos h0]at h
   by_cases h1:i < n
   · rw[if_pos h1]at h
     have e:i.toNat=j:=Option.some.inj h;exact⟨by rw[seqIndex_of h0 h1,e],by omega,by omega,h1⟩
   rw[if_neg h1]at h;cases h
 rw[if_neg h0]at h;by_cases h1:-(n:Int)<=i
 · rw[if_pos h1]at h
   have e:(i+n).toNat=j:=Option.some.inj h;exact⟨by rw[seqIndex_neg (by omega) h1,e],by omega,h1,by omega⟩
 rw[if_neg h1]at h;cases h
theorem atI_get{α:Type}{xs:List α}{i:Int}{v:α}(h:atI xs i=some v):∃ j,seqIndex? i xs.length=some j/\xs[j]?=some v/\j < xs.length /\ -(xs.length:Int)<=i/\i < xs.length:=by
 unfold atI at h;cases e:ixN xs.length i with
 | none=>rw[e]at h;cases h
 | some j=>
   rw[e]at h;obtain⟨h1,h2,h3,h4⟩:=ixN_seq e;exact⟨j,h1,h,h2,h3,h4⟩
theorem atI_nat{α:Type}{xs:List α}{j:Nat}{v:α}(h:xs[j]?=some v):atI xs (j:Int)=some v:=by
 have hj:j < xs.length:=(List.getElem?_eq_some_iff.mp h).1;have e:ixN xs.length (j:Int)=some j:=by
  unfold ixN;rw[if_pos (by omega),if_pos (by omega)];simp
 unfold atI;rw[e];exact h
noncomputable def PlainIx(b:Expr):Prop:=∀ o i,subscripted b false o i=operate [o,i] (getItem o i)
noncomputable def IxR(X:Cx)(r:R2):Prop:=
 ∀(value slice:Expr) (pins:List (Addr×Obj)) (s:Shared) (σ:St) (H:Hp) (x y:V) (v u:Value) (Q:VK),Inv X pins σ H s->RelV x v->RelV y u->r x y H Q ->
   subscripted slice false v u=operate [v,u] (getItem v u)->wpAny (model X.prog X.w) X.A (subscriptTail value slice v u) (EP X pins σ Q) X.xe s
noncomputable def MtR(X:Cx)(id:String)(r:V->List V->Hp->VK->Prop):Prop:=
 ∀(pins:List (Addr×Obj)) (s:Shared) (σ:St) (H:Hp) (x:V) (xs:List V) (v:Value) (us:List Value) (Q:VK),Inv X pins σ H s->RelV x v->Vals xs us->r x xs H Q ->
   wpAny (model X.prog X.w) X.A (call (.builtin id) (v::us)) (EP X pins σ Q) X.xe s
section
variable{X:Cx}{a b:Expr}{ta tb:TE}{pos:Pos}
theorem IxR.or{r r':R2}(h:IxR X r)(h':IxR X r'):IxR X (fun x y H Q=>r x y H Q∨r' x y H Q):=by
 intro value slice pins s σ H x y v u Q I rx ry q hs;rcases q with q | q
 · exact h value slice pins s σ H x y v u Q I rx ry q hs
 exact h' value slice pins s σ H x y v u Q I rx ry q hs
theorem pe_ix{r:R2}(hr:IxR X r)(ha:PE X a ta)(hb:PE X b tb)(hs:PlainIx b):PE X (.Subscript a b pos) (tOp r ta tb):=by
 intro pins s σ H Q I h;exact Subscript_ (binT ha hb I h fun v u s2 x y H2 I2 rx ry q=>hr a b pins s2 σ H2 x y v u Q I2 rx ry q (hs _ _))
noncomputable def rIxL(K:W.Frag):R2:=fun x y H Q=>∃ p xs i v,x=.ref p/\y=.int i/\SqL K H p xs/\atI xs i=some v/\Q v H
noncomputable def rIxT(K:W.Frag):R2:=fun x y H Q=>∃ p xs i v,x=.ref p/\y=.int i/\SqT K H p xs/\atI xs i=some v/\Q v H
theorem ix_list:IxR X (rIxL X.K):=by
 intro value slice pins s σ H x y v u Q I rx ry h hs;obtain⟨p,xs,i,z,rfl,rfl,hq,he,q⟩:=h;cases rx;obtain⟨t,rfl⟩:=ry;obtain⟨its,r,pl,hz⟩:=I.list hq;obtain⟨j,h1,h2,h3,h4,h5⟩:=atI_get he;obtain⟨w,ew,rw'⟩:=r.get h2;have hl:=r.length;have hn:=line63;have fin:EP X pins σ Q w s:=⟨z,H,I,rw',q⟩;by_cases h0:0<=i
 · have hj:i.toNat=j:=by
    rw[seqIndex_of h0 h5]at h1;exact Option.some.inj h1
   exact item_listR pl.isList h0 (by omega) (by rw[hj];simpa using ew) fin hs
 have hj:(i+(its.toArray.size:Int)).toNat=j:=by
  rw[seqIndex_neg (by omega) h4]at h1
  rw[List.size_toArray,← hl];exact Option.some.inj h1
 exact subscriptTail_builtinR (x:=w) pl.isList.typeIs slot_list_getitem.lookup
  (wpAny_getItem_list_neg (Q:=fun r s'=>r=w/\EP X pins σ Q r s') pl.isList (by omega) (by rw[List.size_toArray] <;> omega) (by omega) (by rw[hj];simpa using ew) ⟨rfl,fin⟩) hs
theorem ix_tup:IxR X (rIxT X.K):=by
 intro value slice pins s σ H x y v u Q I rx ry h hs;obtain⟨p,xs,i,z,rfl,rfl,hq,he,q⟩:=h;cases rx;obtain⟨t,rfl⟩:=ry;obtain⟨its,r,pl,hz⟩:=I.tuple hq;obtain⟨j,h1,h2,h3,h4,h5⟩:=atI_get he;obtain⟨w,ew,rw'⟩:=r.get h2;have hl:=r.length;have hn:=line63;have fin:EP X pins σ Q w s:=⟨z,H,I,rw',q⟩;exact subscriptTail_builtinR (x:=w) pl.typeIs slot_tuple_getitem.lookup
  (getItem_tuple (j:=j) (Q:=fun r s'=>r=w/\EP X pins σ Q r s') pl (by omega) (by omega) (by rw[List.size_toArray,← hl];exact h1) (by simpa using ew) ⟨rfl,fin⟩) hs
theorem mapSeq_set(its:List Value)(n j:Nat)(u:Value):Obj.mapSeq (·.setIfInBounds j u) { cls:=.type "list",data:=.seq its.toArray n }={ cls:=.type "list",data:=.seq (its.set j u).toArray n }:=by
 simp[Obj.mapSeq]
theorem Inv.lst{pins:List (Addr×Obj)}{σ:St}{H:Hp}{s:Shared}{p:Addr}{xs:List V}(I:Inv X pins σ H s)(h:H p=some (.lst xs)) :
 ∃(its:List Value) (n:Nat),Vals xs its/\s.heap.get? p=some { cls:=.type "list",data:=.seq its.toArray n } /\ xs.length<=sizeLine:=by
 obtain⟨z,its,n,r,e⟩:=I.hok p _ h;exact⟨its,n,r,e,z⟩
theorem Inv.lstUpd{pins:List (Addr×Obj)}{σ:St}{H:Hp}{s:Shared}{p:Addr}{xs ys:List V}{its its':List Value}{n n':Nat}{f:Obj->Obj}(I:Inv X pins σ H s)(h:H p=some (.lst xs))
 (ho:s.heap.get? p=some { cls:=.type "list",data:=.seq its.toArray n }) (hf:f { cls:=.type "list",data:=.seq its.toArray n }={ cls:=.type "list",data:=.seq its'.toArray n' }) (r:Vals ys its') (hz:ys.length<=sizeLine) (t:Nat) :
 Inv X pins σ (upd H p (.lst ys)) { s with heap:=s.heap.update p f,toks:=t }:=by
 have e:(s.heap.update p f).get? p=some { cls:=.type "list",data:=.seq its'.toArray n' }:=by
  rw[Heap.get?_update_self f ho (by rw[hf] <;> rfl),hf]
 refine I.write (x:=p) (e:=p) (by rw[h];trivial) (.inl rfl) (fun b u hb q=>(Heap.get?_update_other _ _ (Ne.symm hb)).trans q) ⟨_,e⟩ ?_
 exact⟨hz,its',n',r,e⟩
noncomputable def rSetL:V->V->V->Hp->(Hp->Prop)->Prop:=fun o i v H Q=>∃ p xs k j,o=.ref p/\i=.int k/\H p=some (.lst xs)/\ixN xs.length k=some j/\Q (upd H p (.lst (xs.set j v)))
theorem set_list:PSet X rSetL:=by
 intro pins s σ H o i v ov iv u Q I ro ri rv h;obtain⟨p,xs,k,j,rfl,rfl,hp,hj,q⟩:=h;cases ro;obtain⟨t,rfl⟩:=ri;obtain⟨its,n,r,ho,hz⟩:=I.lst hp;obtain⟨h1,h2,h3,h4⟩:=ixN_seq hj;have hl:=r.length;have hn:=line63;have I':Inv X pins σ (upd H p (.lst (xs.set j v))) { s with heap:=s.heap.update p (Obj.mapSeq (·.setIfInBounds j u)) }:=
  I.lstUpd hp ho (mapSeq_set its n j u) (r.set rv j) (by rw[List.length_set];exact hz) s.toks
 by_cases h0:0<=k
 · have hk:k.toNat=j:=by
    rw[seqIndex_of h0 h4]at h1;exact Option.some.inj h1
   exact W.ki_setAt ho h0 (by omega) (by rw[List.size_toArray,← hl];exact h4) (by rw[hk];exact⟨_,I',q⟩)
 have hk:(k+(its.toArray.size:Int)).toNat=j:=by
  rw[seqIndex_neg (by omega) h3]at h1
  rw[List.size_toArray,← hl];exact Option.some.inj h1
 exact W.ki_setBack ho (by omega) (by rw[List.size_toArray,← hl];exact h3) (by omega) (by rw[hk];exact⟨_,I',q⟩)
theorem slice_bounds(lo hi:Option Int)(n:Nat):(sliceBounds lo hi none n).1=((HT.sIx n 0 lo:Nat):Int)/\(sliceBounds lo hi none n).2.1=((HT.sIx n n hi:Nat):Int)/\(sliceBounds lo hi none n).2.2=1:=by
 refine⟨?_,?_,rfl⟩
 · cases lo with
   | none=>simp[sliceBounds,HT.sIx]
   | some i=>
     simp only[sliceBounds,HT.sIx,Option.getD_none,show(1:Int) > 0 by decide,if_true]
     by_cases h:i < 0
     · simp only[h,if_true] <;> omega
     simp only[h,if_false] <;> omega
 cases hi with
 | none=>simp[sliceBounds,HT.sIx]
 | some i=>
   simp only[sliceBounds,HT.sIx,Option.getD_none,show(1:Int) > 0 by decide,if_true]
   by_cases h:i < 0
   · simp only[h,if_true] <;> omega
   simp only[h,if_false] <;> omega
theorem slicePick_cut(its:List Value)(lo hi:Option Int):slicePick its.toArray lo hi none=((its.drop (HT.sIx its.length 0 lo)).take (HT.sIx its.length its.length hi - HT.sIx its.length 0 lo)).toArray:=by
 obtain⟨h1,h2,h3⟩:=slice_bounds lo hi its.toArray.size;unfold slicePick;rw[h1,h2,h3];simp only[sliceRange_one,pick_run,List.size_toArray] <;> rfl
noncomputable def rSlL(K:W.Frag):V->Option Int->Option Int->Hp->VK->Prop:=fun x lo hi H Q=>∃ a xs,x=.ref a/\SqL K H a xs /\ ∀ p,H p=none->Q (.ref p) (upd H p (.lst (cutV xs lo hi)))
theorem sl_list:SlR X (rSlL X.K):=by
 intro pins s σ H x v vl vu lo hi sl Q I rx hs pl pu h;obtain⟨a,xs,rfl,hx,q⟩:=h;cases rx;obtain⟨its,r,ht,hz⟩:=I.list hx;have hlen:=r.length;refine⟨"list",_,slot_list_getitem.lookup,ht.isList.typeIs,?_⟩;refine wpAny_getItem_list_slice ht.isList hs pl pu .none (by simp) ?_ (by rw[List.size_toArray] <;> omega)
 rw[slicePick_cut,← hlen];refine⟨.ref s.heap.objs.size,_,I.laid (t':=s.toks) (o:=.lst (cutV xs lo hi)) (fun b ob q=>Heap.get?_push_of_some _ q) (Nat.le_refl _) ?_,rfl,q _ (I.hok.fresh (Nat.le_refl _))⟩;exact⟨Nat.le_trans (cutV_length xs lo hi) hz,_,0,(r.drop (HT.sIx xs.length 0 lo)).take (HT.sIx xs.length xs.length hi - HT.sIx xs.length 0 lo),Heap.get?_push_size _ rfl⟩
noncomputable def flatV:V->Bool
 | .non=>true
 | .bl _=>true
 | .int _=>true
 | .str _=>true
 | _=>false
noncomputable def eqV:V->V->Bool
 | .non,.non=>true
 | .bl a,.bl b=>a == b
 | .bl a,.int b=>(if a then 1 else 0) == b
 | .int a,.bl b=>a == (if b then 1 else 0)
 | .int a,.int b=>a == b
 | .str a,.str b=>a == b
 | _,_=>false
theorem eqAt_V{A:Around}{s:Shared}{y x:V}{u v:Value}(ry:RelV y u)(rx:RelV x v)(fy:flatV y=true)(fx:flatV x=true):SeqAt.EqAt A s u v (eqV y x):=by
 cases y with
 | non=>
   cases ry;cases x with
   | non=>cases rx;exact SeqAt.EqAt.same _
   | bl b=>cases rx;exact SeqAt.EqAt.none_bool b
   | int b=>obtain⟨t,rfl⟩:=rx;exact SeqAt.EqAt.none_int b t
   | str b=>obtain⟨t,rfl⟩:=rx;exact SeqAt.EqAt.none_str b t
   | _=>exact absurd (show false=true from fx) Bool.false_ne_true
 | bl a=>
   cases ry;cases x with
   | non=>cases rx;exact SeqAt.EqAt.bool_none a
   | bl b=>cases rx;exact SeqAt.EqAt.bool_bool a b
   | int b=>obtain⟨t,rfl⟩:=rx;exact SeqAt.EqAt.bool_int a b t
   | str b=>obtain⟨t,rfl⟩:=rx;exact SeqAt.EqAt.bool_str a b t
   | _=>exact absurd (show false=true from fx) Bool.false_ne_true
 | int a=>
   obtain⟨t',rfl⟩:=ry;cases x with
   | non=>cases rx;exact SeqAt.EqAt.int_none a t'
   | bl b=>cases rx;exact SeqAt.EqAt.int_bool a t' b
   | int b=>obtain⟨t,rfl⟩:=rx;exact SeqAt.EqAt.int_int a t' b t
   | str b=>obtain⟨t,rfl⟩:=rx;exact SeqAt.EqAt.int_str a t' b t
   | _=>exact absurd (show false=true from fx) Bool.false_ne_true
 | str a=>
   obtain⟨t',rfl⟩:=ry;cases x with
   | non=>cases rx;exact SeqAt.EqAt.str_none a t'
   | bl b=>cases rx;exact SeqAt.EqAt.str_bool a t' b
   | int b=>obtain⟨t,rfl⟩:=rx;exact SeqAt.EqAt.str_int a t' b t
   | str b=>obtain⟨t,rfl⟩:=rx;exact SeqAt.EqAt.str_str a t' b t
   | _=>exact absurd (show false=true from fx) Bool.false_ne_true
 | _=>exact absurd (show false=true from fy) Bool.false_ne_true
noncomputable def eqU(x:V)(u:Value):Bool:=match u with
 | .none=>eqV .non x
 | .bool b=>eqV (.bl b) x
 | .int i _=>eqV (.int i) x
 | .str z _=>eqV (.str z) x
 | _=>false
theorem eqU_of{x y:V}{u:Value}(r:RelV y u)(f:flatV y=true):eqU x u=eqV y x:=by
 cases y with
 | non=>cases r;rfl
 | bl b=>cases r;rfl
 | int i=>obtain⟨t,rfl⟩:=r;rfl
 | str z=>obtain⟨t,rfl⟩:=r;rfl
 | _=>exact absurd (show false=true from f) Bool.false_ne_true
theorem any_eqU{x:V}:∀{xs:List V}{us:List Value},Vals xs us->xs.all flatV=true->us.any (eqU x)=xs.any fun y=>eqV y x
 | _,_,.nil,_=>rfl
 | y::xs,u::us,.cons r t,f=>by
   rw[List.all_cons,Bool.and_eq_true]at f;rw[List.any_cons,List.any_cons,eqU_of r f.1,any_eqU t f.2]
theorem mem_eqAt{A:Around}{s:Shared}{x:V}{v:Value}(rx:RelV x v)(fx:flatV x=true):∀{xs:List V}{us:List Value},Vals xs us->xs.all flatV=true -> ∀ u∈us,SeqAt.EqAt A s u v (eqU x u)
 | _,_,.nil,_=>fun u hu=>by cases hu
 | y::xs,u::us,.cons r t,f=>fun u' hu=>by
   rw[List.all_cons,Bool.and_eq_true]at f;rcases List.mem_cons.mp hu with rfl | hu
   · rw[eqU_of r f.1];exact eqAt_V r rx f.1 fx
   exact mem_eqAt rx fx t f.2 u' hu
noncomputable def inV(x:V)(xs:List V):Bool:=xs.any fun y=>eqV y x
noncomputable def rIn(K:W.Frag)(neg:Bool):R2:=fun x y H Q=>∃ p xs,y=.ref p/\(SqL K H p xs∨SqT K H p xs)/\flatV x=true/\xs.all flatV=true/\Q (.bl (if neg then !inV x xs else inV x xs)) H
theorem op_in_seq:OpR X (compareOp .In) (rIn X.K false):=by
 intro pins s σ H x y v u Q I rx ry h;obtain⟨p,xs,rfl,hq,fx,fs,q⟩:=h;cases ry;rcases hq with hq | hq
 · obtain⟨its,r,pl,hz⟩:=I.list hq
   refine SeqAt.in_listAt (eqU x) pl.isList (fun w hw=>mem_eqAt rx fx r fs w (by simpa using hw)) ⟨.bl _,H,I,rfl,?_⟩
   rw[show its.toArray.any (eqU x)=its.any (eqU x) by simp,any_eqU r fs]
   exact q
 obtain⟨its,r,pl,hz⟩:=I.tuple hq;refine SeqAt.in_tupleAt (eqU x) pl (fun w hw=>mem_eqAt rx fx r fs w (by simpa using hw)) ⟨.bl _,H,I,rfl,?_⟩
 rw[show its.toArray.any (eqU x)=its.any (eqU x) by simp,any_eqU r fs]
 exact q
theorem call_len_seq:CallR X (.builtin "len") (fun xs H Q=>∃ p ys,xs=[.ref p]/\(SqL X.K H p ys∨SqT X.K H p ys)/\Q (.int ys.length) H):=by
 intro pins s σ H xs us Q I r h;obtain⟨p,ys,rfl,hq,q⟩:=h;obtain⟨u,rfl,rx⟩:=vals1 r;cases rx;have hn:=line63;rcases hq with hq | hq
 · obtain⟨its,r',pl,hz⟩:=I.list hq
   have hlen:=r'.length;exact Calls.call_len_list pl.isList (by simp only[List.size_toArray] <;> omega) ⟨.int ys.length,H,I.tok _,⟨s.toks+1,by rw[List.size_toArray,hlen]⟩,q⟩
 obtain⟨its,r',pl,hz⟩:=I.tuple hq;have hlen:=r'.length;exact len_tuple pl (by simp only[List.size_toArray] <;> omega) ⟨.int ys.length,H,I.tok _,⟨s.toks+1,by rw[List.size_toArray,hlen]⟩,q⟩
theorem call_list_of:CallR X (.type "list") (fun xs H Q=>∃ p ys,xs=[.ref p]/\(SqL X.K H p ys∨SqT X.K H p ys) /\ ∀ l,H l=none->Q (.ref l) (upd H l (.lst ys))):=by
 intro pins s σ H xs us Q I r h;obtain⟨p,ys,rfl,hq,q⟩:=h;obtain⟨u,rfl,rx⟩:=vals1 r;cases rx;have fin:∀(its:List Value),Vals ys its->ys.length<=sizeLine -> ∀(h':Heap) (c':Nat),(∀ b o',s.heap.get? b=some o'->h'.get? b=some o') ->
  h'.get? s.heap.objs.size=some { cls:=.type "list",dict:=none,data:=.seq its.toArray c',slots:=#[] } -> EP X pins σ Q (.ref s.heap.objs.size) { s with heap:=h' }:=fun its r' hz h' c' kp e=>
  ⟨.ref s.heap.objs.size,_,I.laid (t':=s.toks) kp (Nat.le_refl _) (show ObjOk X.prog X.w _ h' _ (.lst ys)from⟨hz,its,c',r',e⟩),rfl,q _ (I.hok.fresh (Nat.le_refl _))⟩
 rcases hq with hq | hq
 · obtain⟨its,r',pl,hz⟩:=I.list hq
   have hlen:=r'.length;obtain⟨o,ho,hc,n,hd⟩:=pl.isList;exact call_list_seq p (.inl rfl) ho hc hd (fun h' c' kp e=>fin its r' hz h' c' kp e) (by simp only[List.size_toArray] <;> omega)
 obtain⟨its,r',pl,hz⟩:=I.tuple hq;have hlen:=r'.length;obtain⟨o,ho,hc,n,hd⟩:=pl;exact call_list_seq p (.inr rfl) ho hc hd (fun h' c' kp e=>fin its r' hz h' c' kp e) (by simp only[List.size_toArray] <;> omega)
theorem call_tuple_of:CallR X (.type "tuple") (fun xs H Q=>∃ p ys,xs=[.ref p]/\((SqL X.K H p ys /\ ∀ l,H l=none->Q (.ref l) (upd H l (.tup ys)))∨(SqT X.K H p ys/\Q (.ref p) H))):=by
 intro pins s σ H xs us Q I r h;obtain⟨p,ys,rfl,h⟩:=h;obtain⟨u,rfl,rx⟩:=vals1 r;cases rx;rcases h with ⟨hq,q⟩ | ⟨hq,q⟩
 · obtain⟨its,r',pl,hz⟩:=I.list hq
   have hlen:=r'.length;refine call_tuple_list pl.isList (fun h' kp=>?_) (by simp only[List.size_toArray] <;> omega)
   have I1:Inv X pins σ H { s with heap:=h' }:=I.kept (t':=s.toks) kp;have I2:Inv X pins σ (upd H h'.objs.size (.tup ys)) { s with heap:=h'.push { cls:=.type "tuple",data:=.seq its.toArray } }:=
    I1.laid (t':=s.toks) (fun b o e=>Heap.get?_push_of_some _ e) (Nat.le_refl _) (show ObjOk X.prog X.w _ _ _ (.tup ys)from⟨hz,its,r',IsTup.new _ _⟩)
   exact⟨.ref h'.objs.size,_,I2,rfl,q _ (I1.hok.fresh (Nat.le_refl _))⟩
 obtain⟨its,r',pl,hz⟩:=I.tuple hq;exact call_tuple_same pl ⟨.ref p,H,I,rfl,q⟩
noncomputable def tyV(K:W.Frag)(T:String)(x:V)(H:Hp):Prop:=match x with
 | .str _=>T="str"
 | .int _=>T="int"
 | .ref p=>(T="list" /\ ∃ xs,SqL K H p xs)∨(T="tuple" /\ ∃ o,K.lookup p=some o/\o.cls=.type "tuple" /\ o.dict=none) ∨
  (T="dict" /\ ((∃ kvs,H p=some (.dK kvs)) ∨ ∃ kvs,H p=some (.dT kvs)))∨(T="set" /\ ∃ S n,H p=some (.set S n))
 | _=>False
theorem tyV_is{pins:List (Addr×Obj)}{σ:St}{H:Hp}{s:Shared}{T:String}{x:V}{v:Value}(I:Inv X pins σ H s)(r:RelV x v)(ty:tyV X.K T x H) :
 s.TypeIs v T /\ ∀ a,v=.ref a -> ∃ ob,s.heap.get? a=some ob/\ob.dict=none:=by
 cases x with
 | str z=>
   obtain⟨t,rfl⟩:=r;cases (show T="str" from ty);exact⟨typeIs_str s z t,fun _ e=>nomatch e⟩
 | int i=>
   obtain⟨t,rfl⟩:=r;cases (show T="int" from ty);exact⟨typeIs_int s i t,fun _ e=>nomatch e⟩
 | ref p=>
   cases r;rcases ty with ⟨rfl,xs,hq⟩ | ⟨rfl,o,hk,hc,hd⟩ | ⟨rfl,hk⟩ | ⟨rfl,S,n,hk⟩
   · obtain⟨its,_,pl,_⟩:=I.list hq
     refine⟨pl.isList.typeIs,fun a e=>?_⟩;cases e;obtain⟨o,n,e,c,hd,_⟩:=pl;exact⟨o,e,hd⟩
   · refine⟨⟨o,I.kIn p o hk,hc⟩,fun a e=>?_⟩
     cases e;exact⟨o,I.kIn _ o hk,hd⟩
   · have z:∃ o,s.heap.get? p=some o/\o.ExactDict:=by
      rcases hk with ⟨kvs,hk⟩ | ⟨kvs,hk⟩
      · obtain⟨_,_,_,_,o,_,_,e,ex,_⟩:=I.hok p _ hk
        exact⟨o,e,ex⟩
      obtain⟨_,_,_,_,o,_,_,e,ex,_⟩:=I.hok p _ hk;exact⟨o,e,ex⟩
     obtain⟨o,e,ex⟩:=z;refine⟨⟨o,e,ex.1⟩,fun a e2=>?_⟩;cases e2;exact⟨o,e,ex.2.1⟩
   obtain⟨o,_,_,_,e,ex,_⟩:=I.hok p _ hk;refine⟨⟨o,e,ex.1⟩,fun a e2=>?_⟩;cases e2;exact⟨o,e,ex.2.1⟩
 | _=>exact False.elim ty
noncomputable def tBM(K:W.Frag)(T:String)(r:V->List V->Hp->VK->Prop)(to:TE)(t:TA):TE:=fun σ H Q=>to σ H fun x H1=>tyV K T x H1/\t σ H1 fun xs H2=>r x xs H2 Q
variable{o e:Expr}{es:List Expr}{to:TE}{t:TA}{name:Str}{apos cpos:Pos}{T id:String}{r:V->List V->Hp->VK->Prop}
theorem pe_bm(pa:PlainAttrs T)(slot:Slot T name id)(hty:typeOf (.builtin id)=pure (.type "method_descriptor"))(hm:MtR X id r)(ho:PE X o to)(ha:PA X (e::es) t)
 (hbase:attributeBase o name X.env (eval o X.env)=eval o X.env:=by rfl)
 (hfew:((backTo cpos (starEach (e::es) X.env)).all (fun x=>!x.1) && (backToKw cpos (keywordEach [] X.env)).all (fun x=>x.1.isSome)
  && decide ((e::es).length+([]:List Keyword).length+(if([]:List Keyword).isEmpty then 0 else 1) < 30))=true:=by rfl)
 (hline:(apos.endLine == cpos.line)=true:=by rfl) (hs:starEach (e::es) X.env=(false,eval e X.env)::starEach es X.env:=by rfl) (hplain:(backTo cpos (starEach es X.env)).any (·.1)=false:=by rfl) :
 PE X (.Call (.Attribute o name apos) (e::es) [] cpos) (tBM X.K T r to t):=by
 intro pins s σ H Q I h;refine wpAny_Call_method_late hbase hfew hline rfl (thn (ho pins s σ H _ I h) fun v s1 zz=>?_);obtain⟨x,H1,I1,r1,ty,q1⟩:=zz;obtain⟨h1,h2⟩:=tyV_is I1 r1 ty;refine⟨T,id,pa,slot,hty,h1,h2,?_⟩;have hA:=ha cpos pins s1 σ H1 _ I1 q1;rw[hs]at hA ⊢;refine Calls.callWith_builtin (by show(false || (backTo cpos (starEach es X.env)).any (·.1))=false;rw[hplain] <;> rfl) (Calls.evalArgs_plain ?_)
 exact thn hA fun us s2 ⟨vs,H2,I2,r2,q2⟩=>hm pins s2 σ H2 x vs v us Q I2 r1 r2 q2
/- xs.append(e),list.index on a module's tuple .. are MtR facts of 06m -/
end
end L2
namespace L2
open PySem PySem.Spec PyProof.Rows
noncomputable def MtM(X:Cx)(id:String)(r:V->List V->Hp->VK->Prop):Prop:=
 ∀(pins:List (Addr×Obj)) (s:Shared) (σ:St) (H:Hp) (x:V) (xs:List V) (v:Value) (us:List Value) (Q:VK),Inv X pins σ H s->RelV x v->Vals xs us->r x xs H Q ->
   wpAny (model X.prog X.w) X.A (call (.builtin id) (v::us)) (EP X pins σ Q) X.xe s
theorem Vals.one:∀{x:V}{us:List Value},Vals [x] us -> ∃ u,us=[u]/\RelV x u
 | _,_,.cons r .nil=>⟨_,rfl,r⟩
section
variable{X:Cx}{pins:List (Addr×Obj)}{σ:St}{H:Hp}{s:Shared}{l b:Addr}{xs ys zs:List V}
theorem Inv.lset{its its':List Value}{n:Nat}{f:Array Value->Array Value}{t':Nat}(I:Inv X pins σ H s)(hH:H l=some (.lst xs))
 (e:s.heap.get? l=some { cls:=.type "list",data:=.seq its.toArray n }) (hf:f its.toArray=its'.toArray) (hv:Vals ys its') (hz:ys.length<=sizeLine) :
 Inv X pins σ (upd H l (.lst ys)) { s with heap:=s.heap.update l (Obj.mapSeq f),toks:=t' }:=by
 have q:=PySem.IsL.update e f;rw[hf]at q;refine I.write (x:=l) (e:=l) (by rw[hH];exact trivial) (.inl rfl) (fun b' u hb hu=>(Heap.get?_update_other s.heap (Obj.mapSeq f) (Ne.symm hb)).trans hu) ⟨_,q⟩ ?_
 exact⟨hz,its',_,hv,q⟩
theorem Inv.lnew{its:List Value}{t':Nat}(I:Inv X pins σ H s)(hv:Vals ys its)(hz:ys.length<=sizeLine) :
 Inv X pins σ (upd H s.heap.objs.size (.lst ys)) { s with heap:=s.heap.push { cls:=.type "list",data:=.seq its.toArray },toks:=t' }:=
 I.laid (fun _ _ q=>Heap.get?_push_of_some _ q) (Nat.le_refl _) ⟨hz,its,0,hv,Heap.get?_push_size _ rfl⟩
theorem Inv.fresh(I:Inv X pins σ H s):H s.heap.objs.size=none:=I.hok.fresh (Nat.le_refl _)
theorem Inv.lstM(I:Inv X pins σ H s)(hH:H l=some (.lst xs)):xs.length<=sizeLine /\ ∃(its:List Value) (n:Nat),Vals xs its/\xs.length=its.length/\s.heap.get? l=some { cls:=.type "list",data:=.seq its.toArray n }:=by
 obtain⟨z,its,n,r,e⟩:=I.hok l _ hH;exact⟨z,its,n,r,r.length,e⟩
theorem notLongL{n:Nat}(h:n<=sizeLine):Builtin.List.listTooLong n=false:=by
 unfold Builtin.List.listTooLong;exact decide_eq_false (by omega)
end
section
variable{X:Cx}
noncomputable def rAppend:V->List V->Hp->VK->Prop:=fun x vs H Q=>∃ l xs y,x=.ref l/\vs=[y]/\H l=some (.lst xs)/\xs.length < sizeLine/\Q .non (upd H l (.lst (xs++[y])))
theorem mt_append:MtM X "list.append" rAppend:=by
 intro pins s σ H x vs v us Q I rx rv h;obtain⟨l,xs,y,rfl,rfl,hH,hz,q⟩:=h;cases rx;obtain⟨u,rfl,ru⟩:=rv.one;obtain⟨z,its,n,r,hl,e⟩:=I.lstM hH;refine call_meets F.slot_list_append ⟨_,e,rfl⟩ F.entry_list_append (F.args_list_append_2 _ _) (PySem.list_append l its.toArray n u (by rw[List.size_toArray];omega)) ⟨e,?_⟩
 refine⟨.non,_,I.lset (its':=its++[u]) hH e (by simp) (r.append (.cons ru .nil)) ?_,rfl,q⟩
 rw[List.length_append,List.length_singleton];omega
noncomputable def rExtend:V->List V->Hp->VK->Prop:=fun x vs H Q=>∃ l b xs zs,x=.ref l/\vs=[.ref b]/\H l=some (.lst xs)/\H b=some (.lst zs)/\xs.length+zs.length<=sizeLine/\Q .non (upd H l (.lst (xs++zs)))
theorem mt_extend:MtM X "list.extend" rExtend:=by
 intro pins s σ H x vs v us Q I rx rv h;obtain⟨l,b,xs,zs,rfl,rfl,hH,hB,hz,q⟩:=h;cases rx;obtain⟨u,rfl,ru⟩:=rv.one;cases ru;obtain⟨z,its,n,r,hl,e⟩:=I.lstM hH;obtain⟨z2,its2,n2,r2,hl2,e2⟩:=I.lstM hB;have hsz:its.toArray.size+its2.toArray.size<=sizeLine:=by rw[List.size_toArray,List.size_toArray];omega
 have hlong:¬ (!its.toArray.isEmpty && Builtin.List.listTooLong (its.toArray.size+its2.toArray.size))=true:=by
  rw[notLongL hsz,Bool.and_false];exact Bool.false_ne_true
 refine call_meets F.slot_list_extend ⟨_,e,rfl⟩ F.entry_list_extend (F.args_list_extend_2 _ _)
  (AutoSeq1.list_extend_list_list_0 l its.toArray n b its2.toArray n2 hlong (by rw[List.size_toArray];omega) (by omega)) ⟨e,e2,?_⟩
 refine⟨.non,_,I.lset (its':=its++its2) hH e (by simp) (r.append r2) ?_,rfl,q⟩
 rw[List.length_append];omega
noncomputable def rCat:R2:=fun x y H Q=>∃ l b xs zs,x=.ref l/\y=.ref b/\H l=some (.lst xs)/\H b=some (.lst zs)/\xs.length+zs.length<=sizeLine /\ ∀ p,H p=none->Q (.ref p) (upd H p (.lst (xs++zs)))
theorem op_cat:OpR X (binaryOp .Add) rCat:=by
 intro pins s σ H x y v u Q I rx ry h;obtain⟨l,b,xs,zs,rfl,rfl,hH,hB,hz,q⟩:=h;cases rx;cases ry;obtain⟨z,its,n,r,hl,e⟩:=I.lstM hH;obtain⟨z2,its2,n2,r2,hl2,e2⟩:=I.lstM hB;refine PySem.P.add_list e e2 ?_ (by rw[List.size_toArray,List.size_toArray];omega)
 have ea:its.toArray++its2.toArray=(its++its2).toArray:=by simp
 rw[ea];exact⟨.ref _,_,I.lnew (t':=s.toks) (r.append r2) (by rw[List.length_append];omega),rfl,q _ I.fresh⟩
end
section
variable{prog:Program}{w:World}{A:Around}{E:Value->Shared->Prop}{s:Shared}
set_option maxRecDepth 100000 in
end
section
variable{X:Cx}
end
end L2
namespace L2
open PySem PySem.Spec PyProof.Rows
section
variable{κ:Type}[DecidableEq κ]
noncomputable def valV(kvs:List (κ × V))(k:κ):Option V:=(kvs.find? fun kv=>decide (kv.1=k)).map (·.2)
noncomputable def putK(kvs:List (κ × V))(k:κ)(v:V):List (κ × V):=
 if(kvs.any fun kv=>decide (kv.1=k))=true then kvs.map (fun kv=>if kv.1=k then(kv.1,v)else kv)else kvs++[(k,v)]
theorem valV_pos{p:κ × V}{r:List (κ × V)}{k:κ}(e:p.1=k):valV (p::r) k=some p.2:=by simp[valV,List.find?_cons,e]
theorem valV_neg{p:κ × V}{r:List (κ × V)}{k:κ}(e:¬ p.1=k):valV (p::r) k=valV r k:=by simp[valV,List.find?_cons,e]
theorem valV_any(k:κ):∀ kvs:List (κ × V),(kvs.any fun kv=>decide (kv.1=k))=(valV kvs k).isSome
 | []=>rfl
 | p::r=>by
   rw[List.any_cons];by_cases e:p.1=k
   · simp only[valV_pos e,decide_eq_true e,Bool.true_or,Option.isSome_some]
   rw[valV_neg e,decide_eq_false e,Bool.false_or];exact valV_any k r
theorem valV_map(k j:κ)(y:V):∀ kvs:List (κ × V),valV (kvs.map fun kv=>if kv.1=k then(kv.1,y)else kv) j=(valV kvs j).map fun x=>if j=k then y else x
 | []=>rfl
 | p::r=>by
   have ih:=valV_map k j y r;rw[List.map_cons];by_cases h:p.1=k
   · rw[if_pos h]
     by_cases e:p.1=j
     · rw[valV_pos (p:=(p.1,y)) e,valV_pos e,Option.map_some,if_pos (e.symm.trans h)]
     rw[valV_neg (p:=(p.1,y)) e,valV_neg e,ih]
   rw[if_neg h];by_cases e:p.1=j
   · rw[valV_pos (p:=p) e,valV_pos e,Option.map_some,if_neg (fun z=>h (e.trans z))]
   rw[valV_neg (p:=p) e,valV_neg e,ih]
theorem valV_snoc(k j:κ)(y:V):∀ kvs:List (κ × V),valV kvs k=none->valV (kvs++[(k,y)]) j=if j=k then some y else valV kvs j
 | [],_=>by
   by_cases e:k=j
   · rw[if_pos e.symm];exact valV_pos (p:=(k,y)) e
   rw[if_neg (fun z=>e z.symm)];exact valV_neg (p:=(k,y)) e
 | p::r,hn=>by
   rw[List.cons_append];have hk:¬ p.1=k:=fun z=>by rw[valV_pos z]at hn;cases hn
   rw[valV_neg hk]at hn;have ih:=valV_snoc k j y r hn;by_cases e:p.1=j
   · rw[valV_pos e,valV_pos e,if_neg (fun z=>hk (e.trans z))]
   rw[valV_neg e,valV_neg e,ih]
theorem valV_put(kvs:List (κ × V))(k j:κ)(y:V):valV (putK kvs k y) j=if j=k then some y else valV kvs j:=by
 unfold putK;by_cases a:(kvs.any fun kv=>decide (kv.1=k))=true
 · rw[if_pos a,valV_map]
   rw[valV_any]at a;by_cases e:j=k
   · obtain⟨x,hx⟩:=Option.isSome_iff_exists.mp a
     rw[if_pos e,e,hx,Option.map_some,if_pos rfl]
   rw[if_neg e];cases valV kvs j with
   | none=>rfl
   | some x=>rw[Option.map_some,if_neg e]
 rw[if_neg a];refine valV_snoc k j y kvs ?_;rw[valV_any]at a;cases q:valV kvs k with
 | none=>rfl
 | some x=>rw[q]at a;exact(a rfl).elim
theorem length_putK(kvs:List (κ × V))(k:κ)(v:V):(putK kvs k v).length<=kvs.length+1:=by
 unfold putK;split
 · rw[List.length_map];omega
 rw[List.length_append,List.length_cons,List.length_nil];omega
theorem RelO.isSome_eq{o:Option V}{u:Option Value}(r:RelO o u):o.isSome=u.isSome:=by
 cases o with
 | none=>cases u with
   | none=>rfl
   | some _=>exact(show False from r).elim
 | some _=>cases u with
   | none=>exact(show False from r).elim
   | some _=>rfl
theorem RelO.getD{o:Option V}{u:Option Value}{d:V}{d':Value}(r:RelO o u)(rd:RelV d d'):RelV (o.getD d) (u.getD d'):=by
 cases o with
 | none=>cases u with
   | none=>exact rd
   | some _=>exact(show False from r).elim
 | some _=>cases u with
   | none=>exact(show False from r).elim
   | some _=>exact r
theorem KV.val{kvs:List (κ × V)}{vs:List (κ × Value)}(r:KV kvs vs)(k:κ):RelO (valV kvs k) (valueAt vs k):=by
 unfold KV at r
 induction r with
 | nil=>exact True.intro
 | @cons p q ps qs h t ih=>
   obtain⟨h1,h2⟩:=h;by_cases e:p.1=k
   · have e':q.1=k:=h1.symm.trans e
     have b:valueAt (q::qs) k=some q.2:=by simp[valueAt,List.find?_cons,e']
     rw[valV_pos e,b];exact h2
   have e':¬ q.1=k:=fun z=>e (h1.trans z);have b:valueAt (q::qs) k=valueAt qs k:=by simp[valueAt,List.find?_cons,e']
   rw[valV_neg e,b];exact ih
theorem KV.any{kvs:List (κ × V)}{vs:List (κ × Value)}(r:KV kvs vs)(k:κ):(kvs.any fun kv=>decide (kv.1=k))=vs.any fun kv=>decide (kv.1=k):=by
 unfold KV at r
 induction r with
 | nil=>rfl
 | cons h t ih=>rw[List.any_cons,List.any_cons,ih,h.1]
theorem KV.repl{kvs:List (κ × V)}{vs:List (κ × Value)}(r:KV kvs vs)(k:κ){y:V}{u:Value}(ry:RelV y u) :
 KV (kvs.map fun kv=>if kv.1=k then(kv.1,y)else kv) (vs.map fun kv=>if kv.1=k then(kv.1,u)else kv):=by
 unfold KV at r ⊢
 induction r with
 | nil=>exact .nil
 | @cons p q ps qs h t ih=>
   rw[List.map_cons,List.map_cons];refine .cons ?_ ih;obtain⟨h1,h2⟩:=h;by_cases e:p.1=k
   · rw[if_pos e,if_pos (h1.symm.trans e)];exact⟨h1,ry⟩
   rw[if_neg e,if_neg (fun z=>e (h1.trans z))];exact⟨h1,h2⟩
theorem KV.put{kvs:List (κ × V)}{vs:List (κ × Value)}(r:KV kvs vs)(k:κ){y:V}{u:Value}(ry:RelV y u):KV (putK kvs k y) (stored vs k u):=by
 unfold putK stored;rw[r.any k];by_cases e:(vs.any fun kv=>decide (kv.1=k))=true
 · rw[if_pos e,if_pos e];exact r.repl k ry
 rw[if_neg e,if_neg e];exact Paired.snoc r ⟨rfl,ry⟩
theorem KV.length{kvs:List (κ × V)}{vs:List (κ × Value)}(r:KV kvs vs):kvs.length=vs.length:=Paired.length r
end
theorem kV_is{P:Program}{w:World}{k:Key}{u:Value}(r:RelV (kV k) u):(mixKind P w).is k u=true:=by
 cases k with
 | inl i=>obtain⟨t,e⟩:=(show ∃ t,u=Value.int i t from r);subst e;exact mixKind_int P w i t
 | inr x=>obtain⟨t,e⟩:=(show ∃ t,u=Value.str x t from r);subst e;exact mixKind_str P w x t
theorem items_are{P:Program}{w:World}:∀{ks:List Key}{us:List Value},Vals (ks.map kV) us->ItemsAre (mixKind P w) ks us
 | [],_,r=>by rw[List.map_nil]at r;cases r;exact .nil
 | k::ks,_,r=>by
   rw[List.map_cons]at r;cases r with
   | cons h t=>exact .cons (kV_is h) (items_are t)
noncomputable abbrev KT(H:Hp):List (List Key×V)->List (List Key×Addr×Value)->Prop:=Paired fun p q=>p.1=q.1/\H q.2.1=some (.tup (p.1.map kV))/\RelV p.2 q.2.2
theorem KT.val{H:Hp}{kvs:List (List Key×V)}{xs:List (List Key×Addr×Value)}(r:KT H kvs xs)(k:List Key):RelO (valV kvs k) ((atKey xs k).map (·.2)):=by
 induction r with
 | nil=>exact True.intro
 | @cons p q ps qs h t ih=>
   obtain⟨h1,_,h2⟩:=h;by_cases e:p.1=k
   · have e':q.1=k:=h1.symm.trans e
     have b:atKey (q::qs) k=some q.2:=by simp[atKey,List.find?_cons,e']
     rw[valV_pos e,b];exact h2
   have e':¬ q.1=k:=fun z=>e (h1.trans z);have b:atKey (q::qs) k=atKey qs k:=by simp[atKey,List.find?_cons,e']
   rw[valV_neg e,b];exact ih
theorem KT.repl{H:Hp}{kvs:List (List Key×V)}{xs:List (List Key×Addr×Value)}(r:KT H kvs xs)(k:List Key){y:V}{u:Value}(ry:RelV y u) :
 KT H (kvs.map fun kv=>if kv.1=k then(kv.1,y)else kv) (xs.map (putAt k u)):=by
 induction r with
 | nil=>exact .nil
 | @cons p q ps qs h t ih=>
   rw[List.map_cons,List.map_cons];refine .cons ?_ ih;obtain⟨h1,h2,h3⟩:=h;unfold putAt;by_cases e:p.1=k
   · rw[if_pos e,if_pos (h1.symm.trans e)];exact⟨h1,h2,ry⟩
   rw[if_neg e,if_neg (fun z=>e (h1.trans z))];exact⟨h1,h2,h3⟩
theorem KT.put{H:Hp}{kvs:List (List Key×V)}{xs:List (List Key×Addr×Value)}(r:KT H kvs xs)(k:List Key){b:Addr}{y:V}{u:Value}(hb:H b=some (.tup (k.map kV)))(ry:RelV y u) :
 KT H (putK kvs k y) (storedH xs k b u):=by
 have e:(kvs.any fun kv=>decide (kv.1=k))=(atKey xs k).isSome:=by
  rw[valV_any,(r.val k).isSome_eq,Option.isSome_map]
 unfold putK storedH;rw[e];by_cases q:(atKey xs k).isSome=true
 · rw[if_pos q,if_pos q];exact r.repl k ry
 rw[if_neg q,if_neg q];exact Paired.snoc r ⟨rfl,hb,ry⟩
theorem KT.keeps{H H':Hp}{kvs:List (List Key×V)}{xs:List (List Key×Addr×Value)}(r:KT H kvs xs)(ht:∀ b ys,H b=some (.tup ys)->H' b=some (.tup ys)):KT H' kvs xs:=
 Paired.mapP r fun _ _ z=>⟨z.1,ht _ _ z.2.1,z.2.2⟩
section
variable{P:Program}{w:World}{H:Hp}{h:Heap}{a:Addr}
theorem rd_of{u:HO}(ok:HOk P w H h)(e:Rd H a u):ObjOk P w H h a u:=e.ok ok
theorem dk_rd{kvs:List (Key×V)}(ok:HOk P w H h)(e:Rd H a (.dK kvs)):kvs.length<=sizeLine/\(a == sysModules)=false /\ ∃ vs,KV kvs vs/\h.DictOf (mixKind P w) a vs:=
 show ObjOk P w H h a (.dK kvs)from rd_of ok e
theorem dk_of{kvs:List (Key×V)}(ok:HOk P w H h)(e:H a=some (.dK kvs)):kvs.length<=sizeLine/\(a == sysModules)=false /\ ∃ vs,KV kvs vs/\h.DictOf (mixKind P w) a vs:=dk_rd ok (.inl e)
theorem key_of{ks:List Key}(ok:HOk P w H h)(e:H a=some (.tup (ks.map kV))):(tupleKind (mixKind P w)).is h ks a:=by
 obtain⟨_,its,r,o,h1,h2,n,h3⟩:=(show ObjOk P w H h a (.tup (ks.map kV))from ok a _ e);exact⟨o,its.toArray,n,h1,h2,h3,by simpa using items_are r⟩
theorem dt_rd{kvs:List (List Key×V)}(ok:HOk P w H h)(e:Rd H a (.dT kvs)):kvs.length<=sizeLine/\(a == sysModules)=false /\
 ∃ xs,KT H kvs xs/\h.DictOfH (tupleKind (mixKind P w)) a xs:=by
 obtain⟨z,y,xs,r,o,es,ep,h1,h2,h3,h4,h5⟩:=(show ObjOk P w H h a (.dT kvs)from rd_of ok e);refine⟨z,y,xs,r,o,es,ep,h1,h2,h3,h4,fun x hx=>?_,h5⟩;have all:∀{l:List (List Key×V)}{m:List (List Key×Addr×Value)},KT H l m -> ∀ x∈m,(tupleKind (mixKind P w)).is h x.1 x.2.1:=by
  intro l m q
  induction q with
  | nil=>intro x hx;exact nomatch hx
  | @cons p q ps qs hq t ih=>
    intro x hx;rcases List.mem_cons.mp hx with e | hx
    · subst e
      exact key_of ok (by rw[← hq.1];exact hq.2.1)
    exact ih x hx
 exact all r x hx
theorem dt_of{kvs:List (List Key×V)}(ok:HOk P w H h)(e:H a=some (.dT kvs)):kvs.length<=sizeLine/\(a == sysModules)=false /\
 ∃ xs,KT H kvs xs/\h.DictOfH (tupleKind (mixKind P w)) a xs:=dt_rd ok (.inl e)
end
noncomputable def DGet(H:Hp)(a:Addr)(y:V)(r:Option V):Prop:=
 (∃ kvs k,Rd H a (.dK kvs)/\y=kV k/\r=valV kvs k) ∨ ∃ kvs k b,Rd H a (.dT kvs)/\y=.ref b/\H b=some (.tup (k.map kV))/\r=valV kvs k
noncomputable def DPut(H:Hp)(a:Addr)(y v:V)(H':Hp):Prop:=
 (∃ kvs k,H a=some (.dK kvs)/\y=kV k/\kvs.length < sizeLine/\H'=upd H a (.dK (putK kvs k v))) ∨
 ∃ kvs k b,H a=some (.dT kvs)/\y=.ref b/\H b=some (.tup (k.map kV))/\kvs.length < sizeLine/\H'=upd H a (.dT (putK kvs k v))
theorem DGet.k{H:Hp}{a:Addr}{kvs:List (Key×V)}{k:Key}(e:H a=some (.dK kvs)):DGet H a (kV k) (valV kvs k):=.inl ⟨kvs,k,.inl e,rfl,rfl⟩
theorem DPut.k{H:Hp}{a:Addr}{kvs:List (Key×V)}{k:Key}{v:V}(e:H a=some (.dK kvs))(hl:kvs.length < sizeLine):DPut H a (kV k) v (upd H a (.dK (putK kvs k v))):=.inl ⟨kvs,k,e,rfl,hl,rfl⟩
section
variable{X:Cx}{pins:List (Addr×Obj)}{σ:St}{H:Hp}{s:Shared}{a:Addr}{y v:V}{u r:Value}{o:Option V}{A:Around}{E:Value->Shared->Prop}
theorem Inv.big(I:Inv X pins σ H s):sysModules < s.heap.objs.size:=by
 have h:mainGlobals < s.heap.objs.size:=(I.mod.glob.keeps I.bk).lt;exact Nat.lt_trans (by decide) h
theorem d_write{h':Heap}{t':Nat}{ob:HO}(I:Inv X pins σ H s)(mu:Mut (H a))(hs:Heap.SameBut a s.heap h')(he:∃ q,h'.get? a=some q)(new:ObjOk X.prog X.w (upd H a ob) h' a ob) :
 Inv X pins σ (upd H a ob) { s with heap:=h',toks:=t' }:=
 I.write (x:=a) (e:=a) mu (.inl rfl) (fun b q hb z=>(hs.2 b hb).trans z) he new
theorem dk_new{P:Program}{w:World}{H':Hp}{h':Heap}{kvs:List (Key×V)}{vs:List (Key×Value)}(z:kvs.length<=sizeLine)(hd:(a == sysModules)=false)(rel:KV kvs vs)(dd:h'.DictOf (mixKind P w) a vs) :
 ObjOk P w H' h' a (.dK kvs):=⟨z,hd,vs,rel,dd⟩
theorem d_setItem{H':Hp}{Q:Unit->Shared->Prop}(hu:A.units+1 < cLine)(I:Inv X pins σ H s)(g:DPut H a y v H')(ry:RelV y u)(rv:RelV v r)(h:∀ s',Inv X pins σ H' s'->Q () s') :
 wpAny (model X.prog X.w) A (setItem (.ref a) u r) Q E s:=by
 rcases g with ⟨kvs,k,e,ey,l,eH⟩ | ⟨kvs,k,b,e,ey,eb,l,eH⟩
 · subst ey eH
   obtain⟨z,hd,vs,rel,dd⟩:=dk_of I.hok e;have hz:vs.length<=sizeLine:=by rw[← rel.length];exact z
   have hl:(putK kvs k v).length<=sizeLine:=by have:=length_putK kvs k v;omega
   refine wpAny_setItem_pairs (hsz:=hz) (kV_is ry) dd fun h' dd' hs=>h _ ?_;have he:∃ q,h'.get? a=some q:=let⟨q,_,_,hq,_⟩:=dd';⟨q,hq⟩;exact d_write I (by rw[e];exact True.intro) hs he (dk_new hl hd (rel.put k rv) dd')
 subst ey eH;cases (show u=Value.ref b from ry);obtain⟨z,hd,xs,rel,dd⟩:=dt_of I.hok e;have hz:xs.length<=sizeLine:=by rw[← Paired.length rel];exact z
 have hl:(putK kvs k v).length<=sizeLine:=by have:=length_putK kvs k v;omega
 refine wpAny_setItem_heap (hsz:=hz) (tupleKind_room_in1 hu) (key_of I.hok eb) dd fun h' dd' hs=>h _ ?_;obtain⟨q,es,ep,hq,h2,h3,h4,_,h5⟩:=dd';refine d_write I (by rw[e];exact True.intro) hs ⟨q,hq⟩ ⟨hl,hd,_,(rel.put k eb rv).keeps fun c ys ec=>?_,q,es,ep,hq,h2,h3,h4,h5⟩
 rw[upd_ne (ne_of ec e (fun z=>nomatch z))];exact ec
end
section
variable{X:Cx}{pins:List (Addr×Obj)}{σ:St}{H:Hp}{s:Shared}{a:Addr}{kvs:List (Key×V)}{k:Key}{u:Value}{A:Around}{E:Value->Shared->Prop}
end
noncomputable def sDPut(td ty tv:TE):TS:=fun D σ H=>tv σ H fun v H1=>td σ H1 fun x H2=>ty σ H2 fun y H3=>∃ a H4,x=.ref a/\DPut H3 a y v H4/\D.nx σ H4
section
variable{X:Cx}{o i e value:Expr}{pos pos' tpos:Pos}{td ty tv:TE}
theorem ps_dput(hu:X.A.units+1 < cLine)(ho:PE X o td)(hi:PE X i ty)(hv:PE X value tv)(hs:swapsWith value (some (.Subscript o i pos')) pos.line X.env=pure false) :
 PS X (.Assign [.Subscript o i pos'] value pos) (sDPut td ty tv):=by
 intro pins s σ H D I h;refine wpAny_Assign_Subscript (thn (hv pins s σ H _ I h) fun r s1 ⟨v,H1,I1,rv,q1⟩=>thn (ho pins s1 σ H1 _ I1 q1) fun u s2 ⟨x,H2,I2,rx,q2⟩=>thn (hi pins s2 σ H2 _ I2 q2) fun iv s3 ⟨y,H3,I3,ry,a,H4,ex,g,q3⟩=>?_) hs;subst ex;obtain rfl:u=Value.ref a:=rx;exact d_setItem hu I3 g ry rv fun s4 I4=>⟨σ,H4,I4,q3⟩
end
theorem dk_empty{P:Program}{w:World}{H:Hp}(h:Heap)(hb:sysModules < h.objs.size):ObjOk P w H (h.push { cls:=.type "dict",data:=.dict #[] }) h.objs.size (.dK []):=
 ⟨Nat.zero_le _,beq_eq_false_iff_ne.mpr (Ne.symm (Nat.ne_of_lt hb)),[],.nil,Heap.DictOf.new h⟩
noncomputable def tDNewK:TE:=fun _ H Q=>∀ p,H p=none->Q (.ref p) (upd H p (.dK []))
section
variable{X:Cx}{pos:Pos}
theorem pe_dnewK:PE X (.Dict [] [] pos) tDNewK:=fun pins s σ H Q I h=>
 wpAny_Dict_empty ⟨.ref s.heap.objs.size,_,I.laid (a:=s.heap.objs.size) (o:=.dK []) (t':=s.toks) (fun _ _ q=>Heap.get?_push_of_some _ q) (Nat.le_refl _) (dk_empty s.heap I.big),rfl,h _ (I.hok.fresh (Nat.le_refl _))⟩
end
structure M1(X:Cx)(o:Expr)(m:Str)(apos:Pos)(e:Expr)(cpos:Pos):Prop where
 base:attributeBase o m X.env (eval o X.env)=eval o X.env
 few:((backTo cpos (starEach [e] X.env)).all (fun x=>!x.1) && (backToKw cpos (keywordEach [] X.env)).all (fun x=>x.1.isSome)
  && decide (([e]:List Expr).length+([]:List Keyword).length+(if([]:List Keyword).isEmpty then 0 else 1) < 30))=true
 line:(apos.endLine == cpos.line)=true
 trees:backTo cpos (starEach [e] X.env)=[(false,eval e X.env)]
noncomputable def IsD(H:Hp)(a:Addr):Prop:=(∃ kvs,Rd H a (.dK kvs)) ∨ ∃ kvs,Rd H a (.dT kvs)
theorem isD_at{X:Cx}{pins:List (Addr×Obj)}{σ:St}{H:Hp}{s:Shared}{a:Addr}(I:Inv X pins σ H s)(d:IsD H a) :
 s.TypeIs (.ref a) "dict" /\ (∀ b,Value.ref a=.ref b -> ∃ ob,s.heap.get? b=some ob/\ob.dict=none)/\(a == sysModules)=false:=by
 rcases d with ⟨kvs,e⟩ | ⟨kvs,e⟩
 · obtain⟨_,hd,vs,_,dd⟩:=dk_rd I.hok e
   refine⟨dd.typeIs,fun b q=>?_,hd⟩;cases q;obtain⟨ob,_,_,h1,h2,_⟩:=dd;exact⟨ob,h1,h2.2.1⟩
 obtain⟨_,hd,xs,_,dd⟩:=dt_rd I.hok e;refine⟨dd.typeIs,fun b q=>?_,hd⟩;cases q;obtain⟨ob,_,_,h1,h2,_⟩:=dd;exact⟨ob,h1,h2.2.1⟩
section
variable{X:Cx}{pins:List (Addr×Obj)}{σ:St}{H:Hp}{s:Shared}{a:Addr}{y d:V}{u r:Value}{o:Option V}{A:Around}{E:Value->Shared->Prop}
theorem d_get1{Q:Value->Shared->Prop}(hu:A.units+1 < cLine)(I:Inv X pins σ H s)(g:DGet H a y o)(ry:RelV y u)(h:∀ w' s',Inv X pins σ H s'->RelV (o.getD .non) w'->Q w' s') :
 wpAny (model X.prog X.w) A (call (.builtin "dict.get") [.ref a,u]) Q E s:=by
 rcases g with ⟨kvs,k,e,ey,l⟩ | ⟨kvs,k,b,e,ey,eb,l⟩
 · subst ey
   obtain⟨z,hd,vs,rel,dd⟩:=dk_rd I.hok e;refine call_meetsIn PySem.F.slot_dict_get dd.typeIs PySem.F.entry_dict_get (PySem.F.args_dict_get_2 _ _) (meets_dict_get (mixKind X.prog X.w) a (kV_is ry) hd) ⟨_,dd.mapOf,h _ _ (I.tok _) ?_⟩;rw[l];exact(rel.val k).getD rfl
 subst ey;cases (show u=Value.ref b from ry);obtain⟨z,hd,xs,rel,dd⟩:=dt_rd I.hok e;refine call_meetsIn PySem.F.slot_dict_get dd.typeIs PySem.F.entry_dict_get (PySem.F.args_dict_get_2 _ _) (meetsH_dict_get (tupleKind (mixKind X.prog X.w)) a b hd) ⟨tupleKind_room_in1 hu,k,xs,key_of I.hok eb,dd,h _ _ (I.tok _) ?_⟩;rw[l];exact(rel.val k).getD rfl
end
noncomputable def tDGet1(td ty:TE):TE:=fun σ H Q=>td σ H fun x H1=>∃ a,x=.ref a/\IsD H1 a/\ty σ H1 fun y H2=>∃ o,DGet H2 a y o/\Q (o.getD .non) H2
section
variable{X:Cx}{o e f:Expr}{apos cpos:Pos}{td ty tx:TE}
theorem pe_dget1(hu:X.A.units+1 < cLine)(ho:PE X o td)(he:PE X e ty)(m:M1 X o "get" apos e cpos):PE X (.Call (.Attribute o "get" apos) [e] [] cpos) (tDGet1 td ty):=by
 intro pins s σ H Q I h;refine wpAny_Call_method m.base m.few m.line PySem.F.plainAttrs_dict PySem.F.slot_dict_get PySem.F.type_dict_get (thn (ho pins s σ H _ I h) fun u s1 zz=>?_);obtain⟨x,H1,I1,rx,a,ex,d,q1⟩:=zz;subst ex;obtain rfl:u=Value.ref a:=rx;obtain⟨t1,t2,_⟩:=isD_at I1 d;refine⟨t1,t2,?_⟩;rw[m.trees];refine Calls.callWith_builtin rfl (Calls.evalArgs_plain (Calls.spliced_cons (thn (he pins s1 σ H1 _ I1 q1) fun iv s2 ⟨y,H2,I2,ry,ov,g,q2⟩=>Calls.spliced_nil ?_)));exact d_get1 hu I2 g ry fun w' s3 I3 rw'=>⟨_,H2,I3,rw',q2⟩
end
section
variable{X:Cx}{pins:List (Addr×Obj)}{σ:St}{H:Hp}{s:Shared}{a:Addr}{kvs:List (Key×V)}{A:Around}{E:Value->Shared->Prop}
end
section
variable{X:Cx}{pins:List (Addr×Obj)}{σ:St}{H:Hp}{s:Shared}{a:Addr}{y:V}{u:Value}{A:Around}{E:Value->Shared->Prop}
end
end L2
namespace Att
open PySem PySem.W PySem.Calls PyProof.Rows
theorem ints_of_wellAll{P:Params}{h:Heap}:∀(ns:List Int) (vs:List Value),WellAll P h vs (ns.map WData.int)->IntsAre vs ns:=by
 intro ns
 induction ns with
 | nil=>
   intro vs w;rw[List.map_nil]at w;cases w;exact .nil
 | cons n ns ih=>
   intro vs w;rw[List.map_cons]at w;cases w with
   | cons a b=>
     cases a;exact .cons _ _ (ih _ b)
theorem script_of{l:OpenLaw}{n:Nat}(hn:l.most=some n){P:Params}{h:Heap}{args:List WData}{vals:List Value}
 (hpre:l.row.toRowW.claim.pre args=true) (hwl:WellAll P h vals args) :
 ∃ a vs ns,vals=[Value.ref a]/\args=[WData.list (ns.map WData.int)]/\h.get? a=some { cls:=.type "list",data:=.seq vs.toArray } /\ IntsAre vs ns/\ns.length<=n:=by
 have hsh:WShape.hasAll [] args [.list .int]=true:=(pre_splitW hpre).1;have hc:l.pre.holds [] { args:=args }=true:=(pre_splitW hpre).2;obtain⟨d,r,rfl,h1,h2⟩:=hasAllW_cons hsh;obtain rfl:=hasAllW_nil h2;obtain⟨xs,rfl,h3⟩:=hasW_list h1;obtain⟨ns,rfl⟩:=items_int h3;have hlen:ns.length<=n:=by
  unfold OpenLaw.pre at hc;have h4:(WTm.not (.lt (.lit (.int (n:Int))) (.len (.arg 0)))).holds [] { args:=[.list (ns.map .int)] }=true:=by
   have h4:=(holds_andW hc).1;rw[hn]at h4;exact h4
  have h5:=condW_of h4 (w_not (w_lt w_lit (w_len_list (w_arg rfl))));rw[List.length_map]at h5;refine Nat.le_of_not_lt fun q=>?_;have q':(n:Int) < ((ns.length:Nat):Int):=by omega
  first
   | (rw[decide_eq_true q']at h5;exact absurd h5 (by decide))
   | (simp at h5;omega)
 cases hwl with
 | cons w1 w2=>
   cases w2;cases w1 with
   | list ho hall=>exact⟨_,_,ns,rfl,rfl,ho,ints_of_wellAll ns _ hall,hlen⟩
theorem post_true(l:OpenLaw)(args:List WData):l.row.toRowW.claim.post args (.bool true) args=true:=
 postW_of (r:=l.row.toRowW) (X:=(true == true))
  (show WShape.has [] (.bool true) .bool=true by first | rfl | decide | simp[WShape.has,WShape.arms,WShape.armsAll])
  (show(WTm.eq .res (.lit (.bool true))).value [] { args:=args,res:=some (.bool true),after:=args }=some (.bool (true == true))from w_eq_bool (w_res rfl) w_lit) rfl
theorem attach_call{l:OpenLaw}{n:Nat}{q:Program}{loose:List Str}{XP:(Str->Option Value)->Heap->Prop}{YP:World->Heap->Prop}{d:DefRec}
 (hn:l.most=some n) (hdf:d.params.defaults=[])
 (call:∀(w:World) (s₀ s₁:Shared) (mg mb:Str->Option Value) (fa:Addr) (o:Obj) (pm cd doc:Value) (a:Addr) (vs:List Value) (ns:List Int),
  Ground q loose [] XP w s₀ mg mb s₁.heap->YP w s₁.heap ->
  s₁.heap.get? fa=some o->o.data=.func (docDef d.name d.params d.body d.scope pm cd doc)->s₁.heap.CodeRec cd d.name->mg d.name=some (.ref fa) ->
  s₁.heap.get? a=some { cls:=.type "list",data:=.seq vs.toArray } -> IntsAre vs ns->ns.length<=n->s₁.gens=#[] ->
  codeAny (model l.prog w) callerA (.call (.ref fa) ⟨[.ref a],[]⟩) (fun r s'=>r=.ok (.ret (.bool true))/\OldK s₁.heap s'.heap/\s'.os=s₁.os/\AllBare s'.gens) s₁) :
 WalkO q loose XP YP l.row.toRowW d [] (fun f vs=>PySem.call f vs):=by
 intro w s₀ s₁ mg mb G Y fa o pm cd doc dV kV ho hd hcd hD hmg hg args vals as hpre hlay hrd hwl hlo;obtain rfl:dV=.none:=Dflts.none hD hdf;obtain rfl:kV=.none:=Dflts.noKw hD;obtain⟨a,vs,ns,rfl,rfl,hobj,hints,hlen⟩:=script_of hn hpre hwl;refine enter_call (codeAny_mono (call w s₀ s₁ mg mb fa o pm cd doc a vs ns G Y ho (fd_plain hd) hcd hmg hobj hints hlen hg) fun r s' hq=>?_);obtain⟨rfl,h2,h3,h4⟩:=hq;exact⟨.inl ⟨.bool true,.bool true,[],rfl,fun _=>rfl,.bool true,post_true l _,fun _=>⟨List.Pairwise.nil,fun _ hm=>(nomatch hm)⟩⟩,h2,h3,h4⟩
section
variable{prog:Program}{w:World}{A:Around}{E:Value->Shared->Prop}{s:Shared}{K:Frag}
end
end Att
namespace L2
open PySem PySem.Spec PyProof.Rows
end L2
namespace L2
open PySem PySem.Spec PyProof.Rows
end L2
/- THE LAST THEOREM (shape;LID,My.* are yours):
   My.Adr: a structure of the addresses that your layer names (classes,functions);My.Txt K t: a structure (Prop) of the equations over K;
   My.txt_mk:{K}{implicit addresses ..} (e1:nsIn K mainGlobals "law"=some (some (.ref f))) (e2:K.lookup f=some ⟨oc,od,.func (fnOf "law" "law" params body scope dV kV doc pm an cdv ct),sl⟩) (e3:codeIn K cdv "law"=true) ..:∃ t,My.Txt K t
set_option maxRecDepth 100000 in
set_option maxHeartbeats 0 in
theorem PySem.Challenge.cw_LID_holds : PySem.Challenge.rw_LID.Holds := by
 w_on;o_law;k_head;(case hw=>w_witness2)
 k_fill
 refine L2.walk_of (l:=PySem.Challenge.rw_LID) (n:=63) (k:=40) (x:="script") (CX:=fun w=>..) (sp:=fun _=>My.sp_law) rfl (by decide) rfl ⟨rfl,by decide,by decide⟩ (fun w h Y=>W.kIn_of Y) ?F ?S ?C
 case F=>
  intro w mg fa h KX G hmg;have T:∃ t,My.Txt (L2.KOf KX) t:=by
   dsimp only[L2.KOf]                          -- K must stand as «<heap const> w.params» for k_is
   refine' My.txt_mk ?e1 ?e2 ?e3 ..
   (case e1=>W.k_is)                    -- in the order: a name->its address->its object->its parts
   (case e2=>W.k_is)
   ..
  obtain⟨t,T⟩:=T;have e0:=hmg.symm.trans (W.mg_of KX G T.law);cases e0                                       -- fa is the law's own address;exact⟨_,fun s u=>.of_eq rfl,fun base kb nb=>My.law_fn T kb nb⟩     -- if «.of_eq rfl» comes too early: refine' ⟨_,?b,fun base kb nb=>My.law_fn T kb nb⟩;exact fun s u=>.of_eq rfl
 case S=>exact fun w H a ns hl hO hS=>..
 case C=>exact ..
(the tactic k_is has no namespace: write k_is) -/
namespace L2
open PySem PySem.Spec PyProof.Rows
noncomputable def inClass(s:Stmt)(j:Nat):Stmt:=match s with
 | .ClassDef _ _ _ body _ _ _ _ _ _ _=>body.getD j (.Pass ⟨0,0,0,0⟩)
 | _=>.Pass ⟨0,0,0,0⟩
noncomputable def defArgs(s:Stmt):Arguments:=match s with
 | .FunctionDef _ a _ _ _ _ _ _ _ _=>a
 | _=>{ posonlyargs:=[],args:=[],vararg:=none,kwonlyargs:=[],kw_defaults:=[],kwarg:=none,defaults:=[] }
noncomputable def defBody(s:Stmt):List Stmt:=match s with
 | .FunctionDef _ _ b _ _ _ _ _ _ _=>b
 | _=>[]
noncomputable def defScope(s:Stmt):Scope:=match s with
 | .FunctionDef _ _ _ _ _ _ sc _ _ _=>sc
 | _=>{ kind:=.function,names:=[],isGenerator:=false,isCoroutine:=false }
noncomputable abbrev CX0:CXT:=fun _ _ _ _ _ _=>False
noncomputable abbrev E0:XK:=fun _ _ _=>False
theorem pass0{X:Cx}:Passes CX0 X E0:=fun _ _ _ _ _ _ _ h=>h.elim
structure Fun(K:W.Frag)(x qual:Str)(st:Stmt)(f:Addr)(fd:FuncData):Prop where
 ex:∃(oc:Value) (od:Option Addr) (kV doc pm:Value) (an:Option Addr) (cdv ct:Value) (osl:Array (Option Value)),
  fd=W.fnOf x qual (defArgs st) (defBody st) (defScope st) .none kV doc pm an cdv ct/\K.lookup f=some ⟨oc,od,.func fd,osl⟩/\W.codeIn K cdv qual=true
 kp:W.keepIn K (.ref f)=true
section
variable{P:Program}{w:World}{K:W.Frag}{mg:Str->Option Value}{base:Heap}
theorem Fun.ok{x qual:Str}{st:Stmt}{f:Addr}{fd:FuncData}{N ps:List Str}{k:Nat}{sp:Sp}(F:Fun K x qual st f fd)(S:FnScope N ps (defScope st))(len:∀ vs H Q E,sp vs H Q E->vs.length=ps.length)
 (hbody:∀(cdv:Value) (A:Around) (outer:List Env) (s:Shared) (H:Hp) (vs:List V) (Q:VK) (E:XK),Room k (A.deeper (envOfC qual (defScope st) s.heap.objs.size f cdv))->sp vs H Q E ->
  ∃ t,PSs (cxOf CX0 P w K mg base N qual (defScope st) f cdv A outer s H E).nox (defBody st) t/\t { nx:=fun _ H'=>Q .non H',rt:=Q } (start N vs) H):FnOk P w K mg base CX0 (k+1) f fd ps sp:=by
 obtain⟨oc,od,kV,doc,pm,an,cdv,ct,osl,rfl,lk,hcd⟩:=F.ex;refine fn_of lk hcd S len fun A outer s H vs Q E hr hsp=>?_;obtain⟨t,h,q⟩:=hbody cdv A outer s H vs Q E hr hsp;exact⟨t,h.nox,q⟩
theorem Fun.binds{x qual:Str}{st:Stmt}{f:Addr}{fd:FuncData}{ps:List Str}(F:Fun K x qual st f fd)
 (h:∀(kV doc pm:Value) (an:Option Addr) (cdv ct:Value) (us:List Value),us.length=ps.length->bindArgs (W.fnOf x qual (defArgs st) (defBody st) (defScope st) .none kV doc pm an cdv ct) ⟨us,[]⟩=pure (ps.zip us)):Binds K fd ps []:=by
 obtain⟨oc,od,kV,doc,pm,an,cdv,ct,osl,rfl,lk,hcd⟩:=F.ex;exact .all (h kV doc pm an cdv ct)
theorem fun_mk{x qual:Str}{st:Stmt}{f:Addr}{oc:Value}{od an:Option Addr}{osl:Array (Option Value)}{kV doc pm cdv ct:Value}(l:K.lookup f=some ⟨oc,od,.func (W.fnOf x qual (defArgs st) (defBody st) (defScope st) .none kV doc pm an cdv ct),osl⟩)
 (c:W.codeIn K cdv qual=true) (k:W.keepIn K (.ref f)=true):Fun K x qual st f (W.fnOf x qual (defArgs st) (defBody st) (defScope st) .none kV doc pm an cdv ct):=⟨⟨oc,od,kV,doc,pm,an,cdv,ct,osl,rfl,l,c⟩,k⟩
end
theorem hu_of{A:Around}{k:Nat}(hr:Room k A):A.units+1 < cLine:=Nat.lt_of_le_of_lt (Nat.add_le_add_left (by decide:1<=64) _) hr.units
section
variable{X:Cx}
end
theorem iteF{A B:Prop}(h:B):if false=true then A else B:=by
 rw[if_neg Bool.false_ne_true];exact h
theorem iteT{A B:Prop}(h:A):if true=true then A else B:=by
 rw[if_pos rfl];exact h
theorem ite2{c A B:Prop}[Decidable c](h1:c->A)(h2:¬ c->B):if c then A else B:=by
 by_cases h:c
 · rw[if_pos h]
   exact h1 h
 rw[if_neg h];exact h2 h
theorem iteNS{c A B:Prop}[Decidable c](hc:c)(h:B):if(!decide c)=true then A else B:=by
 rw[decide_eq_true hc];exact iteF h
noncomputable def Same(H H':Hp):Prop:=∀ b o,H b=some o->H' b=some o
theorem Same.refl(H:Hp):Same H H:=fun _ _ h=>h
theorem Same.trans{H H1 H2:Hp}(a:Same H H1)(b:Same H1 H2):Same H H2:=fun c o h=>b c o (a c o h)
theorem Same.free{H H':Hp}(e:Same H H'){l:Addr}(h:H' l=Option.none):H l=Option.none:=by
 cases q:H l with
 | none=>rfl
 | some o=>
   rw[e l o q]at h;cases h
theorem Same.seq{K:W.Frag}{H H':Hp}{a:Addr}{xs:List V}(e:Same H H')(h:SqL K H a xs):SqL K H' a xs:=by
 rcases h with (h | ⟨o,h⟩) | h
 · exact .inl (.inl (e _ _ h))
 · exact .inl (.inr ⟨o,e _ _ h⟩)
 exact .inr h
section
variable{κ:Type}[DecidableEq κ]
theorem nd_snoc:∀{l:List κ}{k:κ},l.Nodup -> ¬ k∈l->(l++[k]).Nodup
 | [],k,_,_=>by simp
 | a::r,k,h,hk=>by
   obtain⟨h1,h2⟩:=List.nodup_cons.mp h;show(a::(r++[k])).Nodup;refine List.nodup_cons.mpr ⟨fun m=>?_,nd_snoc h2 fun m=>hk (List.mem_cons.mpr (Or.inr m))⟩;rcases List.mem_append.mp m with q | q
   · exact h1 q
   exact hk (List.mem_cons.mpr (Or.inl (List.mem_singleton.mp q).symm))
end
end L2
namespace SW
open PySem PySem.Spec PyProof.Rows L2
theorem b_int:bootBuiltins "int"=some (.type "int"):=by decide +kernel
theorem b_bool:bootBuiltins "bool"=some (.type "bool"):=by decide +kernel
theorem b_tuple:bootBuiltins "tuple"=some (.type "tuple"):=by decide +kernel
theorem b_isinstance:bootBuiltins "isinstance"=some (.builtin "isinstance"):=by decide +kernel
theorem b_len:bootBuiltins "len"=some (.builtin "len"):=by decide +kernel
structure Bx(p:Prop):Prop where
 out:p
structure Fn(P:Program)(w:World)(K:W.Frag)(mg:Str->Option Value)(base:Heap)(x:Str)(k:Nat)(ps:List Str)(sp:Sp):Prop where
 ex:∃(f:Addr) (fd:FuncData),FnOk P w K mg base CX0 k f fd ps sp/\mg x=some (.ref f)/\W.keepIn K (.ref f)=true/\Binds K fd ps []
structure Dfn(K:W.Frag)(mg:Str->Option Value)(x:Str)(st:Stmt)(ps:List Str):Prop where
 ex:∃(f:Addr) (fd:FuncData),Fun K x x st f fd/\mg x=some (.ref f)/\Binds K fd ps []
theorem Dfn.fn{P:Program}{w:World}{K:W.Frag}{mg:Str->Option Value}{base:Heap}{x:Str}{st:Stmt}{N ps:List Str}{k:Nat}{sp:Sp}(d:Dfn K mg x st ps)(S:FnScope N ps (defScope st))(len:∀ vs H Q E,sp vs H Q E->vs.length=ps.length)
 (hbody:∀(f:Addr) (cdv:Value) (A:Around) (outer:List Env) (s:Shared) (H:Hp) (vs:List V) (Q:VK) (E:XK),Room k (A.deeper (envOfC x (defScope st) s.heap.objs.size f cdv))->sp vs H Q E ->
  ∃ t,Bx (PSs (cxOf CX0 P w K mg base N x (defScope st) f cdv A outer s H E).nox (defBody st) t)/\t { nx:=fun _ H'=>Q .non H',rt:=Q } (start N vs) H):Fn P w K mg base x (k+1) ps sp:=by
 obtain⟨f,fd,F,hm,hb⟩:=d.ex;exact⟨f,fd,F.ok S len (fun cdv A outer s H vs Q E hr h=>let⟨t,h1,h2⟩:=hbody f cdv A outer s H vs Q E hr h;⟨t,h1.out,h2⟩),hm,F.kp,hb⟩
theorem fun_bx{P:Program}{w:World}{K:W.Frag}{mg:Str->Option Value}{base:Heap}{x qual:Str}{st:Stmt}{f:Addr}{fd:FuncData}{N ps:List Str}{k:Nat}{sp:Sp}(F:Fun K x qual st f fd)(S:FnScope N ps (defScope st))(len:∀ vs H Q E,sp vs H Q E->vs.length=ps.length)
 (hbody:∀(cdv:Value) (A:Around) (outer:List Env) (s:Shared) (H:Hp) (vs:List V) (Q:VK) (E:XK),Room k (A.deeper (envOfC qual (defScope st) s.heap.objs.size f cdv))->sp vs H Q E ->
  ∃ t,Bx (PSs (cxOf CX0 P w K mg base N qual (defScope st) f cdv A outer s H E).nox (defBody st) t)/\t { nx:=fun _ H'=>Q .non H',rt:=Q } (start N vs) H):FnOk P w K mg base CX0 (k+1) f fd ps sp:=
 F.ok S len (fun cdv A outer s H vs Q E hr h=>let⟨t,h1,h2⟩:=hbody cdv A outer s H vs Q E hr h;⟨t,h1.out,h2⟩)
noncomputable def plainE:Expr->Bool
 | .Starred _ _=>false
 | _=>true
theorem star_of{e:Expr}{es:List Expr}{env:Env}(h:plainE e=true):starEach (e::es) env=(false,eval e env)::starEach es env:=by
 cases e <;> first | rfl | exact absurd h Bool.false_ne_true
theorem star_any{pos:Pos}{env:Env}:∀{es:List Expr},es.all plainE=true->(backTo pos (starEach es env)).any (·.1)=false
 | [],_=>rfl
 | e::es,h=>by
   rw[List.all_cons,Bool.and_eq_true]at h;rw[star_of h.1];show(false || (backTo pos (starEach es env)).any (·.1))=false;rw[star_any h.2]
   rfl
theorem star_all{pos:Pos}{env:Env}:∀{es:List Expr},es.all plainE=true->(backTo pos (starEach es env)).all (fun x=>!x.1)=true
 | [],_=>rfl
 | e::es,h=>by
   rw[List.all_cons,Bool.and_eq_true]at h;rw[star_of h.1];show(true && (backTo pos (starEach es env)).all (fun x=>!x.1))=true;rw[star_all h.2]
   rfl
section
variable{X:Cx}{x:Str}{p pos:Pos}{e:Expr}{es:List Expr}{t:TA}{te:TE}{k:Nat}{ps:List Str}{sp:Sp}
theorem pac(ha:PE X e te)(hr:PA X es t)(h:plainE e=true:=by rfl):PA X (e::es) (tCons te t):=pa_cons ha hr (star_of h)
theorem pe_fn(F:Fn X.prog X.w X.K X.mg X.base x k ps sp)(hr:Room k X.A)(ha:PA X (e::es) t)(hg:Gl X x:=by rfl)(hdb:(x == ("__debug__":Str))=false:=by decide)(h1:plainE e=true:=by rfl)(h2:es.all plainE=true:=by rfl) :
 PE X (.Call (.Name x p) (e::es) [] pos) (tCall sp [] E0 t):=by
 obtain⟨f,fd,G,hm,kp,b⟩:=F.ex;exact pe_call G hr hg hm kp b .nil pass0 ha hdb (star_of h1) (star_any h2)
theorem pe_cB{id:String}{r:List V->Hp->VK->Prop}(hc:CallR X (.builtin id) r)(hm:X.mg x=none)(hv:bootBuiltins x=some (.builtin id))(ha:PA X (e::es) t)(hg:Gl X x:=by rfl)(hn:x ≠ "__name__":=by decide)(hdb:(x == ("__debug__":Str))=false:=by decide)
 (h1:plainE e=true:=by rfl) (h2:es.all plainE=true:=by rfl):PE X (.Call (.Name x p) (e::es) [] pos) (tCB r t):=pe_callB hc hg hm hv ha hn hdb (star_of h1) (star_any h2)
theorem pe_cT{T:String}{r:List V->Hp->VK->Prop}(hc:CallR X (.type T) r)(hm:X.mg x=none)(hv:bootBuiltins x=some (.type T))(ha:PA X (e::es) t)(hg:Gl X x:=by rfl)(hn:x ≠ "__name__":=by decide)(hdb:(x == ("__debug__":Str))=false:=by decide)
 (h1:plainE e=true:=by rfl) (h2:es.all plainE=true:=by rfl):PE X (.Call (.Name x p) (e::es) [] pos) (tCB r t):=pe_callTy hc hg hm hv ha hn hdb (star_of h1) (star_any h2)
theorem pe_m{T name id:_}{r:V->List V->Hp->VK->Prop}{o:Expr}{to:TE}{apos cpos:Pos}(pa:PlainAttrs T)(slot:Slot T name id)(hty:typeOf (.builtin id)=pure (.type "method_descriptor"))(hm:MtR X id r)(ho:PE X o to)(ha:PA X (e::es) t)
 (hbase:attributeBase o name X.env (eval o X.env)=eval o X.env:=by rfl) (hl:decide ((e::es).length+([]:List Keyword).length+(if([]:List Keyword).isEmpty then 0 else 1) < 30)=true:=by rfl)
 (hline:(apos.endLine == cpos.line)=true:=by rfl) (h1:plainE e=true:=by rfl) (h2:es.all plainE=true:=by rfl) :
 PE X (.Call (.Attribute o name apos) (e::es) [] cpos) (tBM X.K T r to t):=by
 refine pe_bm pa slot hty hm ho ha hbase ?_ hline (star_of h1) (star_any h2);have hA:(e::es).all plainE=true:=by rw[List.all_cons,h1,h2];rfl
 rw[star_all hA,hl]
 rfl
theorem pi_r1{tg a:Expr}{ta:TA}(hm:X.mg "range"=none)(ha:PA X [a] ta)(hg:Gl X "range":=by rfl)(h1:plainE a=true:=by rfl):PI X tg (.Call (.Name "range" p) [a] [] pos) (iRng1 ta):=
 pi_range1 hg hm ha (star_of h1)
theorem pe_gint{i:Int}(h:∃ t,X.mg x=some (.int i t))(hg:Gl X x:=by rfl)(hd:(x == ("__debug__":Str))=false:=by decide):PE X (.Name x pos) (tC (.int i)):=by
 obtain⟨t,h⟩:=h;exact pe_glob hg h ⟨t,rfl⟩ hd
theorem pe_ty{n:String}(hm:X.mg x=none)(hv:bootBuiltins x=some (.type n))(hg:Gl X x:=by rfl)(hn:x ≠ "__name__":=by decide)(hd:(x == ("__debug__":Str))=false:=by decide):PE X (.Name x pos) (tC (.ty n)):=
 pe_bltn hg hm hv (show Value.type n=Value.type n from rfl) hn hd
end
namespace B
section
variable{X:Cx}{x f:Str}{p pos:Pos}{e a b c o:Expr}{es:List Expr}{t:TA}{te ta tb tc to ti:TE}{k:Nat}{ps:List Str}{sp:Sp}{tg:Expr}
theorem int{i j pos}:Bx (PE X (.Constant (.int i) j pos) (tC (.int i))):=⟨pe_int⟩
theorem bl{b j pos}:Bx (PE X (.Constant (.bool b) j pos) (tC (.bl b))):=⟨pe_bl⟩
theorem non{j pos}:Bx (PE X (.Constant .none j pos) (tC .non)):=⟨pe_non⟩
theorem v(i:Nat){x:Str}{pos:Pos}(hN:X.N[i]?=some x:=by rfl)(hv:Vis X.env.scope x:=by first | exact Or.inl rfl | exact Or.inr (Or.inl rfl) | exact Or.inr (Or.inr rfl))(hd:(x == ("__debug__":Str))=false:=by decide)
 (hcd:(x == ("__classdict__":Str))=false:=by decide):Bx (PE X (.Name x pos) (tVar i)):=⟨pe_var hN hv hd hcd⟩
theorem gint{i:Int}(h:∃ t,X.mg x=some (.int i t))(hg:Gl X x:=by rfl)(hd:(x == ("__debug__":Str))=false:=by decide):Bx (PE X (.Name x pos) (tC (.int i))):=⟨pe_gint h hg hd⟩
theorem ty{n:String}(hm:X.mg x=none)(hv:bootBuiltins x=some (.type n))(hg:Gl X x:=by rfl)(hn:x ≠ "__name__":=by decide)(hd:(x == ("__debug__":Str))=false:=by decide):Bx (PE X (.Name x pos) (tC (.ty n))):=⟨pe_ty hm hv hg hn hd⟩
theorem op{op:Operator}{r:R2}(ho:OpR X (binaryOp op) r)(ha:Bx (PE X a ta))(hb:Bx (PE X b tb)):Bx (PE X (.BinOp a op b pos) (tOp r ta tb)):=⟨pe_op ho ha.out hb.out⟩
theorem un{op:UnaryOp}{r:V->Hp->VK->Prop}(ho:UnR X (unaryOp op) r)(ha:Bx (PE X a ta)):Bx (PE X (.UnaryOp op a pos) (tUn r ta)):=⟨pe_un ho ha.out⟩
theorem not(ha:Bx (PE X a ta)):Bx (PE X (.UnaryOp .Not a pos) (tNotV ta)):=⟨pe_not ha.out⟩
theorem cmp{op:CmpOp}{r:R2}(ho:OpR X (compareOp op) r)(ha:Bx (PE X a ta))(hb:Bx (PE X b tb))(hm:behindInMarks op b=false:=by exact nomark _):Bx (PE X (.Compare a [op] [b] pos) (tOp r ta tb)):=⟨pe_cmpR ho ha.out hb.out hm⟩
theorem one{op}(h:Bx (PE X a ta)):Bx (PE X (.BoolOp op [a] pos) ta):=⟨pe_one h.out⟩
theorem and{rest:List Expr}(ha:Bx (PE X a ta))(hb:Bx (PE X (.BoolOp .And (b::rest) pos) tb)):Bx (PE X (.BoolOp .And (a::b::rest) pos) (tAndV ta tb)):=⟨pe_and ha.out hb.out⟩
theorem ifx{tA:TT}(hc:Bx (PT X c tA))(ha:Bx (PE X a ta))(hb:Bx (PE X b tb)):Bx (PE X (.IfExp c a b pos) (tIf tA ta tb)):=⟨pe_ifExp hc.out ha.out hb.out⟩
theorem nil:Bx (PA X [] tNil):=⟨pa_nil⟩
theorem cons(ha:Bx (PE X e te))(hr:Bx (PA X es t))(h:plainE e=true:=by rfl):Bx (PA X (e::es) (tCons te t)):=⟨pac ha.out hr.out h⟩
theorem lst(h:Bx (PA X es t)):Bx (PE X (.List es pos) (tLst t)):=⟨pe_lst h.out⟩
theorem tup{x1}(h:Bx (PA X es t)):Bx (PE X (.Tuple es x1 pos) (tTup t)):=⟨pe_tup h.out⟩
theorem ix{r:R2}(hr:IxR X r)(ha:Bx (PE X a ta))(hb:Bx (PE X b tb))(hs:PlainIx b:=by exact fun _ _=>rfl):Bx (PE X (.Subscript a b pos) (tOp r ta tb)):=⟨pe_ix hr ha.out hb.out hs⟩
theorem nopart:Bx (PO X none tNoPart):=⟨po_none⟩
theorem part(h:Bx (PE X e te)):Bx (PO X (some e) (tPart te)):=⟨po_some h.out⟩
theorem slice{lo hi:Option Expr}{tl th:TO}{p2:Pos}{r:V->Option Int->Option Int->Hp->VK->Prop}(hr:SlR X r)(he:Bx (PE X e te))(hl:Bx (PO X lo tl))(hu:Bx (PO X hi th)):Bx (PE X (.Subscript e (.Slice lo hi none p2) pos) (tSl r te tl th)):=⟨pe_slice hr he.out hl.out hu.out⟩
theorem fn(F:Fn X.prog X.w X.K X.mg X.base x k ps sp)(hr:Room k X.A)(ha:Bx (PA X (e::es) t))(hg:Gl X x:=by rfl)(hdb:(x == ("__debug__":Str))=false:=by decide)(h1:plainE e=true:=by rfl)(h2:es.all plainE=true:=by rfl) :
 Bx (PE X (.Call (.Name x p) (e::es) [] pos) (tCall sp [] E0 t)):=⟨pe_fn F hr ha.out hg hdb h1 h2⟩
theorem cB{id:String}{r:List V->Hp->VK->Prop}(hc:CallR X (.builtin id) r)(hm:X.mg x=none)(hv:bootBuiltins x=some (.builtin id))(ha:Bx (PA X (e::es) t))(hg:Gl X x:=by rfl)(hn:x ≠ "__name__":=by decide)(hdb:(x == ("__debug__":Str))=false:=by decide)
 (h1:plainE e=true:=by rfl) (h2:es.all plainE=true:=by rfl):Bx (PE X (.Call (.Name x p) (e::es) [] pos) (tCB r t)):=⟨pe_cB hc hm hv ha.out hg hn hdb h1 h2⟩
theorem cT{T:String}{r:List V->Hp->VK->Prop}(hc:CallR X (.type T) r)(hm:X.mg x=none)(hv:bootBuiltins x=some (.type T))(ha:Bx (PA X (e::es) t))(hg:Gl X x:=by rfl)(hn:x ≠ "__name__":=by decide)(hdb:(x == ("__debug__":Str))=false:=by decide)
 (h1:plainE e=true:=by rfl) (h2:es.all plainE=true:=by rfl):Bx (PE X (.Call (.Name x p) (e::es) [] pos) (tCB r t)):=⟨pe_cT hc hm hv ha.out hg hn hdb h1 h2⟩
theorem m{T name id:_}{r:V->List V->Hp->VK->Prop}{apos cpos:Pos}(pa:PlainAttrs T)(slot:Slot T name id)(hty:typeOf (.builtin id)=pure (.type "method_descriptor"))(hm:MtR X id r)(ho:Bx (PE X o to))(ha:Bx (PA X (e::es) t))
 (hbase:attributeBase o name X.env (eval o X.env)=eval o X.env:=by rfl) (hl:decide ((e::es).length+([]:List Keyword).length+(if([]:List Keyword).isEmpty then 0 else 1) < 30)=true:=by rfl)
 (hline:(apos.endLine == cpos.line)=true:=by rfl) (h1:plainE e=true:=by rfl) (h2:es.all plainE=true:=by rfl) :
 Bx (PE X (.Call (.Attribute o name apos) (e::es) [] cpos) (tBM X.K T r to t)):=⟨pe_m pa slot hty hm ho.out ha.out hbase hl hline h1 h2⟩
theorem tcmp{op:CmpOp}{r:R2}(ho:OpR X (compareOp op) r)(ha:Bx (PE X a ta))(hb:Bx (PE X b tb))(hm:behindInMarks op b=false:=by exact nomark _):Bx (PT X (.Compare a [op] [b] pos) (tTest (tOp r ta tb))):=⟨pt_cmpR ho ha.out hb.out hm⟩
theorem tchain{op op':CmpOp}{r r':R2}(ho:OpR X (compareOp op) r)(ho':OpR X (compareOp op') r')(ha:Bx (PE X a ta))(hb:Bx (PE X b tb))(hc:Bx (PE X c tc))(hm:lastMarks [op,op'] [b,c]=false:=by with_unfolding_all rfl) :
 Bx (PT X (.Compare a [op,op'] [b,c] pos) (tTest (tChain r r' ta tb tc))):=⟨pt_chain ho ho' ha.out hb.out hc.out hm⟩
theorem tval(h:Bx (PE X e te))(he:∀ whole,isTrue e X.env whole=(do let v ← whole;standAt e.pos;holding [v] (truthy v)):=by intro _;rfl):Bx (PT X e (tB te)):=⟨pt_val h.out he⟩
theorem tnot{tA:TT}(ha:Bx (PT X a tA)):Bx (PT X (.UnaryOp .Not a pos) (tNot tA)):=⟨pt_not ha.out⟩
theorem wand1{tA:TT}(ha:Bx (PT X a tA)):Bx (PW X (.BoolOp .And [a] pos) tA):=⟨pw_and1 ha.out⟩
theorem wor1{tA:TT}(ha:Bx (PT X a tA)):Bx (PW X (.BoolOp .Or [a] pos) tA):=⟨pw_or1 ha.out⟩
theorem wand{tA tB':TT}{rest:List Expr}(ha:Bx (PT X a tA))(hb:Bx (PW X (.BoolOp .And (b::rest) pos) tB')):Bx (PW X (.BoolOp .And (a::b::rest) pos) (tAnd tA tB')):=⟨pw_and ha.out hb.out⟩
theorem wor{tA tB':TT}{rest:List Expr}(ha:Bx (PT X a tA))(hb:Bx (PW X (.BoolOp .Or (b::rest) pos) tB')):Bx (PW X (.BoolOp .Or (a::b::rest) pos) (tOr tA tB')):=⟨pw_or ha.out hb.out⟩
theorem tw{tA:TT}(h:Bx (PW X e tA)):Bx (PT X e tA):=⟨h.out.pt⟩
theorem gname{i:Nat}(hN:X.N.Nodup)(hi:X.N[i]?=some x:=by rfl)(hx:Loc X.env.scope x:=by first | exact Or.inl rfl | exact Or.inr rfl)(hf:X.fn x=true∨X.env.scope.names.lookup x=some .local:=by first | exact .inl rfl | exact .inr rfl):Bx (PG X (.Name x pos) (gName i)):=⟨pg_name hN hi hx hf⟩
theorem gnil:Bx (PGs X [] gNil):=⟨pgs_nil⟩
theorem gcons{g:TG}{u:TGs}(h1:Bx (PG X e g))(h2:Bx (PGs X es u))(hs:(assignEach (e::es) X.env).map (·.2)=assign e X.env::(assignEach es X.env).map (·.2):=by rfl):Bx (PGs X (e::es) (gCons g u)):=⟨pgs_cons h1.out h2.out hs⟩
theorem gtup{kk n:Nat}{u:TGs}(h:Bx (PGs X es u))(hc:X.calm=true:=by rfl)(hn:(assignEach es X.env).length=n:=by rfl)(hst:(assignEach es X.env).findIdx? (·.1)=none:=by rfl):Bx (PG X (.Tuple es kk pos) (gTup X.K n u)):=⟨pg_tup hc h.out hn hst⟩
theorem gsub{s:TSet}{i:Expr}(ho:Bx (PE X o to))(hi:Bx (PE X i ti))(hs:PSet X s)
 (ha:∀ v,assign (.Subscript o i pos) X.env v=(do
  let ov ← holding [v] (eval o X.env)
  let iv ← holding [v,ov] (eval i X.env)
  standAt pos
  holding [v,ov,iv] (setItem ov iv v)
  release [v,ov,iv] []):=by intro _;rfl):Bx (PG X (.Subscript o i pos) (gSub to ti s)):=⟨pg_sub ho.out hi.out hs ha⟩
theorem asg{g:TG}(he:Bx (PE X e te))(hg:Bx (PG X tg g))(hs:swapsWithSole [tg] e pos.line X.env=pure false:=by rfl)(hw:swappedStores [tg] e X.env=pure none:=by rfl)
 (h1:(assignEach [tg] X.env).map (·.2)=[assign tg X.env]:=by rfl):Bx (PS X (.Assign [tg] e pos) (tAsg te g)):=⟨ps_asg he.out hg.out hs hw h1⟩
theorem set(i:Nat){pos':Pos}(hN:X.N.Nodup)(he:Bx (PE X e te))(hi:X.N[i]?=some x:=by rfl)(hx:Loc X.env.scope x:=by first | exact Or.inl rfl | exact Or.inr rfl)(hs:swapsWith e (some (.Name x pos')) pos.line X.env=pure false:=by rfl)
 (hf:X.fn x=true∨X.env.scope.names.lookup x=some .local:=by first | exact .inl rfl | exact .inr rfl):Bx (PS X (.Assign [.Name x pos'] e pos) (tAsg te (gName i))):=⟨ps_set hN hi hx he.out hs hf⟩
theorem expr(he:Bx (PE X e te))(hs:swapsWith e none pos.line X.env=pure false:=by rfl):Bx (PS X (.Expr e pos) (tDrop te)):=⟨ps_expr he.out hs⟩
theorem ret(he:Bx (PE X e te)):Bx (PS X (.Return (some e) pos) (tRet te)):=⟨ps_ret he.out⟩
theorem ifs{tcc:TT}{l r:List Stmt}{u w:TS}(hc:Bx (PT X c tcc))(ha:Bx (PSs X l u))(hb:Bx (PSs X r w)):Bx (PS X (.If c l r pos) (tIfS tcc u w)):=⟨ps_if hc.out ha.out hb.out⟩
theorem ilist{l:Expr}{tl:TE}(hl:Bx (PE X l tl)):Bx (PI X tg l (iList X.K tl)):=⟨pi_list hl.out⟩
theorem itup{l:Expr}{tl:TE}(hl:Bx (PE X l tl)):Bx (PI X tg l (iTup X.K tl)):=⟨pi_tup hl.out⟩
theorem irange{t:TA}(hm:X.mg "range"=none)(ha:Bx (PA X [a] t))(hg:Gl X "range":=by rfl)(h1:plainE a=true:=by rfl):Bx (PI X tg (.Call (.Name "range" p) [a] [] pos) (iRng1 t)):=⟨pi_r1 hm ha.out hg h1⟩
theorem fors{iter:Expr}{l:List Stmt}{wi:TI}{g:TG}{u:TS}(hi:Bx (PI X tg iter wi))(hg:Bx (PG X tg g))(hb:Bx (PSs X l u))(hp:PassesOwn (model X.prog X.w) X.A X.env X.xe:=by exact PassesOwn.never)(hc:X.calm=true:=by rfl)
 (hs:∀ x,foldedSetIterable iter X.env x=pure x:=by intro _;rfl):Bx (PS X (.For tg iter l [] pos) (tFor wi g u)):=⟨ps_for hp hc hi.out hg.out hb.out hs⟩
theorem snil:Bx (PSs X [] tNext):=⟨pss_nil⟩
theorem scons{st:Stmt}{rest:List Stmt}{u w:TS}(h1:Bx (PS X st u))(h2:Bx (PSs X rest w)):Bx (PSs X (st::rest) (tSeq u w)):=⟨pss_cons h1.out h2.out⟩
theorem sone{st:Stmt}{u:TS}(h1:Bx (PS X st u)):Bx (PSs X [st] u):=⟨pss_one h1.out⟩
end
end B
noncomputable def CDivL(_ j:Int):Prop:=0 < j/\j < 18446744073709551616
theorem op_fdivL{X:Cx}:OpR X (binaryOp .FloorDiv) (rI CDivL fun i j=>.int (i / j)):=opI fun i j _ _ _ _ _ hc q=>by
 have h1:(0:Int) < j:=hc.1;have h2:j < 18446744073709551616:=hc.2;have h3:j.natAbs.log2 < 64:=(Nat.log2_lt (by omega)).mpr (by omega)
 exact floordiv_int (by omega) (by rw[Int.fdiv_eq_ediv_of_nonneg i (by omega)];exact q) (.inl (PyProof.noPylong_of_log2 (by omega)))
section
variable{D:Ends}{σ:L2.St}{H:Hp}{Q:VK}{v:V}{K:W.Frag}
theorem wAsg{te:TE}{g:TG}(h:te σ H fun x H1=>g x σ H1 D.nx):tAsg te g D σ H:=h
theorem wName{i:Nat}{Q:L2.St->Hp->Prop}(h:Q (σ.set i (some v)) H):gName i v σ H Q:=h
theorem wSub{to ti:TE}{t:TSet}{Q:L2.St->Hp->Prop}(h:to σ H fun o H1=>ti σ H1 fun i H2=>t o i v H2 fun H3=>Q σ H3):gSub to ti t v σ H Q:=h
theorem wSetL{p:Addr}{xs:List V}{i:Int}{j:Nat}{Q:Hp->Prop}(e:H p=some (.lst xs))(hj:ixN xs.length i=some j)(h:Q (upd H p (.lst (xs.set j v)))):rSetL (.ref p) (.int i) v H Q:=⟨p,xs,i,j,rfl,rfl,e,hj,h⟩
theorem wDrop{te:TE}(h:te σ H fun _ H1=>D.nx σ H1):tDrop te D σ H:=h
theorem wRet{te:TE}(h:te σ H D.rt):tRet te D σ H:=h
theorem wNext(h:D.nx σ H):tNext D σ H:=h
theorem wIfS{c:TT}{t u:TS}(h:c σ H fun b H1=>if b=true then t D σ H1 else u D σ H1):tIfS c t u D σ H:=h
theorem wVar{i:Nat}(e:σ[i]?=some (some v))(h:Q v H):tVar i σ H Q:=⟨v,e,h⟩
theorem wC(h:Q v H):tC v σ H Q:=h
theorem wOp{r:R2}{ta tb:TE}(h:ta σ H fun x H1=>tb σ H1 fun y H2=>r x y H2 Q):tOp r ta tb σ H Q:=h
theorem wUn{r:V->Hp->VK->Prop}{ta:TE}(h:ta σ H fun x H1=>r x H1 Q):tUn r ta σ H Q:=h
theorem wU{g:Int->V}{i:Int}(h:Q (g i) H):rU g (.int i) H Q:=⟨i,rfl,h⟩
theorem wI0{g:Int->Int->V}{i j:Int}(h:Q (g i j) H):rI0 g (.int i) (.int j) H Q:=⟨i,j,rfl,rfl,h⟩
theorem wMod{g:Int->Int->V}{i j:Int}(c:0 < j)(h:Q (g i j) H):rI (fun _ j=>0 < j) g (.int i) (.int j) H Q:=⟨i,j,rfl,rfl,c,h⟩
theorem wShr{g:Int->Int->V}{i j:Int}(c:0<=j)(h:Q (g i j) H):rI (fun _ j=>0<=j) g (.int i) (.int j) H Q:=⟨i,j,rfl,rfl,c,h⟩
theorem wDivL{g:Int->Int->V}{i j:Int}(c:0 < j/\j < 18446744073709551616)(h:Q (g i j) H):rI CDivL g (.int i) (.int j) H Q:=⟨i,j,rfl,rfl,c,h⟩
theorem wMul{g:Int->Int->V}{i j:Int}(c:(-18446744073709551616 < i/\i < 18446744073709551616)∨(-18446744073709551616 < j/\j < 18446744073709551616))(h:Q (g i j) H):rI CMul g (.int i) (.int j) H Q:=⟨i,j,rfl,rfl,c,h⟩
theorem wPow{g:Int->Int->V}{i j:Int}(c:0<=j/\j<=1000000/\i.natAbs < 2 ^ 64)(h:Q (g i j) H):rI CPow g (.int i) (.int j) H Q:=⟨i,j,rfl,rfl,c,h⟩
theorem wEqI{i j:Int}(h:Q (.bl (decide (V.int i=V.int j))) H):rEq (.int i) (.int j) H Q:=⟨rfl,h⟩
theorem wNeI{i j:Int}(h:Q (.bl (!decide (V.int i=V.int j))) H):rNe (.int i) (.int j) H Q:=⟨rfl,h⟩
theorem wTest{te:TE}{Q:Bool->Hp->Prop}(h:te σ H fun x H'=>∃ k,x=.bl k/\Q k H'):tTest te σ H Q:=h
theorem wB{te:TE}{Q:Bool->Hp->Prop}(h:te σ H fun x H'=>∃ k,x=.bl k/\Q k H'):tB te σ H Q:=h
theorem wBl{b:Bool}{Q:Bool->Prop}(h:Q b):∃ k,V.bl b=.bl k/\Q k:=⟨b,rfl,h⟩
theorem wNot{t:TT}{Q:Bool->Hp->Prop}(h:t σ H fun c H1=>Q (!c) H1):tNot t σ H Q:=h
theorem wNotV{ta:TE}(h:ta σ H fun x H1=>∃ c,x=.bl c/\Q (.bl (!c)) H1):tNotV ta σ H Q:=h
theorem wAndV{ta tb:TE}(h:ta σ H fun x H1=>∃ c,x=.bl c/\if c=true then tb σ H1 Q else Q (.bl false) H1):tAndV ta tb σ H Q:=h
theorem wIxL{p:Addr}{xs:List V}{i:Int}(e:H p=some (.lst xs))(a:atI xs i=some v)(h:Q v H):rIxL K (.ref p) (.int i) H Q:=⟨p,xs,i,v,rfl,rfl,SqL.of e,a,h⟩
theorem wIxT{p:Addr}{xs:List V}{i:Int}(e:H p=some (.tup xs))(a:atI xs i=some v)(h:Q v H):rIxT K (.ref p) (.int i) H Q:=⟨p,xs,i,v,rfl,rfl,SqT.of e,a,h⟩
theorem wNil{Q:List V->Hp->Prop}(h:Q [] H):tNil σ H Q:=h
theorem wCons{ta:TE}{tr:TA}{Q:List V->Hp->Prop}(h:ta σ H fun x H1=>tr σ H1 fun xs H2=>Q (x::xs) H2):tCons ta tr σ H Q:=h
theorem wLst{t:TA}(h:t σ H fun xs H1=>xs.length<=sizeLine /\ ∀ p,H1 p=none->Q (.ref p) (upd H1 p (.lst xs))):tLst t σ H Q:=h
theorem wTup{t:TA}(h:t σ H fun xs H1=>xs.length<=sizeLine /\ ∀ p,H1 p=none->Q (.ref p) (upd H1 p (.tup xs))):tTup t σ H Q:=h
theorem wBM{T:String}{r:V->List V->Hp->VK->Prop}{to:TE}{t:TA}(h:to σ H fun x H1=>tyV K T x H1/\t σ H1 fun xs H2=>r x xs H2 Q):tBM K T r to t σ H Q:=h
theorem wCall{sp:Sp}{E:XK}{t:TA}(h:t σ H fun vs H1=>sp (vs++[]) H1 Q E):tCall sp [] E t σ H Q:=h
theorem wCB{r:List V->Hp->VK->Prop}{t:TA}(h:t σ H fun vs H1=>r vs H1 Q):tCB r t σ H Q:=h
end
end SW
namespace SW
open PySem PySem.NumText
set_option maxHeartbeats 4000000 in
section
variable{prog:Program}{w:World}{A:Around}{E:Value->Shared->Prop}{s:Shared}{Q:Value->Shared->Prop}{x:PySem.Str}{t u:Tok}
end
end SW
namespace SW
open PySem PySem.Spec PyProof.Rows L2
noncomputable def pt(m:Int):Nat->Int
 | 0=>0
 | k+1=>pt m k*2+m / 2 ^ k % 2
theorem bit01(x:Int):x % 2=0∨x % 2=1:=by omega
theorem pt_range(m:Int):∀ k:Nat,0<=pt m k/\pt m k < 2 ^ k
 | 0=>⟨Int.le_refl _,by show(0:Int) < 1;decide⟩
 | k+1=>by
   have:=pt_range m k;have:=bit01 (m / 2 ^ k);rw[pt,Int.pow_succ];omega
noncomputable def KeepBut(p:Addr)(H H':Hp):Prop:=∀ b o,b≠p->H b=some o->H' b=some o
theorem KeepBut.refl(p:Addr)(H:Hp):KeepBut p H H:=fun _ _ _ h=>h
theorem KeepBut.trans{p:Addr}{H H1 H2:Hp}(a:KeepBut p H H1)(b:KeepBut p H1 H2):KeepBut p H H2:=fun c o n h=>b c o n (a c o n h)
theorem KeepBut.new{p q:Addr}{o:HO}{H:Hp}(h:H q=none):KeepBut p H (upd H q o):=fun b u _ e=>by
 rw[upd_ne (ne_of_none e h)];exact e
theorem KeepBut.at{p:Addr}{o:HO}{H:Hp}:KeepBut p H (upd H p o):=fun b u n e=>by
 rw[upd_ne n];exact e
theorem Same.new{q:Addr}{o:HO}{H:Hp}(h:H q=none):Same H (upd H q o):=fun b u e=>by
 rw[upd_ne (ne_of_none e h)];exact e
theorem Same.but{p:Addr}{H H':Hp}(h:Same H H'):KeepBut p H H':=fun b o _ e=>h b o e
noncomputable def Mix(H:Hp)(t:Addr):Prop:=∃ f m:Int,H t=some (.tup [.int f,.int m])/\0<=f/\f<=65535/\0<=m/\m<=65535
theorem atI_in{α:Type}{xs:List α}{i:Int}(h0:0<=i)(h1:i < xs.length):∃ v,atI xs i=some v/\v∈xs:=by
 obtain⟨j,rfl⟩:=Int.eq_ofNat_of_zero_le h0;have hj:j < xs.length:=by omega
 exact⟨xs[j],atI_nat (by simp[hj]),List.getElem_mem hj⟩
section
variable{X:Cx}
theorem call_isi:CallR X (.builtin "isinstance") (fun xs H Q=>∃ x T t b,xs=[x,.ty T]/\TyOf X.K H x t/\W.kitOne X.K t (.type T)=some b/\Q (.bl b) H):=by
 intro pins s σ H xs us Q I r h;obtain⟨x,T,t,b,rfl,ty,e,q⟩:=h;obtain⟨u,v,rfl,ru,rv⟩:=vals2 r;cases (show v=Value.type T from rv);exact isinst_ok I ru ty e fun tk=>⟨.bl b,H,I.tok tk,rfl,q⟩
end
theorem isi_int_int{K:W.Frag}:W.kitOne K (.type "int") (.type "int")=some true:=rfl
theorem isi_int_bool{K:W.Frag}:W.kitOne K (.type "int") (.type "bool")=some false:=by
 show W.kitOne [] (.type "int") (.type "bool")=some false
 decide +kernel
section
variable{D:Ends}{σ:L2.St}{H:Hp}{Q:VK}{v:V}{K:W.Frag}
theorem wFor{wi:TI}{g:TG}{tb:TS}(h:wi σ H fun J H1=>∃ W:Nat->Nat->L2.St->Hp->Prop,(∃ m,W 0 m σ H1) /\ ∀ i m σ H,W i m σ H ->
 (J.stop i H/\D.nx σ H)∨(J.go i H /\ ∃ N:L2.St->Hp->Prop,(∀ σ' H',N σ' H' -> ∃ m',m' < m/\W (i+1) m' σ' H') /\ ∀ x H',J.yld i H x H'->g x σ H' fun σ2 H2=>tb { D with nx:=N,ct:=N,bk:=D.nx } σ2 H2)):tFor wi g tb D σ H:=h
theorem wIList{tl:TE}{R:It->Hp->Prop}(h:tl σ H fun x H1=>∃ a,x=.ref a/\(∃ xs,SqL K H1 a xs)/\R (Itl K a) H1):iList K tl σ H R:=h
theorem wRng1{ta:TA}{R:It->Hp->Prop}(h:ta σ H fun vs H1=>∃ j:Int,vs=[.int j] /\ -(2 ^ 62)<=j/\j < 2 ^ 62/\R (Itr 0 j.toNat) H1):iRng1 ta σ H R:=h
theorem cut_ints(ns:List Int)(lo hi:Option Int):∃ cs:List Int,cutV (ns.map V.int) lo hi=cs.map V.int/\cs.length<=ns.length:=by
 unfold cutV;rw[← List.map_drop,← List.map_take];exact⟨_,rfl,by rw[List.length_take,List.length_drop];omega⟩
end
theorem iteY{c A B:Prop}[Decidable c](hc:c)(h:A):if decide c=true then A else B:=by
 rw[decide_eq_true hc];exact iteT h
theorem getInt{cs:List Int}{i:Nat}{y:V}(h:(cs.map V.int)[i]?=some y):∃ c,y=V.int c:=by
 rw[List.getElem?_map]at h;cases e:cs[i]? with
 | none=>rw[e]at h;cases h
 | some z=>rw[e]at h;exact⟨z,(Option.some.inj h).symm⟩
section
variable{H:Hp}{Q:VK}
theorem wInt1{k:Bool}{P:Int->Prop}(h:P (if k=true then 1 else 0)):(∃ i,[V.bl k]=[V.int i]/\P i) ∨ ∃ k',[V.bl k]=[V.bl k']/\P (if k'=true then 1 else 0):=.inr ⟨k,rfl,h⟩
end
theorem pt_half(m:Int)(k:Nat):pt m (k+1) / 2=pt m k:=by
 have:=bit01 (m / 2 ^ k);rw[pt];omega
theorem pt_mod(m:Int)(k:Nat):pt m (k+1) % 2=m / 2 ^ k % 2:=by
 have:=bit01 (m / 2 ^ k);rw[pt];omega
theorem p2(k:Nat):(0:Int) < 2 ^ k:=Int.pow_pos (by decide)
theorem pow_le_iff{j k:Nat}:(2:Int) ^ k<=2 ^ j ↔ k<=j:=by
 constructor
 · intro h
   by_cases hk:j < k
   · have:(2:Int) ^ j < 2 ^ k:=by
      obtain⟨d,rfl⟩:∃ d,k=j+1+d:=⟨k - (j+1),by omega⟩
      rw[Int.pow_add,Int.pow_succ];have:=p2 j;have:=p2 d;have h1:(2:Int) ^ j*2*1<=2 ^ j*2*2 ^ d:=Int.mul_le_mul_of_nonneg_left (by omega) (by omega)
      omega
     omega
   omega
 intro h;obtain⟨d,rfl⟩:∃ d,j=k+d:=⟨j - k,by omega⟩
 rw[Int.pow_add];have:=p2 k;have:=p2 d;have h1:(2:Int) ^ k*1<=2 ^ k*2 ^ d:=Int.mul_le_mul_of_nonneg_left (by omega) (by omega)
 omega
section
variable{D:Ends}{σ:L2.St}{H:Hp}{Q:VK}
theorem wAnd{t u:TT}{Q:Bool->Hp->Prop}(h:t σ H fun c H1=>if c=true then u σ H1 Q else Q false H1):tAnd t u σ H Q:=h
theorem wOr{t u:TT}{Q:Bool->Hp->Prop}(h:t σ H fun c H1=>if c=true then Q true H1 else u σ H1 Q):tOr t u σ H Q:=h
theorem wChain{r r':R2}{ta tb tc:TE}(h:ta σ H fun x H1=>tb σ H1 fun y H2=>r x y H2 fun z H3=>∃ k,z=.bl k/\(if k=true then tc σ H3 fun w' H4=>r' y w' H4 Q else Q (.bl false) H3)):tChain r r' ta tb tc σ H Q:=h
end
theorem iteNo{c A B:Prop}[Decidable c](hc:¬ c)(h:B):if decide c=true then A else B:=by
 rw[decide_eq_false hc];exact iteF h
theorem iteNN{c A B:Prop}[Decidable c](hc:¬ c)(h:A):if(!decide c)=true then A else B:=by
 rw[decide_eq_false hc];exact iteT h
noncomputable def spMark:Sp:=fun vs H Q _=>∃(k:Int) (t:Addr) (f m:Int),vs=[.int k,.ref t]/\H t=some (.tup [.int f,.int m])/\(0<=f/\f<=65535)/\Q (.int ((k*f+m) % 65536)) H
noncomputable def spPlace:Sp:=fun vs H Q _=>∃ m s:Int,vs=[.int m,.int s]/\0 < s/\Q (.int (m % s)) H
noncomputable def spPoint:Sp:=fun vs H Q _=>∃ m:Int,vs=[.int m]/\Q (.int (pt m 16)) H
theorem wMark{k:Int}{t:Addr}{f m:Int}{H:Hp}{Q:VK}{E:XK}(h:H t=some (.tup [.int f,.int m]))(b:0<=f/\f<=65535)(q:Q (.int ((k*f+m) % 65536)) H):spMark ([.int k,.ref t]++[]) H Q E:=⟨k,t,f,m,rfl,h,b,q⟩
theorem wPlace{m s:Int}{H:Hp}{Q:VK}{E:XK}(h:0 < s)(q:Q (.int (m % s)) H):spPlace ([.int m,.int s]++[]) H Q E:=⟨m,s,rfl,h,q⟩
theorem wPoint{m:Int}{H:Hp}{Q:VK}{E:XK}(q:Q (.int (pt m 16)) H):spPoint ([.int m]++[]) H Q E:=⟨m,rfl,q⟩
noncomputable def compCx(X:Cx)(scope:Scope)(cl:List (Str×Addr))(N':List Str)(s:Shared)(H:Hp)(fp:List Addr)(pins:List (Addr×Obj)):Cx:=
 { X with N:=N',s₀:=s,H₀:=H,env:=compEnvC scope cl s.heap.objs.size X.env,outer:=X.stack,stack:=X.stack,ex:=fp,fn:=fun _=>false,pn:=X.pn++pins,xe:=fun _ _=>False }
structure CompScope(X:Cx)(scope:Scope)(cl:List (Str×Addr))(x:Str)(js:List Nat)(N':List Str):Prop where
 clos:closureFor scope X.env=pure cl
 kind:scope.kind=.function
 nocell:∀ y∈scope.names,y.2 ≠ .cell
 names:∀ y∈scope.names,y.2=.local->scope.names.lookup y.1=some .local
 own:scope.names.lookup x=some .local
 sub:∀ p∈cl,X.env.cells.lookup p.1=some p.2
 has:∀ y,((relabel scope X.env).names.lookup y=some .cell∨(relabel scope X.env).names.lookup y=some .free) -> ∃ c,cl.lookup y=some c
 nm:N'=x::js.map fun j=>X.N.getD j Str.empty
 see:∀(i j:Nat),js[i]?=some j -> ∃ y,X.N[j]?=some y/\(X.env.kindOf y=some .cell∨X.env.kindOf y=some .free)/\((relabel scope X.env).names.lookup y=some .cell∨(relabel scope X.env).names.lookup y=some .free)
noncomputable def seen(σ:L2.St)(js:List Nat):L2.St:=none::js.map fun j=>σ.getD j none
section
variable{X:Cx}{scope:Scope}{cl:List (Str×Addr)}{x:Str}{js:List Nat}{N':List Str}{pins:List (Addr×Obj)}{σ:L2.St}{H:Hp}{s:Shared}{fp:List Addr}
theorem CompScope.sub'(S:CompScope X scope cl x js N'){y:Str}{c:Addr}(h:cl.lookup y=some c):X.env.cells.lookup y=some c:=S.sub (y,c) (PySem.mem_of_lookup h)
theorem comp_ok(S:CompScope X scope cl x js N')(I:Inv X pins σ H s)(hf:∀ b∈fp,FpOk X pins H b)(ho:∀ b∈fp,b < s.heap.objs.size):(compCx X scope cl N' s H fp pins).Ok where
 mod:=I.ok.mod
 kind:=S.kind
 glob:=I.ok.glob
 blt:=I.ok.blt
 above:=Nat.le_refl _
 inj:=fun y z c h1 h2=>I.ok.inj y z c (S.sub' h1) (S.sub' h2)
 has:=fun y h=>S.has y h
 cab:=fun y c h=>absurd h Bool.false_ne_true
 hd:=I.ok.hd
 frames:=I.ok.frames
 stk:=.inl rfl
 exf:=fun b hb=>⟨Nat.ne_of_lt (ho b hb),fun y c h=>(hf b hb).2.2.2.2.1 y c (S.sub' h)⟩
 bs:=I.bs
 bsz:=Nat.le_trans I.ok.bsz I.sz
 noex:=fun b o e hb=>by
  rcases(hf b hb).2.2.2.1 with z | z
  · exact I.ok.noex b o e z
  exact absurd (Nat.lt_of_lt_of_le (Heap.lt_size (I.ok.bs b o e).1) z) (Nat.lt_irrefl _)
 exfs:=fun b hb z=>by
  rcases List.mem_cons.mp (I.stkSub b z)with e | e
  · exact(hf b hb).2.1 e
  exact(hf b hb).2.2.1 e
 funs:=I.stack
 frf:=I.stkFree
theorem comp_inv(S:CompScope X scope cl x js N')(I:Inv X pins σ H s)(hf:∀ b∈fp,FpOk X pins H b)(ho:∀ b∈fp,b < s.heap.objs.size){s4:Shared}{m:Str->Option Value}(hos:s4.os=s.os)(hg:s4.gens=s.gens)
 (hn:s4.heap.Ns s.heap.objs.size m) (hk:∀ b o,s.heap.get? b=some o->s4.heap.get? b=some o):Inv (compCx X scope cl N' s H fp pins) [] (seen σ js) H s4 where
 ok:=comp_ok S I hf ho
 os:=hos
 bare:=by rw[hg];exact I.bare
 base:=Un.kept hk
 loc:=by
  obtain⟨mX,_,hl⟩:=I.loc;refine⟨m,hn,fun i y v h1 h2 h3=>?_⟩;cases i with
  | zero=>
    unfold seen at h2;simp at h2
  | succ i=>
    have h1':N'[i+1]?=some y:=h1;rw[S.nm,List.getElem?_cons_succ,List.getElem?_map]at h1';unfold seen at h2;rw[List.getElem?_cons_succ,List.getElem?_map]at h2;cases ej:js[i]? with
    | none=>rw[ej]at h2;cases h2
    | some j=>
      rw[ej]at h1' h2;obtain⟨z,hz,k1,k2⟩:=S.see i j ej;have ey:z=y:=by
       have:X.N.getD j Str.empty=y:=Option.some.inj h1';rw[List.getD_eq_getElem?_getD,hz]at this;exact this
      subst ey;have ev:σ[j]?=some (some v):=by
       have q:σ.getD j none=some v:=Option.some.inj h2;rw[List.getD_eq_getElem?_getD]at q;cases e:σ[j]? with
       | none=>rw[e]at q;cases q
       | some w'=>rw[e]at q;exact congrArg some q
      have kx:X.env.scope.names.lookup z=some .cell∨X.env.scope.names.lookup z=some .free:=k1;obtain⟨u,r,l⟩:=hl j z v hz ev (.inr kx);refine⟨u,r,.inr ⟨k2,?_⟩⟩;obtain⟨c,hc⟩:=S.has z k2;rcases l with ⟨kl,_⟩ | ⟨_,c',e',cell⟩
      · rcases k1 with k1 | k1 <;> rw[k1]at kl <;> cases kl
      have:c'=c:=Option.some.inj (e'.symm.trans (S.sub' hc));subst this;obtain⟨o,q1,q2⟩:=cell;exact⟨c',hc,o,hk _ _ q1,q2⟩
 cell:=fun y c h=>by
  obtain⟨v,o,q1,q2⟩:=I.cell y c (S.sub' h);exact⟨v,o,hk _ _ q1,q2⟩
 free:=I.hok.fresh (Nat.le_refl _)
 freeC:=fun y c h=>I.freeC y c (S.sub' h)
 pin:=fun p hp=>by
  have hp':p∈X.pn++pins:=by
   have q:p∈(X.pn++pins)++[]:=hp;rw[List.append_nil]at q;exact q
  obtain⟨e,n,ne,nf,d⟩:=I.pin p hp';refine⟨hk _ _ e,n,Nat.ne_of_lt (Heap.lt_size e),fun z=>?_,d⟩;rcases List.mem_cons.mp (I.stkSub p.1 z)with q | q
  · exact ne q
  exact nf q
 hok:=I.hok.kept hk
 len:=by
  show(seen σ js).length=N'.length;rw[S.nm];unfold seen;simp
theorem comp_back{s':Shared}{σ':L2.St}{H':Hp}{h':Heap}(I:Inv X pins σ H s)(hf:∀ b∈fp,FpOk X pins H b)(J:Inv (compCx X scope cl N' s H fp pins) [] σ' H' s')(hs:Heap.SameBut s.heap.objs.size s'.heap h') :
 Inv X pins σ H' { s' with heap:=h' }:=by
 have ne:∀ b o,s.heap.get? b=some o->b≠s.heap.objs.size:=fun b o e=>Nat.ne_of_lt (Heap.lt_size e);have u0:Un (frs X.stack) fp H H' s.heap s'.heap:=J.base;have u:Un (frs X.stack) fp H H' s.heap h':=
  ⟨fun b o e n h1 h2=>(hs.2 b (ne b o e)).trans (u0.keep b o e n h1 h2),fun b o e n h1 h2=>let⟨sl,q⟩:=u0.slot b o e n h1 h2;⟨sl,(hs.2 b (ne b o e)).trans q⟩,u0.free,
   fun b o e h2=>let⟨o',q⟩:=u0.there b o e h2;⟨o',(hs.2 b (ne b o e)).trans q⟩,u0.tups,u0.frzs,u0.tbls⟩
 have hfree:H' s.heap.objs.size=none:=J.free;have hok:HOk X.prog X.w H' h':=fun b ob e=>by
  refine(J.hok b ob e).stay (fun c w' hc q=>(hs.2 c ?_).trans q) (fun _ q=>q) fun _ _ q=>q;rintro rfl;rcases hc with rfl | hc
  · rw[hfree]at e;cases e
  rw[hfree]at hc;cases hc
 exact I.call' (s':={ s' with heap:=h' }) J.os u hok J.bare fun b hb=>⟨(hf b hb).2.2.2.1,(hf b hb).2.1,(hf b hb).2.2.2.2.1,(hf b hb).2.2.2.2.2⟩
end
theorem comp_loop{prog:Program}{w:World}{A:Around}{R:Result->Shared->Prop}{s:Shared}{elt target iter:Expr}{ifs:List Expr}{scope:Scope}{pos:Pos}{it acc:Value}{env:Env}(I:Nat->Shared->Prop)
 (turn:∀ n s,I n s->wpAny (model prog w) A (pyNext it) (fun r s₁=>match r with
  | none=>R (.ok .next) s₁
  | some v=>wpAny (model prog w) A (letOwnedTupleGo target it v) (fun _ s₁'=>wpAny (model prog w) A (assign target env v) (fun _ s₂=>
   wpAny (model prog w) A (forIn ifs true fun c r=>if r=true then do let ok ← isTrue c env (eval c env);pure (ForInStep.yield ok)else pure (ForInStep.yield r)) (fun ok s₃=>
    if ok=true then wpAny (model prog w) A (eval elt env) (fun x s₄=>
     wpAny (model prog w) A (call (.builtin "list.append") [acc,x]) (fun _ s₅=>∃ m,m < n/\I m s₅) (fun _ _=>False) s₄) (fun _ _=>False) s₃
    else ∃ m,m < n/\I m s₃) (fun _ _=>False) s₂) (fun _ _=>False) s₁') (fun _ _=>False) s₁) (fun _ _=>False) s)
 (n:Nat) (h:I n s):codeAny (model prog w) A (.compLoop (.ListComp elt [⟨target,iter,ifs,0⟩] scope pos) 0 it acc env) R s:=by
 refine codeAny_loop rfl I (fun n s hI=>?_) n h;show wpAny _ A ((compTurn (.ListComp elt [⟨target,iter,ifs,0⟩] scope pos) 0 it acc env).onRaise (fun x=>do noteFrame x env;theTreesLotGoes x)) _ _ s;refine wpAny_noted ?_;rw[compTurn_list];refine wpAny_bind (wpAny_standAt (wpAny_bind (wpAny_mono (turn n s hI) (fun r s₁ h₁=>?_) fun _ _ h'=>h'.elim)));cases r with
 | none=>exact wpAny_pure h₁
 | some v=>
   refine wpAny_bind (wpAny_mono h₁ (fun _ s₁' h₁'=>?_) fun _ _ h'=>h'.elim);refine wpAny_bind (wpAny_mono h₁' (fun _ s₂ h₂=>wpAny_bind (wpAny_mono h₂ (fun ok s₃ h₃=>?_) fun _ _ h'=>h'.elim)) fun _ _ h'=>h'.elim);cases ok with
   | false=>exact wpAny_pure ⟨rfl,h₃⟩
   | true=>
     exact wpAny_bind (wpAny_bind (wpAny_mono h₃ (fun x s₄ h₄=>wpAny_bind (wpAny_mono h₄ (fun _ s₅ h₅=>wpAny_pure (wpAny_pure ⟨rfl,h₅⟩)) fun _ _ h'=>h'.elim)) fun _ _ h'=>h'.elim))
noncomputable def PTs(X:Cx)(ifs:List Expr)(t:TT):Prop:=
 ∀(pins:List (Addr×Obj)) (s:Shared) (σ:L2.St) (H:Hp) (Q:Bool->Hp->Prop) (E:Value->Shared->Prop),(∀ e s',X.xe e s'->E e s')->Inv X pins σ H s->t σ H Q ->
   wpAny (model X.prog X.w) X.A (forIn ifs true fun c r=>if r=true then do let ok ← isTrue c X.env (eval c X.env);pure (ForInStep.yield ok)else pure (ForInStep.yield r)) (TP X pins σ Q) E s
theorem pts_nil{X:Cx}:PTs X [] (fun _ H Q=>Q true H):=fun _ _ _ H _ _ _ I h=>wpAny_tests_nil ⟨H,I,h⟩
theorem pts_one{X:Cx}{c:Expr}{tc:TT}(hc:PT X c tc):PTs X [c] tc:=fun pins s σ H Q E hE I h=>wpAny_tests_one (wpAny_mono (hc pins s σ H Q I h) (fun _ _ q=>q) hE)
noncomputable def tComp(js:List Nat)(wi:TI)(tt:TT)(te:TE):TE:=fun σ H Q=>wi σ H fun J H1=>∀ D,H1 D=none -> ∃ W:Nat->Nat->L2.St->Hp->Prop,(∃ m,W 0 m (seen σ js) (upd H1 D (.lst []))) /\
 ∀ i m σ' H',W i m σ' H'->(J.stop i H'/\Q (.ref D) H')∨(J.go i H' /\ ∀ x H2,J.yld i H' x H2->tt (σ'.set 0 (some x)) H2 fun ok H3=>
   if ok=true then te (σ'.set 0 (some x)) H3 fun y H4=>∃ ys,H4 D=some (.lst ys)/\ys.length < sizeLine /\ ∃ m',m' < m/\W (i+1) m' (σ'.set 0 (some x)) (upd H4 D (.lst (ys++[y])))
   else ∃ m',m' < m/\W (i+1) m' (σ'.set 0 (some x)) H3)
section
variable{X:Cx}{scope:Scope}{cl:List (Str×Addr)}{x:Str}{js:List Nat}{N':List Str}{elt iter:Expr}{ifs:List Expr}{px pos:Pos}{wi:TI}{tt:TT}{te:TE}
theorem comp_core{RR:Value->Addr->Result->Shared->Prop}{pins:List (Addr×Obj)}{σ:L2.St}{H2:Hp}{s2:Shared}{Q:VK}{it:Addr}{fp:List Addr}{tn:Nat->Heap->Prop}{J:It}(S:CompScope X scope cl x js N')(nd:N'.Nodup)(hc:X.calm=true)
 (ht:∀ s H fp pins,PTs (compCx X scope cl N' s H fp pins) ifs tt) (he:∀ s H fp pins,PE (compCx X scope cl N' s H fp pins) elt te)
 (I2:Inv X pins σ H2 s2) (T:Turn X.prog X.w X.K (.Name x px) J fp it tn) (st2:tn 0 s2.heap) (f2:∀ b∈fp,FpOk X pins H2 b)
 (k:∀ D,H2 D=none -> ∃ W:Nat->Nat->L2.St->Hp->Prop,(∃ m,W 0 m (seen σ js) (upd H2 D (.lst []))) /\
  ∀ i m σ' H',W i m σ' H'->(J.stop i H'/\Q (.ref D) H')∨(J.go i H' /\ ∀ x H2,J.yld i H' x H2->tt (σ'.set 0 (some x)) H2 fun ok H3=>
    if ok=true then te (σ'.set 0 (some x)) H3 fun y H4=>∃ ys,H4 D=some (.lst ys)/\ys.length < sizeLine /\ ∃ m',m' < m/\W (i+1) m' (σ'.set 0 (some x)) (upd H4 D (.lst (ys++[y])))
    else ∃ m',m' < m/\W (i+1) m' (σ'.set 0 (some x)) H3))
 (fin:∀(D C:Addr) (s6:Shared) (H6:Hp) (m:Str->Option Value),s6.heap.Ns C m->(∀ h',Heap.SameBut C s6.heap h'->Inv X pins σ H6 { s6 with heap:=h' })->H6 C=none->FpOk X pins H6 C->Q (.ref D) H6->RR (.ref D) C (.ok .next) s6) :
 wpAny (model X.prog X.w) X.A (newList []) (fun acc s₃=>wpAny (model X.prog X.w) X.A (newFunctionEnv scope X.env.globals cl [] X.env.qual none .none (some X.env)) (fun cenv s₄=>
  codeAny (model X.prog X.w) X.A (.compStart (.ListComp elt [⟨.Name x px,iter,ifs,0⟩] scope pos) 0 (.ref it) acc { cenv with scope:=relabel scope X.env }) (RR acc cenv.locals) s₄) X.xe s₃) X.xe s2:=by
 have hDn:H2 s2.heap.objs.size=none:=I2.hok.fresh (Nat.le_refl _);obtain⟨W,⟨m0,w0⟩,turn⟩:=k s2.heap.objs.size hDn;refine wpAny_newObj_type (wpAny_newFunctionEnv S.nocell (by intro y hy;simp at hy) (fun h4 hns4 hsb4=>?_) S.kind) (by show 0<=sizeLine;exact Nat.zero_le _)
 have I3:Inv X pins σ (upd H2 s2.heap.objs.size (.lst [])) { s2 with heap:=s2.heap.push { cls:=.type "list",dict:=none,data:=.seq ([]:List Value).toArray } }:=
  I2.laid (t':=s2.toks) (fun b u e=>Heap.get?_push_of_some _ e) (Nat.le_refl _) ⟨Nat.zero_le _,[],0,.nil,Heap.get?_push_size _ rfl⟩
 have ltf:∀ b∈fp,b < s2.heap.objs.size:=fun b hb=>let⟨o,e,_⟩:=T.obj 0 _ st2 b hb;Heap.lt_size e;have f3:∀ b∈fp,FpOk X pins (upd H2 s2.heap.objs.size (.lst [])) b:=fun b hb=>⟨by rw[upd_ne (Nat.ne_of_lt (ltf b hb))];exact(f2 b hb).1,(f2 b hb).2⟩
 generalize hH:upd H2 s2.heap.objs.size (.lst [])=H3 at *;generalize hS3:({ s2 with heap:=s2.heap.push { cls:=.type "list",dict:=none,data:=.seq ([]:List Value).toArray } }:Shared)=s3 at *;have o3:∀ b∈fp,b < s3.heap.objs.size:=fun b hb=>by
  rw[← hS3];show b < (s2.heap.push _).objs.size;rw[Heap.size_push];exact Nat.lt_succ_of_lt (ltf b hb)
 have k4:∀ b o,s3.heap.get? b=some o->h4.get? b=some o:=fun b o e=>(hsb4.2 b (Nat.ne_of_lt (Heap.lt_size e))).trans (Heap.get?_push_of_some _ e);have st3:tn 0 s3.heap:=T.keep 0 _ _ st2 fun b hb o e=>by rw[← hS3];exact Heap.get?_push_of_some _ e
 have st4:tn 0 h4:=T.keep 0 _ _ st3 fun b hb o e=>k4 b o e;have I4:Inv (compCx X scope cl N' s3 H3 fp pins) [] (seen σ js) H3 { s3 with heap:=h4,toks:=s3.toks+([]:List (Str×Value)).length }:=comp_inv S I3 f3 o3 rfl rfl hns4 k4;have ok:=comp_ok S I3 f3 o3;have fp5:∀{H':Hp},(∀ b∈fp,H' b=none) -> ∀ b∈fp,FpOk (compCx X scope cl N' s3 H3 fp pins) [] H' b:=fun hn b hb=>
  ⟨hn b hb,Nat.ne_of_lt (o3 b hb),ok.exfs b hb,.inl hb,fun y c h=>(f3 b hb).2.2.2.2.1 y c (S.sub' h),fun p hp=>(f3 b hb).2.2.2.2.2 p (by
   have q:p∈(X.pn++pins)++[]:=hp;rw[List.append_nil]at q;exact q)⟩
 have loop:codeAny (model X.prog X.w) X.A (.compLoop (.ListComp elt [⟨.Name x px,iter,ifs,0⟩] scope pos) 0 (.ref it) (.ref s2.heap.objs.size) (compEnvC scope cl s3.heap.objs.size X.env))
  (RR (.ref s2.heap.objs.size) s3.heap.objs.size) { s3 with heap:=h4,toks:=s3.toks+([]:List (Str×Value)).length }:=by
  refine comp_loop (fun n s'=>∃ i σ' H',Inv (compCx X scope cl N' s3 H3 fp pins) [] σ' H' s'/\tn i s'.heap/\(∀ b∈fp,H' b=none)/\W i n σ' H') ?_ m0 ⟨0,_,_,I4,st4,fun b hb=>(f3 b hb).1,w0⟩;rintro n s5 ⟨i,σ5,H5,I5,st5,fr5,w5⟩;rcases turn i n σ5 H5 w5 with ⟨stop,q⟩ | ⟨go,step⟩
  · refine wpAny_mono (T.done (compCx X scope cl N' s3 H3 fp pins) rfl rfl rfl hc i [] s5 σ5 H5 (fun _ _=>False) I5 (fp5 fr5) st5 stop) (fun r s6 ⟨hr,I6⟩=>?_) (fun _ _ z=>z.elim)
    subst hr;obtain⟨m,hm,_⟩:=I6.loc;exact fin _ _ s6 H5 m hm (fun h' hs'=>comp_back I3 f3 I6 hs') I6.free (I3.fpOk (Nat.le_refl _) I6.free) q
  refine wpAny_mono (T.item (compCx X scope cl N' s3 H3 fp pins) rfl rfl rfl hc i [] s5 σ5 H5 (fun _ _=>False) I5 (fp5 fr5) st5 go) (fun r s6 ⟨u,hr,h6⟩=>?_) (fun _ _ z=>z.elim);subst hr;refine wpAny_mono h6 (fun _ s6 ⟨y,H6,I6,r6,y6,st6,fr6⟩=>?_) (fun _ _ z=>z.elim);have I6':=I6.pinned (fp5 fr6) (T.obj _ _ st6);have again:∀{σ7:L2.St}{H7:Hp}{s7:Shared}{m':Nat},Inv (compCx X scope cl N' s3 H3 fp pins) ([]++pinsAt fp s6.heap) σ7 H7 s7->m' < n->W (i+1) m' σ7 H7 ->
   ∃ m,m < n /\ ∃ i σ' H',Inv (compCx X scope cl N' s3 H3 fp pins) [] σ' H' s7/\tn i s7.heap/\(∀ b∈fp,H' b=none)/\W i m σ' H':=fun {σ7 H7 s7 m'} I7 hm w7=>by
   refine⟨m',hm,i+1,σ7,H7,I7.unpinned,T.keep _ _ _ st6 fun b hb o e=>(I7.pin (b,o) (List.mem_append_right _ (List.mem_append_right _ (mem_pinsAt hb e)))).1,fun b hb=>?_,w7⟩;obtain⟨o,e,d⟩:=T.obj _ _ st6 b hb;exact(I7.pin (b,o) (List.mem_append_right _ (List.mem_append_right _ (mem_pinsAt hb e)))).2.1
  have step':=step y H6 y6;refine wpAny_mono (pg_name (X:=compCx X scope cl N' s3 H3 fp pins) (i:=0) (x:=x) (pos:=px) nd (by show N'[0]?=some x;rw[S.nm];rfl) (.inl (lookup_relabel_local S.own)) (.inr (lookup_relabel_local S.own)) _ s6 σ5 H6 y u
   (fun σ' H'=>σ'=σ5.set 0 (some y)/\H'=H6) I6' r6 ⟨rfl,rfl⟩) (fun _ s7 ⟨σ7,H7,I7,e7,eH⟩=>?_) (fun _ _ z=>z.elim)
  subst e7;subst eH;refine wpAny_mono (ht s3 H3 fp pins _ s7 _ H7 _ (fun _ _=>False) (fun _ _ z=>z) I7 step') (fun okk s8 ⟨H8,I8,q8⟩=>?_) (fun _ _ z=>z.elim);cases okk with
  | false=>
    obtain⟨m',hm,w8⟩:=q8;exact again I8 hm w8
  | true=>
    refine wpAny_mono (he s3 H3 fp pins _ s8 _ H8 _ I8 q8) (fun ev s9 ⟨z,H9,I9,r9,ys,hys,hlen,m',hm,w9⟩=>?_) (fun _ _ z=>z.elim);refine wpAny_mono (mt_append (X:=compCx X scope cl N' s3 H3 fp pins) _ s9 _ H9 (.ref s2.heap.objs.size) [z] (.ref s2.heap.objs.size) [ev] (fun _ H'=>H'=upd H9 s2.heap.objs.size (.lst (ys++[z]))) I9 rfl (.cons r9 .nil)
     ⟨_,ys,z,rfl,rfl,hys,hlen,rfl⟩) (fun _ s10 ⟨_,H10,I10,_,e10⟩=>?_) (fun _ _ z=>z.elim)
    subst e10;exact again I10 hm w9
 exact codeAny_compStart_list loop (T.self X.A 0 _ _ _ st4 loop)
theorem pe_comp(S:CompScope X scope cl x js N')(nd:N'.Nodup)(hc:X.calm=true)(hi:PI X (.Name x px) iter wi)
 (ht:∀ s H fp pins,PTs (compCx X scope cl N' s H fp pins) ifs tt) (he:∀ s H fp pins,PE (compCx X scope cl N' s H fp pins) elt te)
 (hs:∀ x,foldedSetIterable iter X.env x=pure x:=by intro _;rfl):PE X (.ListComp elt [⟨.Name x px,iter,ifs,0⟩] scope pos) (tComp js wi tt te):=by
 intro pins s σ H Q I h;rw[eval_ListComp];refine wpAny_comprehension_free (use:=none) rfl hs S.clos S.kind S.names (thn (hi pins s σ H _ I h) fun v s1 h1=>thn h1 fun itv s2 h2=>?_);obtain⟨it,fp,tn,J,H2,e,I2,T,st2,f2,k⟩:=h2;subst e;exact comp_core (RR:=fun acc C=>compPost (model X.prog X.w) X.A X.xe none (EP X pins σ Q) acc C) S nd hc ht he I2 T st2 f2 k fun D C s6 H6 m hm back _ _ q=>⟨m,hm,fun h' hs'=>⟨.ref D,H6,back h' hs',rfl,q⟩⟩
end
noncomputable def SubCl(cells:List (Str×Addr)):List (Str×Addr)->Prop
 | []=>True
 | p::r=>cells.lookup p.1=some p.2/\SubCl cells r
theorem SubCl.all{cells:List (Str×Addr)}:∀{cl:List (Str×Addr)},SubCl cells cl -> ∀ p∈cl,cells.lookup p.1=some p.2
 | _::_,h,p,hp=>by
   rcases List.mem_cons.mp hp with rfl | hp
   · exact h.1
   exact SubCl.all h.2 p hp
noncomputable def isCF(k:Option NameKind):Bool:=k == some .cell || k == some .free
theorem isCF_of{k:Option NameKind}(h:isCF k=true):k=some .cell∨k=some .free:=by
 unfold isCF at h;rw[Bool.or_eq_true]at h;exact h.imp beq_iff_eq.mp beq_iff_eq.mp
theorem CompScope.of{X:Cx}{scope:Scope}{cl:List (Str×Addr)}{x:Str}{js:List Nat}{N':List Str}(clos:closureFor scope X.env=pure cl)(kind:scope.kind=.function)(nocell:scope.names.all (fun y=>y.2 != .cell)=true)
 (names:scope.names.all (fun y=>y.2 != .local || scope.names.lookup y.1 == some .local)=true) (own:scope.names.lookup x=some .local) (sub:SubCl X.env.cells cl)
 (has:(relabel scope X.env).names.all (fun p=>!isCF (some p.2) || (cl.lookup p.1).isSome)=true) (nm:N'=x::js.map fun j=>X.N.getD j Str.empty)
 (see:js.all (fun j=>match X.N[j]? with | some y=>isCF (X.env.kindOf y) && isCF ((relabel scope X.env).names.lookup y) | none=>false)=true):CompScope X scope cl x js N' where
 clos:=clos
 kind:=kind
 nocell:=fun y hy=>by
  have:=List.all_eq_true.mp nocell y hy;exact bne_iff_ne.mp this
 names:=fun y hy e=>by
  have:=List.all_eq_true.mp names y hy;rw[e]at this;exact beq_iff_eq.mp (by simpa using this)
 own:=own
 sub:=sub.all
 has:=fun y h=>by
  have go:∀ k,(relabel scope X.env).names.lookup y=some k->isCF (some k)=true -> ∃ c,cl.lookup y=some c:=fun k hk hc=>by
   have:=List.all_eq_true.mp has (y,k) (PySem.mem_of_lookup hk);simp only[hc,Bool.not_true,Bool.false_or]at this;exact Option.isSome_iff_exists.mp this
  rcases h with h | h
  · exact go _ h rfl
  exact go _ h rfl
 nm:=nm
 see:=fun i j e=>by
  have:=List.all_eq_true.mp see j (List.mem_of_getElem? e);cases ey:X.N[j]? with
  | none=>rw[ey]at this;cases this
  | some y=>
    rw[ey]at this;rw[Bool.and_eq_true]at this;exact⟨y,rfl,isCF_of this.1,isCF_of this.2⟩
namespace B
section
variable{X:Cx}{scope:Scope}{cl:List (Str×Addr)}{x:Str}{N':List Str}{elt iter c:Expr}{px pos:Pos}{wi:TI}{te:TE}{tc:TT}
theorem comp(js:List Nat)(N':List Str)(S:CompScope X scope cl x js N')(nd:N'.Nodup)(hi:Bx (PI X (.Name x px) iter wi))(he:∀ s H fp pins,Bx (PE (compCx X scope cl N' s H fp pins) elt te))(hc:X.calm=true:=by rfl)
 (hs:∀ x,foldedSetIterable iter X.env x=pure x:=by intro _;rfl):Bx (PE X (.ListComp elt [⟨.Name x px,iter,[],0⟩] scope pos) (tComp js wi (fun _ H Q=>Q true H) te)):=
 ⟨pe_comp S nd hc hi.out (fun _ _ _ _=>pts_nil) (fun s H fp pins=>(he s H fp pins).out) hs⟩
theorem compIf(js:List Nat)(N':List Str)(S:CompScope X scope cl x js N')(nd:N'.Nodup)(hi:Bx (PI X (.Name x px) iter wi))(hcc:∀ s H fp pins,Bx (PT (compCx X scope cl N' s H fp pins) c tc))(he:∀ s H fp pins,Bx (PE (compCx X scope cl N' s H fp pins) elt te))(hc:X.calm=true:=by rfl)
 (hs:∀ x,foldedSetIterable iter X.env x=pure x:=by intro _;rfl):Bx (PE X (.ListComp elt [⟨.Name x px,iter,[c],0⟩] scope pos) (tComp js wi tc te)):=
 ⟨pe_comp S nd hc hi.out (fun s H fp pins=>pts_one (hcc s H fp pins).out) (fun s H fp pins=>(he s H fp pins).out) hs⟩
end
end B
section
variable{X:Cx}
end
theorem wComp{σ:L2.St}{H:Hp}{Q:VK}{js:List Nat}{wi:TI}{tt:TT}{te:TE}(h:wi σ H fun J H1=>∀ D,H1 D=none -> ∃ W:Nat->Nat->L2.St->Hp->Prop,(∃ m,W 0 m (seen σ js) (upd H1 D (.lst []))) /\
 ∀ i m σ' H',W i m σ' H'->(J.stop i H'/\Q (.ref D) H')∨(J.go i H' /\ ∀ x H2,J.yld i H' x H2->tt (σ'.set 0 (some x)) H2 fun ok H3=>
   if ok=true then te (σ'.set 0 (some x)) H3 fun y H4=>∃ ys,H4 D=some (.lst ys)/\ys.length < sizeLine /\ ∃ m',m' < m/\W (i+1) m' (σ'.set 0 (some x)) (upd H4 D (.lst (ys++[y])))
   else ∃ m',m' < m/\W (i+1) m' (σ'.set 0 (some x)) H3)):tComp js wi tt te σ H Q:=h
theorem pt_more{p:Int}{n:Nat}(h0:0<=p)(h1:p < 2 ^ n):∀ k:Nat,pt p (n+k)=pt p n*2 ^ k
 | 0=>by rw[Int.pow_zero,Int.mul_one];rfl
 | k+1=>by
   have e:p / 2 ^ (n+k)=0:=by
    refine Int.ediv_eq_zero_of_lt h0 (Int.lt_of_lt_of_le h1 (pow_le_iff.mpr (by omega)))
   show pt p (n+k)*2+p / 2 ^ (n+k) % 2=_;rw[pt_more h0 h1 k,e,Int.pow_succ,Int.mul_assoc];show _+0=_;rw[Int.add_zero]
noncomputable def spStretch:Sp:=fun vs H Q _=>∃ p s:Int,vs=[.int p,.int s]/\(0 < s/\s < 1073741824) /\ ∀ t,H t=none->Q (.ref t) (L2.upd H t (.tup [.int (pt p 16),.int (pt p 16+65536 / s - 1)]))
theorem wStretch{p s:Int}{H:Hp}{Q:VK}{E:XK}(hs:0 < s/\s < 1073741824)(q:∀ t,H t=none->Q (.ref t) (L2.upd H t (.tup [.int (pt p 16),.int (pt p 16+65536 / s - 1)]))):spStretch ([.int p,.int s]++[]) H Q E:=⟨p,s,rfl,hs,q⟩
theorem ix_tupK(K:W.Frag){X:Cx}(h:X.K=K:=by rfl):IxR X (rIxT K):=by subst h;exact ix_tup
mutual
inductive DatV(K:W.Frag)(H:Hp):V->PyData->Prop
 | non:DatV K H .non .none
 | bl (b:Bool):DatV K H (.bl b) (.bool b)
 | int (i:Int):DatV K H (.int i) (.int i)
 | str (x:PySem.Str):DatV K H (.str x) (.str x)
 | lst {a:Addr}{xs:List V}{ds:List PyData} (h:SqL K H a xs) (r:DatVs K H xs ds):DatV K H (.ref a) (.list ds)
 | tup {a:Addr}{xs:List V}{ds:List PyData} (h:SqT K H a xs) (r:DatVs K H xs ds):DatV K H (.ref a) (.tuple ds)
inductive DatVs(K:W.Frag)(H:Hp):List V->List PyData->Prop
 | nil:DatVs K H [] []
 | cons {x:V}{xs:List V}{d:PyData}{ds:List PyData} (h:DatV K H x d) (r:DatVs K H xs ds):DatVs K H (x::xs) (d::ds)
end
section
variable{X:Cx}{pins:List (Addr×Obj)}{σ:L2.St}{H:Hp}{s:Shared}
mutual
theorem reads_of(I:Inv X pins σ H s):∀{v:V}{d:PyData}{u:Value},DatV X.K H v d->RelV v u -> ∃ as,Reads s.heap u d as
 | _,_,u,.non,r=>by
   cases (show u=Value.none from r);exact⟨_,.none⟩
 | _,_,u,.bl b,r=>by
   cases (show u=Value.bool b from r);exact⟨_,.bool b⟩
 | _,_,u,.int i,r=>by
   obtain⟨t,e⟩:=(show ∃ t,u=Value.int i t from r);cases e;exact⟨_,.int i t⟩
 | _,_,u,.str x,r=>by
   obtain⟨t,e⟩:=(show ∃ t,u=Value.str x t from r);cases e;exact⟨_,.str x t⟩
 | _,_,u,.lst (a:=a) h q,r=>by
   cases (show u=Value.ref a from r);obtain⟨its,rv,⟨o,n,e,c,_,d⟩,_⟩:=I.list h;obtain⟨as,z⟩:=reads_all I q rv;exact⟨_,.list e c d (by simpa using z)⟩
 | _,_,u,.tup (a:=a) h q,r=>by
   cases (show u=Value.ref a from r);obtain⟨its,rv,⟨o,e,c,n,d⟩,_⟩:=I.tuple h;obtain⟨as,z⟩:=reads_all I q rv;exact⟨_,.tuple e c d (by simpa using z)⟩
theorem reads_all(I:Inv X pins σ H s):∀{xs:List V}{ds:List PyData}{us:List Value},DatVs X.K H xs ds->Vals xs us -> ∃ as,ReadsAll s.heap us ds as
 | _,_,_,.nil,.nil=>⟨_,.nil⟩
 | _,_,_,.cons h r,.cons q qs=>by
   obtain⟨a1,z1⟩:=reads_of I h q;obtain⟨a2,z2⟩:=reads_all I r qs;exact⟨_,.cons z1 z2⟩
end
noncomputable def rEqD(K:W.Frag):R2:=fun x y H Q=>∃ d e,DatV K H x d/\DatV K H y e/\d.canLay0=true/\e.canLay0=true/\d.depth<=60/\Q (.bl (PyData.eqv d e)) H
theorem op_eqD(K:W.Frag)(hu:X.A.units+64 < cLine)(hK:X.K=K:=by rfl):OpR X (compareOp .Eq) (rEqD K):=by
 subst hK;intro pins s σ H x y v u Q I rx ry h;obtain⟨d,e,hd,he,c1,c2,dp,q⟩:=h;obtain⟨as,r1⟩:=reads_of I hd rx;obtain⟨bs,r2⟩:=reads_of I he ry;exact SeqAt.compareEq_reads r1 r2 c1 c2 (by omega) ⟨.bl _,H,I,rfl,q⟩
theorem wEqSame{K:W.Frag}{H:Hp}{Q:VK}{x y:V}{d:PyData}(hx:DatV K H x d)(hy:DatV K H y d)(c:d.canLay0=true)(dp:d.depth<=60)(q:Q (.bl true) H):rEqD K x y H Q:=
 ⟨d,d,hx,hy,c,c,dp,by rw[SeqAt.eqv_refl d c];exact q⟩
end
noncomputable def ViewO(v d:Addr):HO:=.ext fun h=>h.IsItemsView v d
noncomputable def over(n:Nat)(H N:Hp):Hp:=fun b=>if b < n then H b else N b
theorem over_old{n:Nat}{H N:Hp}{b:Addr}(h:b < n):over n H N b=H b:=if_pos h
theorem over_new{n:Nat}{H N:Hp}{b:Addr}(h:n<=b):over n H N b=N b:=if_neg (Nat.not_lt.mpr h)
section
variable{X:Cx}{pins:List (Addr×Obj)}{σ:L2.St}{H N:Hp}{s:Shared}{h':Heap}
theorem Inv.over{t':Nat}(I:Inv X pins σ H s)(k:∀ b u,s.heap.get? b=some u->h'.get? b=some u)(new:∀ b o,s.heap.objs.size<=b->N b=some o->ObjOk X.prog X.w (over s.heap.objs.size H N) h' b o) :
 Inv X pins σ (over s.heap.objs.size H N) { s with heap:=h',toks:=t' }:=by
 have lt:∀ b o,H b=some o->b < s.heap.objs.size:=fun b o e=>I.hok.lt e;refine I.un ⟨fun b u q _ _ _=>k b u q,fun b u q _ _ _=>⟨u.slots,k b u q⟩,fun b u q n _=>?_,fun b u q _=>⟨u,k b u q⟩,fun b xs q=>?_,fun b u xs q=>?_,fun b ps q=>⟨#[],?_⟩⟩ fun b o e=>?_
 · rw[over_old (Heap.lt_size q)];exact n
 · rw[over_old (lt _ _ q)];exact q
 · rw[over_old (lt _ _ q)];exact q
 · rw[over_old (lt _ _ q),q];simp
 by_cases hb:b < s.heap.objs.size
 · rw[over_old hb]at e
   exact(I.hok b o e).stay (fun c v _ q=>k c v q) (fun c q=>by rw[over_old (lt _ _ q)];exact q) fun c xs q=>by rw[over_old (lt _ _ q)];exact q
 have hb:=Nat.not_lt.mp hb;rw[over_new hb]at e;exact new b o hb e
end
noncomputable def newIt(l:Addr)(as:List Addr)(kvs:List (Key×V)):Hp:=fun b=>if b=l then some (.lst (as.map V.ref))else((as.zip kvs).find? fun p=>decide (p.1=b)).map fun p=>.tup [kV p.2.1,p.2.2]
theorem newIt_at{l:Addr}{as:List Addr}{kvs:List (Key×V)}(nd:as.Nodup):∀{j:Nat}{a:Addr}{k:Key}{x:V},a≠l->as[j]?=some a->kvs[j]?=some (k,x)->newIt l as kvs a=some (.tup [kV k,x]):=by
 intro j a k x hl h1 h2;unfold newIt;rw[if_neg hl];have key:∀(as:List Addr) (kvs:List (Key×V)) (j:Nat),as.Nodup->as[j]?=some a->kvs[j]?=some (k,x)->((as.zip kvs).find? fun p=>decide (p.1=a))=some (a,(k,x)):=by
  intro as
  induction as with
  | nil=>intro kvs j _ h;simp at h
  | cons b as ih=>
    intro kvs j nd h1 h2;cases kvs with
    | nil=>simp at h2
    | cons p kvs=>
      cases j with
      | zero=>
        simp at h1 h2;subst h1;subst h2;simp
      | succ j=>
        simp at h1 h2;have hm:a∈as:=List.mem_of_getElem? h1;have hne:b≠a:=fun e=>(List.nodup_cons.mp nd).1 (e ▸ hm);rw[List.zip_cons_cons,List.find?_cons_of_neg (by simpa using hne)]
        exact ih kvs j (List.nodup_cons.mp nd).2 h1 h2
 rw[key as kvs j nd h1 h2]
 rfl
theorem newIt_inv{l:Addr}{as:List Addr}{kvs:List (Key×V)}{b:Addr}{o:HO}(hl:as.length=kvs.length)(h:newIt l as kvs b=some o):(b=l/\o=.lst (as.map V.ref)) ∨ ∃(j:Nat) (k:Key) (x:V),as[j]?=some b/\kvs[j]?=some (k,x)/\o=.tup [kV k,x]:=by
 unfold newIt at h;split at h
 · rename_i e
   exact .inl ⟨e,(Option.some.inj h).symm⟩
 obtain⟨p,hp,e⟩:=Option.map_eq_some_iff.mp h;have hm:=List.mem_of_find?_eq_some hp;have hb0:decide (p.1=b)=true:=List.find?_some (p:=fun p:Addr×(Key×V)=>decide (p.1=b)) hp;have hb:=of_decide_eq_true hb0;obtain⟨j,hj⟩:=List.mem_iff_getElem?.mp hm;rw[List.getElem?_zip_eq_some]at hj;exact .inr ⟨j,p.2.1,p.2.2,by rw[← hb];exact hj.1,hj.2,e.symm⟩
theorem kv_get:∀{kvs:List (Key×V)}{vs:List (Key×Value)}{j:Nat}{k:Key}{y:Value},KV kvs vs->vs[j]?=some (k,y) -> ∃ x,kvs[j]?=some (k,x)/\RelV x y
 | _,_,_,_,_,.nil,e=>by simp at e
 | _,_,0,_,_,.cons (a:=a) r _,e=>by
   simp at e;subst e;exact⟨a.2,by rw[List.getElem?_cons_zero];exact congrArg some (Prod.ext r.1 rfl),r.2⟩
 | _,_,j+1,_,_,.cons _ t,e=>by
   obtain⟨x,h1,h2⟩:=kv_get (j:=j) t (by simpa using e)
   exact⟨x,by simpa using h1,h2⟩
theorem kV_rel{k:Key}{v:Value}(h:keyIs k v=true):RelV (kV k) v:=by
 rcases keyIs_shape h with ⟨i,t,rfl,rfl⟩ | ⟨x,t,rfl,rfl⟩
 · exact⟨t,rfl⟩
 exact⟨t,rfl⟩
theorem vals_refs:∀ as:List Addr,Vals (as.map V.ref) (as.map Value.ref)
 | []=>.nil
 | _::as=>.cons rfl (vals_refs as)
section
variable{X:Cx}
theorem call_list_items:CallR X (.type "list") (fun xs H Q=>∃ v d kvs,xs=[.ref v]/\H v=some (ViewO v d)/\H d=some (.dK kvs)/\X.calm=true /\ ∀(l:Addr) (as:List Addr) (H':Hp),Same H H'->H l=none->H' l=some (.lst (as.map V.ref))->as.length=kvs.length ->
 (∀(j:Nat) (a:Addr),as[j]?=some a->H a=none /\ ∃ k x,kvs[j]?=some (k,x)/\H' a=some (.tup [kV k,x]))->Q (.ref l) H'):=by
 intro pins s σ H xs us Q I r h;obtain⟨v,d,kvs,rfl,hv,hd,hc,q⟩:=h;obtain⟨u,rfl,rx⟩:=vals1 r;cases rx;obtain⟨pv,_,_⟩:=(show ObjOk X.prog X.w H s.heap v (ViewO v d)from I.hok v _ hv);obtain⟨z,hsys,vs,rel,dd⟩:=dk_rd I.hok (.inl hd);obtain⟨ep,hat⟩:=dd.dictAt;have lenKV:kvs.length=vs.length:=Paired.length rel;refine W.kdx_call (knd:=mixKind X.prog X.w) (I.ok.hd hc) pv hat (by omega) fun h' tk acc c as hk hS hl hG hacc=>?_
 have hl':as.length=kvs.length:=by omega
 have nd:as.Nodup:=hG.rise.imp fun h=>Nat.ne_of_lt h;have ab:∀ a∈as,s.heap.objs.size < a:=hG.above;have get:∀(j:Nat) (a:Addr),as[j]?=some a -> ∃ key k x y,kvs[j]?=some (k,x)/\keyIs k key=true/\RelV x y/\h'.get? a=some { cls:=.type "tuple",data:=.seq #[key,y] }:=fun j a e=>by
  obtain⟨key,k,y,e1,e2,e3⟩:=hG.pairs j a e;obtain⟨x,h1,h2⟩:=kv_get rel e1;exact⟨key,k,x,y,h1,e2,h2,e3⟩
 have I':=Inv.over (N:=newIt s.heap.objs.size as kvs) (t':=tk) I hk fun b o hb e=>by
  rcases newIt_inv hl' e with ⟨rfl,rfl⟩ | ⟨j,k,x,e1,e2,rfl⟩
  · refine⟨by rw[List.length_map];omega,as.map Value.ref,c,vals_refs as,?_⟩
    have ea:(as.map Value.ref).toArray=acc:=by rw[← hacc]
    rw[ea];exact hS
  obtain⟨key,k',x',y,g1,g2,g3,g4⟩:=get j b e1;rw[e2]at g1;cases g1;exact⟨by show(2:Nat)<=sizeLine;decide,[key,y],.cons (kV_rel g2) (.cons g3 .nil),_,g4,rfl,_,rfl⟩
 have lt:∀ b o,H b=some o->b < s.heap.objs.size:=fun b o e=>I.hok.lt e;refine⟨.ref s.heap.objs.size,_,I',rfl,q s.heap.objs.size as _ (fun b o e=>by rw[over_old (lt b o e)];exact e) (I.hok.fresh (Nat.le_refl _)) ?_ hl' fun j a e=>?_⟩
 · rw[over_new (Nat.le_refl _)]
   exact if_pos rfl
 have ha:=ab a (List.mem_of_getElem? e);obtain⟨key,k,x,y,g1,_⟩:=get j a e;exact⟨I.hok.fresh (Nat.le_of_lt ha),k,x,g1,by rw[over_new (Nat.le_of_lt ha)];exact newIt_at nd (Nat.ne_of_gt ha) e g1⟩
end
section
variable{X:Cx}{o:Expr}{apos cpos:Pos}{td:TE}
noncomputable def tItems(td:TE):TE:=fun σ H Q=>td σ H fun x H1=>∃ a kvs,x=.ref a/\H1 a=some (.dK kvs) /\ ∀ v,H1 v=none->Q (.ref v) (upd H1 v (ViewO v a))
theorem pe_items(ho:PE X o td)(hbase:attributeBase o "items" X.env (eval o X.env)=eval o X.env:=by rfl)
 (hfew:((backTo cpos (starEach [] X.env)).all (fun x=>!x.1) && (backToKw cpos (keywordEach [] X.env)).all (fun x=>x.1.isSome) && decide (([]:List Expr).length+([]:List Keyword).length+(if([]:List Keyword).isEmpty then 0 else 1) < 30))=true:=by rfl)
 (hline:(apos.endLine == cpos.line)=true:=by rfl):PE X (.Call (.Attribute o "items" apos) [] [] cpos) (tItems td):=by
 intro pins s σ H Q I h;refine wpAny_Call_method hbase hfew hline PySem.F.plainAttrs_dict PySem.F.slot_dict_items PySem.F.type_dict_items (thn (ho pins s σ H _ I h) fun u s1 zz=>?_);obtain⟨x,H1,I1,rx,a,kvs,ex,ha,q1⟩:=zz;subst ex;obtain rfl:u=Value.ref a:=rx;obtain⟨t1,t2,_⟩:=isD_at I1 (.inl ⟨kvs,.inl ha⟩);refine⟨t1,t2,?_⟩;obtain⟨z,hsys,vs,rel,dd⟩:=dk_rd I1.hok (.inl ha);have e0:backTo cpos (starEach [] X.env)=[]:=rfl;rw[e0];refine Calls.callWith_builtin rfl (PySem.evalArgs_none ?_);have lay:s1.heap.objs.size<=s1.heap.objs.size:=Nat.le_refl _;refine call_meetsIn PySem.F.slot_dict_items t1 PySem.F.entry_dict_items (PySem.F.args_dict_items_1 _) (meets_dict_items (mixKind X.prog X.w) a hsys) ⟨⟨vs,dd⟩,?_⟩;refine⟨.ref s1.heap.objs.size,upd H1 s1.heap.objs.size (ViewO s1.heap.objs.size a),I1.laid (t':=s1.toks) (fun b u e=>Heap.get?_push_of_some _ e) lay ?_,rfl,q1 _ (I1.hok.fresh lay)⟩;refine⟨⟨_,Heap.get?_push_size _ rfl,rfl,rfl⟩,⟨_,Heap.get?_push_size _ rfl⟩,fun h1 h2 ⟨o1,e1,c1,d1⟩ k=>⟨o1,k o1 e1,c1,d1⟩⟩
namespace B
theorem items(ho:Bx (PE X o td))(hbase:attributeBase o "items" X.env (eval o X.env)=eval o X.env:=by rfl)
 (hfew:((backTo cpos (starEach [] X.env)).all (fun x=>!x.1) && (backToKw cpos (keywordEach [] X.env)).all (fun x=>x.1.isSome) && decide (([]:List Expr).length+([]:List Keyword).length+(if([]:List Keyword).isEmpty then 0 else 1) < 30))=true:=by rfl)
 (hline:(apos.endLine == cpos.line)=true:=by rfl):Bx (PE X (.Call (.Attribute o "items" apos) [] [] cpos) (tItems td)):=⟨pe_items ho.out hbase hfew hline⟩
end B
end
structure Mt(P:Program)(w:World)(K:W.Frag)(mg:Str->Option Value)(base:Heap)(C:Addr)(m:Str)(k:Nat)(ps:List Str)(sp:Sp):Prop where
 ex:∃(f:Addr) (fd:FuncData),FnOk P w K mg base CX0 k f fd ps sp/\Meth K C m f/\Binds K fd ps []
structure Mkr(P:Program)(w:World)(K:W.Frag)(mg:Str->Option Value)(base:Heap)(C:Addr)(x:Str)(k:Nat)(ps:List Str)(sp:Sp):Prop where
 ex:∃(f:Addr) (fd:FuncData),FnOk P w K mg base CX0 k f fd ps sp/\Mk K C f/\mg x=some (.ref C)/\Binds K fd ps []
namespace B
section
variable{X:Cx}{x m f:Str}{p pos apos cpos tpos pos':Pos}{e o i value:Expr}{es:List Expr}{t:TA}{ta te ti tv td ty tx:TE}{k:Nat}{ps:List Str}{sp:Sp}{C:Addr}
theorem never{st:Stmt}:Bx (PS X st tNever):=⟨ps_never⟩
theorem gref{a:Addr}(h:X.mg x=some (.ref a))(hg:Gl X x:=by rfl)(hd:(x == ("__debug__":Str))=false:=by decide):Bx (PE X (.Name x pos) (tC (.ref a))):=⟨pe_glob hg h rfl hd⟩
theorem fld(he:Bx (PE X e ta))(hb:attributeBase e f X.env (eval e X.env)=eval e X.env:=by rfl):Bx (PE X (.Attribute e f pos) (tFld X.K ta f)):=⟨pe_fld he.out hb⟩
theorem sfld(ha:Bx (PE X o ta))(hv:Bx (PE X value tv))(hs:swapsWith value (some (.Attribute o f pos')) pos.line X.env=pure false:=by rfl):Bx (PS X (.Assign [.Attribute o f pos'] value pos) (sFld X.K ta tv f)):=⟨ps_fld ha.out hv.out hs⟩
theorem faug{op:Operator}{rd:V->V->Hp->VK->Prop}(hop:InOp X op rd)(ha:Bx (PE X o ta))(hv:Bx (PE X value tv)):Bx (PS X (.AugAssign (.Attribute o f tpos) op value pos) (sFldAug X.K ta tv rd f)):=⟨ps_fldaug ha.out hv.out hop⟩
theorem dnew:Bx (PE X (.Dict [] [] pos) tDNewK):=⟨pe_dnewK⟩
theorem dput(hu:X.A.units+1 < cLine)(ho:Bx (PE X o td))(hi:Bx (PE X i ty))(hv:Bx (PE X value tv))(hs:swapsWith value (some (.Subscript o i pos')) pos.line X.env=pure false:=by rfl):Bx (PS X (.Assign [.Subscript o i pos'] value pos) (sDPut td ty tv)):=⟨ps_dput hu ho.out hi.out hv.out hs⟩
theorem m1{m:Str}(base:attributeBase o m X.env (eval o X.env)=eval o X.env:=by rfl)(h:plainE e=true:=by rfl)(line:(apos.endLine == cpos.line)=true:=by rfl):M1 X o m apos e cpos:=by
 have t:backTo cpos (starEach [e] X.env)=[(false,eval e X.env)]:=by rw[star_of h];rfl
 exact⟨base,by rw[t];rfl,line,t⟩
theorem dget1(hu:X.A.units+1 < cLine)(ho:Bx (PE X o td))(he:Bx (PE X e ty))(m:M1 X o "get" apos e cpos:=by exact m1):Bx (PE X (.Call (.Attribute o "get" apos) [e] [] cpos) (tDGet1 td ty)):=⟨pe_dget1 hu ho.out he.out m⟩
theorem meth(he:Bx (PE X o ta))(c:Cls X.K C)(M:Mt X.prog X.w X.K X.mg X.base C m k ps sp)(hr:Room k X.A)(ha:Bx (PA X (e::es) t))(h1:plainE e=true:=by rfl)(h2:es.all plainE=true:=by rfl)
 {pl:Sem Bool} (ht':eval (.Call (.Attribute o m apos) (e::es) [] pos) X.env=(do
  let ov ← eval o X.env
  standAt apos.atName
  let(f,first) ← holding [ov] (getMethod ov m pl)
  callWith pos f first (backTo pos (starEach (e::es) X.env)) (backToKw pos (keywordEach [] X.env))):=by rfl) :
 Bx (PE X (.Call (.Attribute o m apos) (e::es) [] pos) (tMeth C m sp [] E0 ta t)):=by
 obtain⟨f,fd,G,hm,b⟩:=M.ex;exact⟨pe_meth he.out c hm G hr b .nil pass0 ha.out (star_of h1) (star_any h2) ht'⟩
theorem make(M:Mkr X.prog X.w X.K X.mg X.base C x k ps sp)(hr:Room (k+1) X.A)(ha:Bx (PA X (e::es) t))(hg:Gl X x:=by rfl)(hdb:(x == ("__debug__":Str))=false:=by decide)(h1:plainE e=true:=by rfl)(h2:es.all plainE=true:=by rfl) :
 Bx (PE X (.Call (.Name x p) (e::es) [] pos) (tMake C sp [] E0 t)):=by
 obtain⟨f,fd,G,M,hm,b⟩:=M.ex;exact⟨pe_make M G hr hg hm b .nil pass0 ha.out hdb (star_of h1) (star_any h2)⟩
end
end B
theorem b_list:bootBuiltins "list"=some (.type "list"):=by decide +kernel
namespace B
theorem meth0{X:Cx}{m:Str}{apos pos:Pos}{o:Expr}{ta:TE}{k:Nat}{ps:List Str}{sp:Sp}{C:Addr}(he:Bx (PE X o ta))(c:Cls X.K C)(M:Mt X.prog X.w X.K X.mg X.base C m k ps sp)(hr:Room k X.A){pl:Sem Bool}
 (ht':eval (.Call (.Attribute o m apos) [] [] pos) X.env=(do
  let ov ← eval o X.env
  standAt apos.atName
  let(f,first) ← holding [ov] (getMethod ov m pl)
  callWith pos f first (backTo pos (starEach [] X.env)) (backToKw pos (keywordEach [] X.env))):=by rfl) :
 Bx (PE X (.Call (.Attribute o m apos) [] [] pos) (tMeth C m sp [] E0 ta tNil)):=by
 obtain⟨f,fd,G,hm,b⟩:=M.ex;exact⟨pe_meth0 he.out c hm G hr b .nil pass0 ht'⟩
end B
structure Dm(K:W.Frag)(C:Addr)(m qual:Str)(st:Stmt)(ps:List Str):Prop where
 ex:∃(f:Addr) (fd:FuncData),Fun K m qual st f fd/\Meth K C m f/\Binds K fd ps []
theorem Dm.mt{P:Program}{w:World}{K:W.Frag}{mg:Str->Option Value}{base:Heap}{C:Addr}{m qual:Str}{st:Stmt}{N ps:List Str}{k:Nat}{sp:Sp}(d:Dm K C m qual st ps)(S:FnScope N ps (defScope st))(len:∀ vs H Q E,sp vs H Q E->vs.length=ps.length)
 (hb:∀(f:Addr) (cdv:Value) (A:Around) (outer:List Env) (s:Shared) (H:Hp) (vs:List V) (Q:VK) (E:XK),Room k (A.deeper (envOfC qual (defScope st) s.heap.objs.size f cdv))->sp vs H Q E ->
  ∃ t,Bx (PSs (cxOf CX0 P w K mg base N qual (defScope st) f cdv A outer s H E).nox (defBody st) t)/\t { nx:=fun _ H'=>Q .non H',rt:=Q } (start N vs) H):Mt P w K mg base C m (k+1) ps sp:=by
 obtain⟨f,fd,F,hm,hb'⟩:=d.ex;exact⟨f,fd,F.ok S len (fun cdv A outer s H vs Q E hr h=>let⟨t,h1,h2⟩:=hb f cdv A outer s H vs Q E hr h;⟨t,h1.out,h2⟩),hm,hb'⟩
structure Dk(K:W.Frag)(mg:Str->Option Value)(C:Addr)(x qual:Str)(st:Stmt)(ps:List Str):Prop where
 ex:∃(f:Addr) (fd:FuncData),Fun K "__init__" qual st f fd/\Mk K C f/\mg x=some (.ref C)/\Binds K fd ps []
theorem Dk.mk'{P:Program}{w:World}{K:W.Frag}{mg:Str->Option Value}{base:Heap}{C:Addr}{x qual:Str}{st:Stmt}{N ps:List Str}{k:Nat}{sp:Sp}(d:Dk K mg C x qual st ps)(S:FnScope N ps (defScope st))(len:∀ vs H Q E,sp vs H Q E->vs.length=ps.length)
 (hb:∀(f:Addr) (cdv:Value) (A:Around) (outer:List Env) (s:Shared) (H:Hp) (vs:List V) (Q:VK) (E:XK),Room k (A.deeper (envOfC qual (defScope st) s.heap.objs.size f cdv))->sp vs H Q E ->
  ∃ t,Bx (PSs (cxOf CX0 P w K mg base N qual (defScope st) f cdv A outer s H E).nox (defBody st) t)/\t { nx:=fun _ H'=>Q .non H',rt:=Q } (start N vs) H):Mkr P w K mg base C x (k+1) ps sp:=by
 obtain⟨f,fd,F,hm,hg,hb'⟩:=d.ex;exact⟨f,fd,F.ok S len (fun cdv A outer s H vs Q E hr h=>let⟨t,h1,h2⟩:=hb f cdv A outer s H vs Q E hr h;⟨t,h1.out,h2⟩),hm,hg,hb'⟩
noncomputable abbrev MRow:=List (Int×Int)
noncomputable def kvs(r:MRow):List (Key×V):=r.map fun p=>((Sum.inl p.1:Key),V.int p.2)
noncomputable def rLook(r:MRow)(k:Int):Option Int:=(r.find? fun p=>decide (p.1=k)).map (·.2)
noncomputable def rPut(r:MRow)(k v:Int):MRow:=if(rLook r k).isSome=true then r.map (fun p=>if p.1=k then(p.1,v)else p)else r++[(k,v)]
noncomputable def oV:Option Int->V
 | none=>.non
 | some i=>.int i
noncomputable abbrev ROk(r:MRow):Prop:=(r.map (·.1)).Nodup
theorem rLook_pos{p:Int×Int}{r:MRow}{k:Int}(e:p.1=k):rLook (p::r) k=some p.2:=by simp[rLook,List.find?_cons,e]
theorem rLook_neg{p:Int×Int}{r:MRow}{k:Int}(e:¬ p.1=k):rLook (p::r) k=rLook r k:=by simp[rLook,List.find?_cons,e]
theorem inlE{a b:Int}:((Sum.inl a:Key)=Sum.inl b) ↔ a=b:=⟨Sum.inl.inj,congrArg _⟩
theorem valV_kvs(k:Int):∀ r:MRow,valV (kvs r) (Sum.inl k:Key)=(rLook r k).map V.int
 | []=>rfl
 | p::r=>by
   show valV (((Sum.inl p.1:Key),V.int p.2)::kvs r) (Sum.inl k:Key)=_;by_cases e:p.1=k
   · rw[rLook_pos e,valV_pos (inlE.mpr e)];rfl
   rw[rLook_neg e,valV_neg (fun z=>e (inlE.mp z)),valV_kvs k r]
theorem kvs_any(r:MRow)(k:Int):((kvs r).any fun kv=>decide (kv.1=(Sum.inl k:Key)))=(rLook r k).isSome:=by
 rw[valV_any,valV_kvs];cases rLook r k <;> rfl
theorem putK_kvs(r:MRow)(k v:Int):putK (kvs r) (Sum.inl k:Key) (V.int v)=kvs (rPut r k v):=by
 unfold putK rPut;rw[kvs_any];split
 · unfold kvs
   rw[List.map_map,List.map_map];refine List.map_congr_left fun p _=>?_;show(if(Sum.inl p.1:Key)=Sum.inl k then _ else _)=_;by_cases e:p.1=k
   · rw[if_pos (inlE.mpr e)]
     show _=((Sum.inl (if p.1=k then(p.1,v)else p).1:Key),V.int (if p.1=k then(p.1,v)else p).2);rw[if_pos e]
   rw[if_neg (fun z=>e (inlE.mp z))];show _=((Sum.inl (if p.1=k then(p.1,v)else p).1:Key),V.int (if p.1=k then(p.1,v)else p).2);rw[if_neg e]
 unfold kvs;rw[List.map_append]
 rfl
theorem kvs_len(r:MRow):(kvs r).length=r.length:=List.length_map ..
theorem rLook_none_iff(k:Int):∀{r:MRow},rLook r k=none ↔ ¬ k∈r.map (·.1)
 | []=>by simp[rLook]
 | p::r=>by
   rw[List.map_cons,List.mem_cons];by_cases e:p.1=k
   · rw[rLook_pos e];simp[e]
   rw[rLook_neg e,rLook_none_iff k]
   constructor
   · intro h z
     rcases z with z | z
     · exact e z.symm
     exact h z
   intro h z;exact h (.inr z)
theorem keys_put_old{r:MRow}{k v:Int}(h:(rLook r k).isSome=true):(rPut r k v).map (·.1)=r.map (·.1):=by
 unfold rPut;rw[if_pos h,List.map_map];refine List.map_congr_left fun p _=>?_;show(if p.1=k then(p.1,v)else p).1=p.1;split <;> rfl
theorem rPut_new{r:MRow}{k v:Int}(h:rLook r k=none):rPut r k v=r++[(k,v)]:=by
 unfold rPut;rw[h]
 rfl
theorem rPut_ok{r:MRow}{k v:Int}(h:ROk r):ROk (rPut r k v):=by
 cases e:rLook r k with
 | some x=>rw[ROk,keys_put_old (by rw[e];rfl)];exact h
 | none=>
   rw[ROk,rPut_new e,List.map_append];exact nd_snoc h ((rLook_none_iff k).mp e)
theorem rPut_len{r:MRow}{k v:Int}:(rPut r k v).length=r.length+(if rLook r k=none then 1 else 0):=by
 cases e:rLook r k with
 | some x=>
   unfold rPut;rw[e];simp
 | none=>rw[rPut_new e];simp
noncomputable abbrev MRows:=List MRow
noncomputable def plc(f m:Int)(n:Nat)(k:Int):Nat:=((k*f+m) % 65536 % (n:Int)).toNat
theorem plc_int{f m:Int}{n:Nat}{k:Int}(h:0 < n):((plc f m n k:Nat):Int)=(k*f+m) % 65536 % (n:Int):=by
 unfold plc;rw[Int.toNat_of_nonneg (Int.emod_nonneg _ (by omega))]
theorem plc_lt{f m:Int}{n:Nat}{k:Int}(h:0 < n):plc f m n k < n:=by
 have e:=plc_int (f:=f) (m:=m) (k:=k) h;have:=Int.emod_lt_of_pos ((k*f+m) % 65536) (show(0:Int) < n by omega)
 omega
noncomputable def tot(R:MRows):Nat:=(R.map List.length).sum
noncomputable def sRow(f m:Int)(R:MRows)(k:Int):MRow:=R.getD (plc f m R.length k) []
noncomputable def sLook(f m:Int)(R:MRows)(k:Int):Option Int:=rLook (sRow f m R k) k
noncomputable def sPut(f m:Int)(R:MRows)(k v:Int):MRows:=R.set (plc f m R.length k) (rPut (sRow f m R k) k v)
theorem getD_get{R:MRows}{i:Nat}(h:i < R.length):R[i]?=some (R.getD i []):=by
 rw[List.getD_eq_getElem?_getD,List.getElem?_eq_getElem h]
 rfl
theorem tot_set:∀(R:MRows) (i:Nat) (r:MRow),i < R.length->tot (R.set i r)+(R.getD i []).length=tot R+r.length
 | [],i,r,h=>absurd h (Nat.not_lt_zero _)
 | a::R,0,r,_=>by
   show r.length+(R.map List.length).sum+a.length=a.length+(R.map List.length).sum+r.length;omega
 | a::R,i+1,r,h=>by
   have ih:=tot_set R i r (Nat.lt_of_succ_lt_succ h);have e:(a::R).getD (i+1) []=R.getD i []:=by simp
   rw[e];show a.length+tot (R.set i r)+_=a.length+tot R+r.length;omega
theorem len_le_tot:∀(R:MRows) (i:Nat),(R.getD i []).length<=tot R
 | [],i=>by simp
 | a::R,0=>by
   show a.length<=a.length+(R.map List.length).sum;omega
 | a::R,i+1=>by
   have ih:=len_le_tot R i;have e:(a::R).getD (i+1) []=R.getD i []:=by simp
   rw[e];show _<=a.length+tot R;omega
theorem tot_rep(n:Nat):tot (List.replicate n [])=0:=by
 unfold tot;rw[List.map_replicate];show(List.replicate n 0).sum=0;simp
theorem sPut_len{f m:Int}{R:MRows}{k v:Int}:(sPut f m R k v).length=R.length:=List.length_set ..
theorem sPut_tot{f m:Int}{R:MRows}{k v:Int}(h:0 < R.length):tot (sPut f m R k v)=tot R+(if sLook f m R k=none then 1 else 0):=by
 have:=tot_set R _ (rPut (sRow f m R k) k v) (plc_lt (f:=f) (m:=m) (k:=k) h);rw[rPut_len]at this;unfold sPut sLook;unfold sRow at *;omega
theorem set_ok{R:MRows}{i:Nat}{r:MRow}(ok:∀ r∈R,ROk r)(h:ROk r):∀ q∈R.set i r,ROk q:=fun q hq=>by
 rcases List.mem_or_eq_of_mem_set hq with z | z
 · exact ok q z
 rw[z];exact h
noncomputable def sfl(t L:Addr)(z:Int):List (Str×V):=[("mixer",.ref t),("rows",.ref L),("held",.int z)]
theorem n_mr:¬ (("mixer":Str)="rows"):=by decide +kernel
theorem n_mh:¬ (("mixer":Str)="held"):=by decide +kernel
theorem n_rh:¬ (("rows":Str)="held"):=by decide +kernel
theorem sfl_mk(t L:Addr)(z:Int):putF "held" (.int z) (putF "rows" (.ref L) (putF "mixer" (.ref t) []))=sfl t L z:=by
 show putF "held" (.int z) (if("mixer":Str)="rows" then _ else _)=_;rw[if_neg n_mr];show(if("mixer":Str)="held" then _ else _)=_;rw[if_neg n_mh];show _::(if("rows":Str)="held" then _ else _)=_;rw[if_neg n_rh]
 rfl
theorem sfl_mixer(t L:Addr)(z:Int):(sfl t L z).lookup ("mixer":Str)=some (.ref t):=by rw[← sfl_mk,lookup_putF,if_neg n_mh,lookup_putF,if_neg n_mr,lookup_putF,if_pos rfl]
theorem sfl_rows(t L:Addr)(z:Int):(sfl t L z).lookup ("rows":Str)=some (.ref L):=by rw[← sfl_mk,lookup_putF,if_neg n_rh,lookup_putF,if_pos rfl]
theorem sfl_held(t L:Addr)(z:Int):(sfl t L z).lookup ("held":Str)=some (.int z):=by rw[← sfl_mk,lookup_putF,if_pos rfl]
theorem sfl_put(t L:Addr)(z y:Int):putF "held" (.int y) (sfl t L z)=sfl t L y:=by
 show(if("mixer":Str)="held" then _ else _)=_;rw[if_neg n_mh];show _::(if("rows":Str)="held" then _ else _)=_;rw[if_neg n_rh];show _::_::(if("held":Str)="held" then _ else _)=_;rw[if_pos rfl]
 rfl
structure NoS(x:Str):Prop where
 n1:¬ x="mixer"
 n2:¬ x="rows"
 n3:¬ x="held"
theorem sfl_no(t L:Addr)(z:Int){x:Str}(h:NoS x):(sfl t L z).lookup x=none:=by
 rw[← sfl_mk,lookup_putF,if_neg h.n3,lookup_putF,if_neg h.n2,lookup_putF,if_neg h.n1]
 rfl
structure ShX(C:Addr)(H:Hp)(p:Addr)(f m:Int)(R:MRows)(t L:Addr)(ds:List Addr):Prop where
 ob:∃ dx,H p=some (.ins C dx (sfl t L (tot R)))
 mx:H t=some (.tup [.int f,.int m])
 bm:0<=f/\f<=65535
 rw:H L=some (.lst (ds.map V.ref))
 len:ds.length=R.length
 nd:ds.Nodup
 at_:∀(i:Nat) (d:Addr) (r:MRow),ds[i]?=some d->R[i]?=some r->H d=some (.dK (kvs r))
 ok:∀ r∈R,ROk r
 pos:0 < R.length
 top:R.length<=8192
noncomputable def Sh(C:Addr)(H:Hp)(p:Addr)(f m:Int)(R:MRows)(F:Addr->Prop):Prop:=∃ t L ds,ShX C H p f m R t L ds /\ ∀ b,F b ↔ (b=p∨b=L∨b∈ds)
noncomputable def Fr(F:Addr->Prop)(H H':Hp):Prop:=∀ b o,¬ F b->H b=some o->H' b=some o
theorem Fr.refl(F:Addr->Prop)(H:Hp):Fr F H H:=fun _ _ _ h=>h
theorem Fr.trans{F:Addr->Prop}{H H1 H2:Hp}(a:Fr F H H1)(b:Fr F H1 H2):Fr F H H2:=fun c o n h=>b c o n (a c o n h)
theorem Sh.live{C:Addr}{H:Hp}{p:Addr}{f m:Int}{R:MRows}{F:Addr->Prop}(S:Sh C H p f m R F){b:Addr}(h:F b):∃ o,H b=some o /\ ∀ xs,o ≠ .tup xs:=by
 obtain⟨t,L,ds,S,hF⟩:=S;rcases(hF b).mp h with rfl | rfl | h
 · obtain⟨dx,e⟩:=S.ob
   exact⟨_,e,fun xs z=>by cases z⟩
 · exact⟨_,S.rw,fun xs z=>by cases z⟩
 obtain⟨i,e⟩:=List.mem_iff_getElem?.mp h;have hi:i < R.length:=by
  rw[← S.len];exact(List.getElem?_eq_some_iff.mp e).1
 exact⟨_,S.at_ i b _ e (List.getElem?_eq_getElem hi),fun xs z=>by cases z⟩
theorem Sh.keep{C:Addr}{H H':Hp}{p:Addr}{f m:Int}{R:MRows}{F G:Addr->Prop}(S:Sh C H p f m R F)(k:Fr G H H')(d:∀ b,F b -> ¬ G b)(dt:∀ b xs,H b=some (.tup xs) -> ¬ G b):Sh C H' p f m R F:=by
 obtain⟨t,L,ds,S,hF⟩:=S;have hp:¬ G p:=d p ((hF p).mpr (.inl rfl));have hL:¬ G L:=d L ((hF L).mpr (.inr (.inl rfl)));refine⟨t,L,ds,⟨?_,k _ _ (dt _ _ S.mx) S.mx,S.bm,k _ _ hL S.rw,S.len,S.nd,fun i x r e1 e2=>k _ _ (d x ((hF x).mpr (.inr (.inr (List.mem_of_getElem? e1))))) (S.at_ i x r e1 e2),S.ok,S.pos,S.top⟩,hF⟩;obtain⟨dx,e⟩:=S.ob;exact⟨dx,k _ _ hp e⟩
theorem Sh.same{C:Addr}{H H':Hp}{p:Addr}{f m:Int}{R:MRows}{F:Addr->Prop}(S:Sh C H p f m R F)(k:Same H H'):Sh C H' p f m R F:=
 S.keep (G:=fun _=>False) (fun b o _ e=>k b o e) (fun _ _ z=>z) fun _ _ _ z=>z
theorem Sh.pos{C:Addr}{H:Hp}{p:Addr}{f m:Int}{R:MRows}{F:Addr->Prop}(S:Sh C H p f m R F):0 < R.length:=by
 obtain⟨t,L,ds,S,hF⟩:=S;exact S.pos
theorem Sh.top{C:Addr}{H:Hp}{p:Addr}{f m:Int}{R:MRows}{F:Addr->Prop}(S:Sh C H p f m R F):R.length<=8192:=by
 obtain⟨t,L,ds,S,hF⟩:=S;exact S.top
noncomputable def PrV(H:Hp)(v:V)(p:Int×Int):Prop:=∃ a,v=.ref a/\H a=some (.tup [.int p.1,.int p.2])
noncomputable abbrev Prs(H:Hp)(xs:List V)(r:MRow):Prop:=Paired (PrV H) xs r
theorem PrV.keep{H H':Hp}{v:V}{p:Int×Int}(h:PrV H v p)(k:∀ a xs,H a=some (.tup xs)->H' a=some (.tup xs)):PrV H' v p:=by
 obtain⟨a,e,h⟩:=h;exact⟨a,e,k a _ h⟩
theorem Prs.keep{H H':Hp}{xs:List V}{r:MRow}(h:Prs H xs r)(k:∀ a xs,H a=some (.tup xs)->H' a=some (.tup xs)):Prs H' xs r:=Paired.mapP h fun _ _ z=>z.keep k
noncomputable def spSPlace(C:Addr):Sp:=fun vs H Q _=>∃(p:Addr) (k f m:Int) (R:MRows) (F:Addr->Prop),vs=[.ref p,.int k]/\Sh C H p f m R F/\Q (.int (plc f m R.length k)) H
noncomputable def spSRowW(C:Addr):Sp:=fun vs H Q _=>∃(p:Addr) (k f m:Int) (R:MRows) (t L:Addr) (ds:List Addr),vs=[.ref p,.int k]/\ShX C H p f m R t L ds /\ ∀ d,ds[plc f m R.length k]?=some d->Q (.ref d) H
noncomputable def spSPut(C:Addr):Sp:=fun vs H Q _=>∃(p:Addr) (k v f m:Int) (R:MRows) (F:Addr->Prop),vs=[.ref p,.int k,.int v]/\Sh C H p f m R F/\tot R<=100000 /\ ∀ H',Sh C H' p f m (sPut f m R k v) F->Fr F H H'->Q (oV (sLook f m R k)) H'
noncomputable def spSSize(C:Addr):Sp:=fun vs H Q _=>∃(p:Addr) (f m:Int) (R:MRows) (F:Addr->Prop),vs=[.ref p]/\Sh C H p f m R F/\Q (.int R.length) H
noncomputable def spSCheck(C:Addr):Sp:=fun vs H Q _=>∃(p:Addr) (i f m:Int) (R:MRows) (F:Addr->Prop),vs=[.ref p,.int i]/\Sh C H p f m R F/\0<=i/\i < R.length/\Q .non H
noncomputable def spSRow(C:Addr):Sp:=fun vs H Q _=>∃(p:Addr) (i:Nat) (f m:Int) (R:MRows) (F:Addr->Prop),vs=[.ref p,.int i]/\Sh C H p f m R F/\i < R.length /\ ∀ l xs H',Same H H'->H l=none->H' l=some (.lst xs)->Prs H' xs (R.getD i [])->Q (.ref l) H'
noncomputable def isSize(n:Nat):Prop:=n∈[4,8,16,32,64,128,256,512,1024,2048,4096]
noncomputable def spSInit(C:Addr):Sp:=fun vs H Q _=>∃(x t dx:Addr) (n:Nat) (f m:Int),vs=[.ref x,.int n,.ref t]/\H x=some (.ins C dx [])/\H t=some (.tup [.int f,.int m])/\(0<=f/\f<=65535)/\isSize n /\
 ∀ H' F,Sh C H' x f m (List.replicate n []) F->(∀ b,F b->b=x∨H b=none)->(∀ b o,b≠x->H b=some o->H' b=some o)->Q .non H'
section
variable{D:Ends}{σ:L2.St}{H:Hp}{Q:VK}{v:V}{K:W.Frag}{C:Addr}{E:XK}
theorem wFld{ta:TE}{f:Str}(h:ta σ H fun x H1=>∃ a C dx fs v,x=.ref a/\H1 a=some (.ins C dx fs)/\Cls K C/\NoAttr K C f/\fs.lookup f=some v/\Q v H1):tFld K ta f σ H Q:=h
theorem wSFld{ta tv:TE}{f:Str}(h:tv σ H fun y H1=>ta σ H1 fun x H2=>∃ a C dx fs,x=.ref a/\H2 a=some (.ins C dx fs)/\Cls K C/\NoAttr K C f/\fs.length < 1000/\D.nx σ (upd H2 a (.ins C dx (putF f y fs)))):sFld K ta tv f D σ H:=h
theorem wMeth{m:Str}{sp:Sp}{ta:TE}{t:TA}(h:ta σ H fun x H1=>∃ a dx fs,x=.ref a/\H1 a=some (.ins C dx fs)/\fs.lookup m=none/\t σ H1 fun vs H2=>sp (x::(vs++[])) H2 Q E):tMeth C m sp [] E ta t σ H Q:=h
theorem wMake{sp:Sp}{t:TA}(h:t σ H fun vs H1=>∀ x dx,H1 x=none->H1 dx=none->dx≠x->sp (.ref x::(vs++[])) (upd (upd H1 dx (.own x)) x (.ins C dx [])) (fun v H2=>v=.non/\Q (.ref x) H2) E):tMake C sp [] E t σ H Q:=h
theorem wS{p:Addr}{f m:Int}{R:MRows}{F:Addr->Prop}{x:Str}{P:Prop}(S:Sh C H p f m R F)(hn:NoS x)(h:P):∃ a dx fs,V.ref p=.ref a/\H a=some (.ins C dx fs)/\fs.lookup x=none/\P:=by
 obtain⟨t,L,ds,S,_⟩:=S;obtain⟨dx,e⟩:=S.ob;exact⟨p,dx,_,rfl,e,sfl_no _ _ _ hn,h⟩
theorem wSPlace{p:Addr}{k f m:Int}{R:MRows}{F:Addr->Prop}(S:Sh C H p f m R F)(q:Q (.int (plc f m R.length k)) H):spSPlace C (V.ref p::([V.int k]++[])) H Q E:=⟨p,k,f,m,R,F,rfl,S,q⟩
theorem wSPut{p:Addr}{k y f m:Int}{R:MRows}{F:Addr->Prop}(S:Sh C H p f m R F)(hl:tot R<=100000)(q:∀ H',Sh C H' p f m (sPut f m R k y) F->Fr F H H'->Q (oV (sLook f m R k)) H'):spSPut C (V.ref p::([V.int k,V.int y]++[])) H Q E:=⟨p,k,y,f,m,R,F,rfl,S,hl,q⟩
theorem wSSize{p:Addr}{f m:Int}{R:MRows}{F:Addr->Prop}(S:Sh C H p f m R F)(q:Q (.int R.length) H):spSSize C (V.ref p::([]++[])) H Q E:=⟨p,f,m,R,F,rfl,S,q⟩
theorem wSRow{p:Addr}{i:Int}{f m:Int}{R:MRows}{F:Addr->Prop}(S:Sh C H p f m R F)(i0:0<=i)(hi:i < R.length)(q:∀ l xs H',Same H H'->H l=none->H' l=some (.lst xs)->Prs H' xs (R.getD i.toNat [])->Q (.ref l) H'):spSRow C (V.ref p::([V.int i]++[])) H Q E:=
 ⟨p,i.toNat,f,m,R,F,by rw[Int.toNat_of_nonneg i0];rfl,S,by omega,q⟩
theorem wShelf{Qf:Addr->Hp->Prop}{t:Addr}{n:Int}{f m:Int}(ht:H t=some (.tup [.int f,.int m]))(bf:0<=f/\f<=65535)(n0:0<=n)(hn:isSize n.toNat)
 (q:∀ p H' F,Sh C H' p f m (List.replicate n.toNat []) F->(∀ b,F b->H b=none)->Same H H'->Qf p H') :
 ∀ x dx,H x=none->H dx=none->dx≠x->spSInit C (V.ref x::([V.int n,V.ref t]++[])) (upd (upd H dx (.own x)) x (.ins C dx [])) (fun v H2=>v=.non/\Qf x H2) E:=fun x dx hx hdx hne=>by
 have s0:Same H (upd (upd H dx (.own x)) x (.ins C dx [])):=(Same.new hdx).trans (Same.new (by rw[upd_ne hne.symm];exact hx))
 refine⟨x,t,dx,n.toNat,f,m,by rw[Int.toNat_of_nonneg n0];rfl,upd_same,s0 _ _ ht,bf,hn,fun H' F S g k=>⟨rfl,q x H' F S (fun b hb=>?_) fun b o e=>k b o (ne_of_none e hx) (s0 b o e)⟩⟩
 rcases g b hb with rfl | z
 · exact hx
 exact s0.free z
end
noncomputable def CN(Pv:Nat->L2.St->Hp->Prop)(n i:Nat)(D:Addr)(σ:L2.St)(y:V)(H4:Hp):Prop:=∃ ys,H4 D=some (.lst ys)/\ys.length < sizeLine /\ ∃ m',m' < n - i/\(m'=n - (i+1)/\i+1<=n/\Pv (i+1) σ (upd H4 D (.lst (ys++[y]))))
noncomputable def CO(Pv:Nat->L2.St->Hp->Prop)(n i:Nat)(σ:L2.St)(H3:Hp):Prop:=∃ m',m' < n - i/\(m'=n - (i+1)/\i+1<=n/\Pv (i+1) σ H3)
theorem CN.mk{Pv:Nat->L2.St->Hp->Prop}{n i:Nat}{D:Addr}{σ:L2.St}{y:V}{H4:Hp}{ys:List V}(hi:i < n)(hD:H4 D=some (.lst ys))(hl:ys.length < sizeLine)(h:Pv (i+1) σ (upd H4 D (.lst (ys++[y])))):CN Pv n i D σ y H4:=
 ⟨ys,hD,hl,n - (i+1),by omega,rfl,hi,h⟩
theorem CO.mk{Pv:Nat->L2.St->Hp->Prop}{n i:Nat}{σ:L2.St}{H3:Hp}(hi:i < n)(h:Pv (i+1) σ H3):CO Pv n i σ H3:=⟨n - (i+1),by omega,rfl,hi,h⟩
section
variable{K:W.Frag}{n:Nat}{lo:Int}{a D:Addr}{xs:List V}{σ0:L2.St}{H1:Hp}{Q:VK}{tt:TT}{te:TE}
theorem comp_range{Qf:Hp->Prop}(Pv:Nat->L2.St->Hp->Prop)(h0:Pv 0 σ0 H1)
 (step:∀ i σ' H',i < n->Pv i σ' H'->tt (σ'.set 0 (some (.int (lo+i)))) H' fun ok H3=>if ok=true then te (σ'.set 0 (some (.int (lo+i)))) H3 (fun y H4=>CN Pv n i D (σ'.set 0 (some (.int (lo+i)))) y H4)else CO Pv n i (σ'.set 0 (some (.int (lo+i)))) H3)
 (fin:∀ σ H,Pv n σ H->Qf H) :
 ∃ W:Nat->Nat->L2.St->Hp->Prop,(∃ m,W 0 m σ0 H1) /\ ∀ i m σ' H',W i m σ' H'->((Itr lo n).stop i H'/\Qf H')∨((Itr lo n).go i H' /\ ∀ x H2,(Itr lo n).yld i H' x H2->tt (σ'.set 0 (some x)) H2 fun ok H3=>
   if ok=true then te (σ'.set 0 (some x)) H3 fun y H4=>∃ ys,H4 D=some (.lst ys)/\ys.length < sizeLine /\ ∃ m',m' < m/\W (i+1) m' (σ'.set 0 (some x)) (upd H4 D (.lst (ys++[y])))
   else ∃ m',m' < m/\W (i+1) m' (σ'.set 0 (some x)) H3):=by
 refine⟨fun i m σ H=>m=n - i/\i<=n/\Pv i σ H,⟨n,by omega,Nat.zero_le _,h0⟩,?_⟩
 rintro i m σ' H' ⟨rfl,hi,p⟩;by_cases hlt:i < n
 · refine .inr ⟨hlt,fun x H2 y=>?_⟩
   obtain⟨rfl,rfl⟩:=y;exact step i σ' _ hlt p
 have e:i=n:=by omega
 subst e;exact .inl ⟨Nat.le_refl _,fin _ _ p⟩
theorem comp_rangeU{Qf:Hp->Prop}(Pv:Nat->L2.St->Hp->Prop)(h0:Pv 0 σ0 H1)
 (step:∀ i σ' H',i < n->Pv i σ' H'->te (σ'.set 0 (some (.int (lo+i)))) H' (fun y H4=>CN Pv n i D (σ'.set 0 (some (.int (lo+i)))) y H4))
 (fin:∀ σ H,Pv n σ H->Qf H) :
 ∃ W:Nat->Nat->L2.St->Hp->Prop,(∃ m,W 0 m σ0 H1) /\ ∀ i m σ' H',W i m σ' H'->((Itr lo n).stop i H'/\Qf H')∨((Itr lo n).go i H' /\ ∀ x H2,(Itr lo n).yld i H' x H2 ->
   if true=true then te (σ'.set 0 (some x)) H2 fun y H4=>∃ ys,H4 D=some (.lst ys)/\ys.length < sizeLine /\ ∃ m',m' < m/\W (i+1) m' (σ'.set 0 (some x)) (upd H4 D (.lst (ys++[y])))
   else ∃ m',m' < m/\W (i+1) m' (σ'.set 0 (some x)) H2):=
 comp_range (tt:=fun _ H Q=>Q true H) Pv h0 (fun i σ' H' hi p=>iteT (step i σ' H' hi p)) fin
theorem comp_list{Qf:Hp->Prop}(Pv:Nat->L2.St->Hp->Prop)(h0:Pv 0 σ0 H1)(hl:∀ i σ H,i<=xs.length->Pv i σ H->SqL K H a xs)
 (step:∀ i x σ' H',xs[i]?=some x->i < xs.length->Pv i σ' H'->tt (σ'.set 0 (some x)) H' fun ok H3=>if ok=true then te (σ'.set 0 (some x)) H3 (fun y H4=>CN Pv xs.length i D (σ'.set 0 (some x)) y H4)else CO Pv xs.length i (σ'.set 0 (some x)) H3)
 (fin:∀ σ H,Pv xs.length σ H->Qf H) :
 ∃ W:Nat->Nat->L2.St->Hp->Prop,(∃ m,W 0 m σ0 H1) /\ ∀ i m σ' H',W i m σ' H'->((Itl K a).stop i H'/\Qf H')∨((Itl K a).go i H' /\ ∀ x H2,(Itl K a).yld i H' x H2->tt (σ'.set 0 (some x)) H2 fun ok H3=>
   if ok=true then te (σ'.set 0 (some x)) H3 fun y H4=>∃ ys,H4 D=some (.lst ys)/\ys.length < sizeLine /\ ∃ m',m' < m/\W (i+1) m' (σ'.set 0 (some x)) (upd H4 D (.lst (ys++[y])))
   else ∃ m',m' < m/\W (i+1) m' (σ'.set 0 (some x)) H3):=by
 refine⟨fun i m σ H=>m=xs.length - i/\i<=xs.length/\Pv i σ H,⟨xs.length,by omega,Nat.zero_le _,h0⟩,?_⟩
 rintro i m σ' H' ⟨rfl,hi,p⟩;have q:=hl i σ' H' hi p;by_cases hlt:i < xs.length
 · refine .inr ⟨⟨xs,xs[i],q,by simp[hlt]⟩,fun x H2 y=>?_⟩
   obtain⟨rfl,y⟩:=y;exact step i x σ' _ (y xs q) hlt p
 have e:i=xs.length:=by omega
 subst e;exact .inl ⟨⟨xs,q,Nat.le_refl _⟩,fin _ _ p⟩
theorem comp_listU{Qf:Hp->Prop}(Pv:Nat->L2.St->Hp->Prop)(h0:Pv 0 σ0 H1)(hl:∀ i σ H,i<=xs.length->Pv i σ H->SqL K H a xs)
 (step:∀ i x σ' H',xs[i]?=some x->i < xs.length->Pv i σ' H'->te (σ'.set 0 (some x)) H' (fun y H4=>CN Pv xs.length i D (σ'.set 0 (some x)) y H4))
 (fin:∀ σ H,Pv xs.length σ H->Qf H) :
 ∃ W:Nat->Nat->L2.St->Hp->Prop,(∃ m,W 0 m σ0 H1) /\ ∀ i m σ' H',W i m σ' H'->((Itl K a).stop i H'/\Qf H')∨((Itl K a).go i H' /\ ∀ x H2,(Itl K a).yld i H' x H2 ->
   if true=true then te (σ'.set 0 (some x)) H2 fun y H4=>∃ ys,H4 D=some (.lst ys)/\ys.length < sizeLine /\ ∃ m',m' < m/\W (i+1) m' (σ'.set 0 (some x)) (upd H4 D (.lst (ys++[y])))
   else ∃ m',m' < m/\W (i+1) m' (σ'.set 0 (some x)) H2):=
 comp_list (tt:=fun _ H Q=>Q true H) Pv h0 hl (fun i x σ' H' e hi p=>iteT (step i x σ' H' e hi p)) fin
end
section
variable{C:Addr}{H H':Hp}{p:Addr}{f m:Int}{R:MRows}{t L:Addr}{ds:List Addr}
theorem ShX.place{C:Addr}{H:Hp}(X:ShX C H p f m R t L ds)(k:Int):∃ d,ds[plc f m R.length k]?=some d/\H d=some (.dK (kvs (sRow f m R k))):=by
 have lt:=plc_lt (f:=f) (m:=m) (k:=k) X.pos;have lt':plc f m R.length k < ds.length:=by rw[X.len];exact lt
 exact⟨ds[plc f m R.length k],List.getElem?_eq_getElem lt',X.at_ _ _ _ (List.getElem?_eq_getElem lt') (getD_get lt)⟩
theorem ShX.set{i:Nat}{d:Addr}{r:MRow}(X:ShX C H p f m R t L ds)(hd:ds[i]?=some d)(ok:ROk r)(h1:∃ dx,H' p=some (.ins C dx (sfl t L (tot (R.set i r)))))(h2:H' d=some (.dK (kvs r)))
 (h3:∀ b o,b≠p->b≠d->H b=some o->H' b=some o):ShX C H' p f m (R.set i r) t L ds:=by
 have hi:i < R.length:=by rw[← X.len];exact(List.getElem?_eq_some_iff.mp hd).1
 have hd0:=X.at_ i d _ hd (getD_get hi);obtain⟨dx,hp⟩:=X.ob;refine⟨h1,h3 _ _ (ne_of X.mx hp (by intro z;cases z)) (ne_of X.mx hd0 (by intro z;cases z)) X.mx,X.bm,h3 _ _ (ne_of X.rw hp (by intro z;cases z)) (ne_of X.rw hd0 (by intro z;cases z)) X.rw,by rw[List.length_set];exact X.len,X.nd,fun j x q e1 e2=>?_,set_ok X.ok ok,by rw[List.length_set];exact X.pos,by rw[List.length_set];exact X.top⟩
 by_cases e:i=j
 · subst e
   rw[hd]at e1;cases e1;rw[List.getElem?_set_self hi]at e2;cases e2;exact h2
 rw[List.getElem?_set_ne e]at e2;have hx:=X.at_ j x q e1 e2;refine h3 _ _ (ne_of hx hp (by intro z;cases z)) (fun z=>e ?_) hx
 subst z;have l1:=(List.getElem?_eq_some_iff.mp hd).1;exact(List.getElem?_inj l1 X.nd).mp (hd.trans e1.symm)
end
theorem prs_of{H:Hp}:∀{as:List Addr}{r:MRow},as.length=r.length->(∀(j:Nat) (a:Addr),as[j]?=some a -> ∃ k x,(kvs r)[j]?=some (k,x)/\H a=some (.tup [kV k,x]))->Prs H (as.map V.ref) r
 | [],[],_,_=>.nil
 | a::as,p::r,hl,h=>by
   refine .cons ⟨a,rfl,?_⟩ (prs_of (Nat.succ.inj hl) fun j b e=>h (j+1) b e);obtain⟨k,x,e,z⟩:=h 0 a rfl;cases e;exact z
 | [],_::_,hl,_=>by cases hl
 | _::_,[],hl,_=>by cases hl
noncomputable def spWhole:Sp:=fun vs H Q _=>∃ n:Int,vs=[.int n]/\Q (.bl true) H
noncomputable def spIsSize:Sp:=fun vs H Q _=>∃ n:Nat,vs=[.int n]/\isSize n/\Q (.bl true) H
theorem inSizes{n:Nat}(h:isSize n):inV (V.int n) [.int 4,.int 8,.int 16,.int 32,.int 64,.int 128,.int 256,.int 512,.int 1024,.int 2048,.int 4096]=true:=by
 unfold isSize at h;simp only[List.mem_cons,List.not_mem_nil,or_false]at h;rcases h with rfl | rfl | rfl | rfl | rfl | rfl | rfl | rfl | rfl | rfl | rfl <;> decide
theorem isSize.bounds{n:Nat}(h:isSize n):4<=n/\n<=4096:=by
 unfold isSize at h;simp only[List.mem_cons,List.not_mem_nil,or_false]at h;rcases h with rfl | rfl | rfl | rfl | rfl | rfl | rfl | rfl | rfl | rfl | rfl <;> decide
theorem oV_getD{r:MRow}{k:Int}:(valV (kvs r) (Sum.inl k:Key)).getD V.non=oV (rLook r k):=by
 rw[valV_kvs];cases rLook r k <;> rfl
theorem wIf{σ:L2.St}{H:Hp}{Q:VK}{t:TT}{ta tb:TE}(h:t σ H fun c H1=>if c=true then ta σ H1 Q else tb σ H1 Q):tIf t ta tb σ H Q:=h
end SW
namespace SW.B
open PySem PySem.Spec PyProof.Rows L2 SW
theorem cmpI{X:Cx}{a b:Expr}{ta tb:TE}{pos:Pos}{op:CmpOp}{r:R2}(ho:OpR X (compareOp op) r)(ha:Bx (PE X a ta))(hb:Bx (PE X b tb))(hm:behindInMarks op b=false:=by first | rfl | with_unfolding_all rfl):Bx (PE X (.Compare a [op] [b] pos) (tOp r ta tb)):=⟨pe_cmpR ho ha.out hb.out hm⟩
end SW.B
namespace SW
open PySem PySem.Spec PyProof.Rows L2
theorem putF_len(f:Str)(v:V):∀ fs:List (Str×V),(putF f v fs).length<=fs.length+1
 | []=>Nat.le_refl _
 | (k,x)::r=>by
   show(if k=f then(k,v)::r else(k,x)::putF f v r).length<=_;split
   · show r.length+1<=r.length+1+1;omega
   have:=putF_len f v r;show(putF f v r).length+1<=r.length+1+1;omega
end SW
namespace SW
open PySem PySem.Spec PyProof.Rows L2
section
variable{D:Ends}{σ:L2.St}{H:Hp}{Q:VK}{K:W.Frag}
theorem wDGet1{td ty:TE}(h:td σ H fun x H1=>∃ a,x=.ref a/\IsD H1 a/\ty σ H1 fun y H2=>∃ o,DGet H2 a y o/\Q (o.getD .non) H2):tDGet1 td ty σ H Q:=h
theorem wItems{td:TE}(h:td σ H fun x H1=>∃ a kvs,x=.ref a/\H1 a=some (.dK kvs) /\ ∀ v,H1 v=none->Q (.ref v) (upd H1 v (ViewO v a))):tItems td σ H Q:=h
theorem wDPut{td ty tv:TE}(h:tv σ H fun v H1=>td σ H1 fun x H2=>ty σ H2 fun y H3=>∃ a H4,x=.ref a/\DPut H3 a y v H4/\D.nx σ H4):sDPut td ty tv D σ H:=h
theorem wFAug{ta tv:TE}{rd:V->V->Hp->VK->Prop}{f:Str}(h:ta σ H fun x H1=>∃ a C dx fs v,x=.ref a/\H1 a=some (.ins C dx fs)/\Cls K C/\NoAttr K C f/\fs.lookup f=some v /\
 tv σ H1 fun y H2=>rd v y H2 fun z H3=>∃ dx' fs',H3 a=some (.ins C dx' fs')/\fs'.length < 1000/\D.nx σ (upd H3 a (.ins C dx' (putF f z fs')))):sFldAug K ta tv rd f D σ H:=h
theorem wSl{r:V->Option Int->Option Int->Hp->VK->Prop}{te:TE}{tl th:TO}(h:te σ H fun x H1=>tl σ H1 fun l H2=>th σ H2 fun u H3=>r x l u H3 Q):tSl r te tl th σ H Q:=h
theorem wNoPart{Q:Option Int->Hp->Prop}(h:Q none H):tNoPart σ H Q:=h
theorem wPart{t:TE}{Q:Option Int->Hp->Prop}(h:t σ H fun x H1=>∃ i,x=.int i/\Q (some i) H1):tPart t σ H Q:=h
end
section
variable{X:Cx}{pins:List (Addr×Obj)}{σ:L2.St}{H:Hp}{s:Shared}{h':Heap}
theorem Inv.turnedNew{t':Nat}{fp:List Addr}{a:Addr}{o:HO}(I:Inv X pins σ H s)(k:∀ b u,b∉fp->s.heap.get? b=some u->h'.get? b=some u)(hf:∀ b∈fp,FpOk X pins H b)(hp:s.heap.objs.size<=a)
 (new:ObjOk X.prog X.w (upd H a o) h' a o):Inv X pins σ (upd H a o) { s with heap:=h',toks:=t' }:=by
 have lt:∀ b u,H b=some u->b < s.heap.objs.size:=fun b u e=>I.hok.lt e;have old:∀ b u,H b=some u->upd H a o b=some u:=fun b u e=>by rw[upd_ne (Nat.ne_of_lt (Nat.lt_of_lt_of_le (lt b u e) hp))];exact e
 have nfp:∀ b u,H b=some u->b∉fp:=fun b u e z=>by
  have:=(hf b z).1;rw[e]at this;cases this
 refine I.call (g':=s.gens) (d':=s.drawn) (t':=t') (ch:=fp) ⟨fun b u q _ _ hx=>k b u hx q,fun b u q _ _ hx=>⟨u.slots,k b u hx q⟩,fun b u q n _=>?_,fun b u q hx=>⟨u,k b u hx q⟩,fun b xs q=>old b _ q,fun b u v q=>old b _ q,fun b ps q=>⟨#[],by rw[old b _ q];simp⟩⟩ (fun b u e=>?_) I.bare
  fun b hb=>⟨(hf b hb).2.2.2.1,(hf b hb).2.1,(hf b hb).2.2.2.2.1,(hf b hb).2.2.2.2.2⟩
 · rw[upd_ne (Nat.ne_of_lt (Nat.lt_of_lt_of_le (Heap.lt_size q) hp))];exact n
 by_cases hb:b=a
 · subst hb
   rw[upd_same]at e;cases e;exact new
 rw[upd_ne hb]at e;refine(I.hok b u e).stay (fun c v hc q=>k c v ?_ q) (fun c q=>old c _ q) fun c xs q=>old c _ q;rcases hc with z | z
 · rw[z];exact nfp b u e
 exact nfp c _ z
theorem Inv.turnedL{t':Nat}{fp:List Addr}(I:Inv X pins σ H s)(k:∀ b u,b∉fp->s.heap.get? b=some u->h'.get? b=some u)(hf:∀ b∈fp,FpOk X pins H b):Inv X pins σ H { s with heap:=h',toks:=t' }:=by
 have nfp:∀ b u,H b=some u->b∉fp:=fun b u e z=>by
  have:=(hf b z).1;rw[e]at this;cases this
 refine I.call (g':=s.gens) (d':=s.drawn) (t':=t') (ch:=fp) ⟨fun b u q _ _ hx=>k b u hx q,fun b u q _ _ hx=>⟨u.slots,k b u hx q⟩,fun b u q n _=>n,fun b u q hx=>⟨u,k b u hx q⟩,fun b xs q=>q,fun b u v q=>q,fun b ps q=>⟨#[],by rw[q];simp⟩⟩ (fun b u e=>?_) I.bare
  fun b hb=>⟨(hf b hb).2.2.2.1,(hf b hb).2.1,(hf b hb).2.2.2.2.1,(hf b hb).2.2.2.2.2⟩
 refine(I.hok b u e).stay (fun c v hc q=>k c v ?_ q) (fun c q=>q) fun c xs q=>q;rcases hc with z | z
 · rw[z];exact nfp b u e
 exact nfp c _ z
end
section
variable{X:Cx}{elts:List Expr}{k:Nat}{tp:Pos}
end
namespace B
end B
section
variable{prog:Program}{w:World}{A:Around}{E:Value->Shared->Prop}{s:Shared}
set_option maxRecDepth 100000 in
end
section
variable{X:Cx}{o e:Expr}{to te:TE}{pos p2:Pos}{hi:Option Expr}{th:TO}
end
namespace B
end B
theorem Prs.len{H:Hp}{xs:List V}{r:MRow}(h:Prs H xs r):xs.length=r.length:=Paired.length h
theorem Prs.dat{K:W.Frag}{H:Hp}:∀{xs:List V}{r:MRow},Prs H xs r->DatVs K H xs (r.map fun p=>.tuple [.int p.1,.int p.2])
 | _,_,.nil=>.nil
 | _,_,.cons ⟨a,e,h⟩ t=>by
   subst e;exact .cons (.tup (SqT.of h) (.cons (.int _) (.cons (.int _) .nil))) (Prs.dat t)
structure LR(H:Hp)(q:Addr)(R:MRows)(ls:List Addr):Prop where
 top:H q=some (.lst (ls.map V.ref))
 len:ls.length=R.length
 nd:ls.Nodup
 nq:q∉ls
 at_:∀(i:Nat) (l:Addr) (r:MRow),ls[i]?=some l->R[i]?=some r -> ∃ xs,H l=some (.lst xs)/\Prs H xs r
theorem LR.keep{H H':Hp}{q:Addr}{R:MRows}{ls:List Addr}{G:Addr->Prop}(S:LR H q R ls)(k:Fr G H H')(hq:¬ G q)(hl:∀ b∈ls,¬ G b)(dt:∀ b xs,H b=some (.tup xs) -> ¬ G b):LR H' q R ls:=
 ⟨k _ _ hq S.top,S.len,S.nd,S.nq,fun i l r e1 e2=>by
  obtain⟨xs,h1,h2⟩:=S.at_ i l r e1 e2;exact⟨xs,k _ _ (hl l (List.mem_of_getElem? e1)) h1,h2.keep fun a ys e=>k _ _ (dt a ys e) e⟩⟩
theorem LR.same{H H':Hp}{q:Addr}{R:MRows}{ls:List Addr}(S:LR H q R ls)(k:Same H H'):LR H' q R ls:=
 S.keep (G:=fun _=>False) (fun b o _ e=>k b o e) (fun z=>z) (fun _ _ z=>z) fun _ _ _ z=>z
theorem LR.live{H:Hp}{q:Addr}{R:MRows}{ls:List Addr}(S:LR H q R ls){b:Addr}(h:b∈ls):∃ xs,H b=some (.lst xs):=by
 obtain⟨i,e⟩:=List.mem_iff_getElem?.mp h;have hi:i < R.length:=by rw[← S.len];exact(List.getElem?_eq_some_iff.mp e).1
 obtain⟨xs,h1,_⟩:=S.at_ i b _ e (getD_get hi);exact⟨xs,h1⟩
theorem LR.set{H H':Hp}{q:Addr}{R:MRows}{ls:List Addr}{i:Nat}{l:Addr}{xs:List V}{r:MRow}(S:LR H q R ls)(hl:ls[i]?=some l)(h1:H' l=some (.lst xs))(h2:Prs H' xs r)(k:∀ b o,b≠l->H b=some o->H' b=some o):LR H' q (R.set i r) ls:=by
 have lt:i < R.length:=by rw[← S.len];exact(List.getElem?_eq_some_iff.mp hl).1
 obtain⟨ys,hl0⟩:=S.live (List.mem_of_getElem? hl);refine⟨k _ _ (fun z=>S.nq (z ▸ List.mem_of_getElem? hl)) S.top,by rw[List.length_set];exact S.len,S.nd,S.nq,fun j y p e1 e2=>?_⟩
 by_cases e:i=j
 · subst e
   rw[hl]at e1;cases e1;rw[List.getElem?_set_self lt]at e2;cases e2;exact⟨xs,h1,h2⟩
 rw[List.getElem?_set_ne e]at e2;obtain⟨zs,g1,g2⟩:=S.at_ j y p e1 e2;refine⟨zs,k _ _ (fun z=>e ?_) g1,g2.keep fun a us ea=>k _ _ (ne_of ea hl0 (by intro z;cases z)) ea⟩
 subst z;exact(List.getElem?_inj (List.getElem?_eq_some_iff.mp hl).1 S.nd).mp (hl.trans e1.symm)
theorem isi_tup_tuple{K:W.Frag}:W.kitOne K (.type "tuple") (.type "tuple")=some true:=rfl
theorem isi_list_list{K:W.Frag}:W.kitOne K (.type "list") (.type "list")=some true:=rfl
namespace B
end B
end SW
namespace SW
open PySem PySem.Spec PyProof.Rows L2
theorem b_set:bootBuiltins "set"=some (.type "set"):=by decide +kernel
section
variable{X:Cx}
end
end SW
namespace SW
open PySem PySem.Spec PyProof.Rows L2
structure MT where
 el:Option MRows
 mv:Nat
 nw:MRows
noncomputable def putAll(f m:Int)(N:MRows)(r:MRow):MRows:=r.foldl (fun N p=>sPut f m N p.1 p.2) N
noncomputable def cnt(M:MT):Nat:=(match M.el with | none=>0 | some E=>tot E)+tot M.nw
structure POk(f m:Int)(N:MRows):Prop where
 at_:∀(i:Nat) r p,N[i]?=some r->p∈r->plc f m N.length p.1=i
 ok:∀ r∈N,ROk r
structure TOk(f m:Int)(M:MT):Prop where
 nw:POk f m M.nw
 sz:isSize M.nw.length
 el:∀ E,M.el=some E->POk f m E/\isSize E.length/\M.mv < E.length/\(∀ i r,i < M.mv->E[i]?=some r->r=[])/\(∀ k,sLook f m E k≠none->sLook f m M.nw k=none)
 no:M.el=none->M.mv=0
theorem set_getD{R:MRows}{i j:Nat}{r:MRow}(h:i < R.length):(R.set i r).getD j []=if i=j then r else R.getD j []:=by
 rw[List.getD_eq_getElem?_getD,List.getElem?_set];by_cases e:i=j
 · rw[if_pos e,if_pos e,if_pos h];rfl
 rw[if_neg e,if_neg e,List.getD_eq_getElem?_getD]
theorem rLook_put{r:MRow}{k v j:Int}:rLook (rPut r k v) j=if j=k then some v else rLook r j:=by
 have h:=valV_put (kvs r) (Sum.inl k:Key) (Sum.inl j) (V.int v);rw[putK_kvs,valV_kvs,valV_kvs]at h;by_cases e:j=k
 · rw[if_pos (inlE.mpr e)]at h
   rw[if_pos e];cases q:rLook (rPut r k v) j with
   | none=>rw[q]at h;cases h
   | some z=>rw[q]at h;injection h with h;injection h with h;rw[h]
 rw[if_neg (fun z=>e (inlE.mp z))]at h;rw[if_neg e];cases q:rLook (rPut r k v) j with
 | none=>rw[q]at h;cases q2:rLook r j with
   | none=>rfl
   | some z=>rw[q2]at h;cases h
 | some z=>rw[q]at h;cases q2:rLook r j with
   | none=>rw[q2]at h;cases h
   | some y=>rw[q2]at h;injection h with h;injection h with h;rw[h]
theorem sLook_put{f m:Int}{N:MRows}{k v j:Int}(h:0 < N.length):sLook f m (sPut f m N k v) j=if j=k then some v else sLook f m N j:=by
 unfold sLook sRow;rw[sPut_len];unfold sPut sRow;rw[set_getD (plc_lt h)];by_cases e:j=k
 · subst e
   rw[if_pos rfl,if_pos rfl,rLook_put,if_pos rfl]
 rw[if_neg e];split
 · rename_i e2
   rw[rLook_put,if_neg e,e2]
 rfl
theorem mem_put{r:MRow}{k v:Int}{p:Int×Int}(h:p∈rPut r k v):p.1=k∨p∈r:=by
 cases e:rLook r k with
 | none=>
   rw[rPut_new e]at h;rcases List.mem_append.mp h with h | h
   · exact .inr h
   exact .inl (by rw[List.mem_singleton.mp h])
 | some z=>
   unfold rPut at h;rw[e,if_pos (show(some z).isSome=true from rfl)]at h;obtain⟨q,hq,rfl⟩:=List.mem_map.mp h;by_cases e2:q.1=k
   · rw[if_pos e2];exact .inl e2
   rw[if_neg e2];exact .inr hq
theorem POk.set{f m:Int}{N:MRows}{i:Nat}{r:MRow}(P:POk f m N)(h:∀ p∈r,plc f m N.length p.1=i)(hr:ROk r):POk f m (N.set i r):=by
 refine⟨fun j q p e hp=>?_,set_ok P.ok hr⟩;rw[List.length_set];by_cases z:i=j
 · subst z
   have lt:i < (N.set i r).length:=(List.getElem?_eq_some_iff.mp e).1;rw[List.length_set]at lt;rw[List.getElem?_set_self lt]at e;cases e;exact h p hp
 rw[List.getElem?_set_ne z]at e;exact P.at_ j q p e hp
theorem POk.put{f m:Int}{N:MRows}{k v:Int}(P:POk f m N)(h:0 < N.length):POk f m (sPut f m N k v):=
 P.set (fun p hp=>by
  rcases mem_put hp with e | e
  · rw[e]
  exact P.at_ _ _ p (getD_get (plc_lt h)) e) (rPut_ok (P.ok _ (List.mem_of_getElem? (getD_get (plc_lt h)))))
theorem POk.rep{f m:Int}{n:Nat}:POk f m (List.replicate n []):=
 ⟨fun i r p e hp=>by rw[List.eq_of_mem_replicate (List.mem_of_getElem? e)]at hp;exact(List.not_mem_nil hp).elim,fun r hr=>by rw[List.eq_of_mem_replicate hr];exact List.nodup_nil⟩
theorem isSize.pos{n:Nat}(h:isSize n):0 < n:=by have:=h.bounds;omega
noncomputable def tfl(t:Addr)(pc:Int)(el:V)(mv:Int)(n:Addr)(tc:Int):List (Str×V):=[("mixer",.ref t),("pace",.int pc),("elder",el),("moved",.int mv),("newer",.ref n),("touches",.int tc)]
section
variable(t:Addr)(pc:Int)(el:V)(mv:Int)(n:Addr)(tc:Int)
theorem tfl_elder:(tfl t pc el mv n tc).lookup ("elder":Str)=some el:=by kernel_rfl
theorem tfl_moved:(tfl t pc el mv n tc).lookup ("moved":Str)=some (.int mv):=by kernel_rfl
theorem tfl_newer:(tfl t pc el mv n tc).lookup ("newer":Str)=some (.ref n):=by kernel_rfl
theorem tfl_mk:putF "touches" (.int tc) (putF "newer" (.ref n) (putF "moved" (.int mv) (putF "elder" el (putF "pace" (.int pc) (putF "mixer" (.ref t) [])))))=tfl t pc el mv n tc:=by kernel_rfl
end
structure NoT(x:Str):Prop where
 no:∀(t:Addr) (pc:Int) (el:V) (mv:Int) (n:Addr) (tc:Int),(tfl t pc el mv n tc).lookup x=none
theorem nt_state:NoT "state":=⟨fun _ _ _ _ _ _=>by kernel_rfl⟩
theorem nt_sizes:NoT "sizes":=⟨fun _ _ _ _ _ _=>by kernel_rfl⟩
theorem nt_shelves:NoT "shelves":=⟨fun _ _ _ _ _ _=>by kernel_rfl⟩
noncomputable def ElAt(CS:Addr)(H:Hp)(f m:Int)(v:V)(o:Option MRows)(FE:Addr->Prop):Prop:=match o with
 | none=>v=.non /\ ∀ b,¬ FE b
 | some E=>∃ e,v=.ref e/\Sh CS H e f m E FE
structure TbX(CS CT:Addr)(H:Hp)(p:Addr)(f m:Int)(pc:Nat)(M:MT)(tc:Int)(t n:Addr)(v:V)(FN FE:Addr->Prop):Prop where
 ob:∃ dx,H p=some (.ins CT dx (tfl t pc v M.mv n tc))
 mx:H t=some (.tup [.int f,.int m])
 bm:0<=f/\f<=65535
 nw:Sh CS H n f m M.nw FN
 el:ElAt CS H f m v M.el FE
 ne:∀ b,FE b -> ¬ FN b
 np:¬ FN p /\ ¬ FE p
noncomputable def Tb(CS CT:Addr)(H:Hp)(p:Addr)(f m:Int)(pc:Nat)(M:MT)(tc:Int)(F:Addr->Prop):Prop:=∃ t n v FN FE,TbX CS CT H p f m pc M tc t n v FN FE /\ ∀ b,F b ↔ (b=p∨FN b∨FE b)
section
variable{CS CT:Addr}{H H':Hp}{p:Addr}{f m:Int}{pc:Nat}{M:MT}{tc:Int}{t n:Addr}{v:V}{FN FE F G:Addr->Prop}
theorem ElAt.keep{o:Option MRows}(S:ElAt CS H f m v o FE)(k:Fr G H H')(d:∀ b,FE b -> ¬ G b)(dt:∀ b xs,H b=some (.tup xs) -> ¬ G b):ElAt CS H' f m v o FE:=by
 cases o with
 | none=>exact S
 | some E=>
   obtain⟨e,he,S⟩:=S;exact⟨e,he,S.keep k d dt⟩
theorem ElAt.live{o:Option MRows}(S:ElAt CS H f m v o FE){b:Addr}(h:FE b):∃ o',H b=some o' /\ ∀ xs,o' ≠ .tup xs:=by
 cases o with
 | none=>exact absurd h (S.2 b)
 | some E=>
   obtain⟨e,he,S⟩:=S;exact S.live h
theorem Tb.keep(S:Tb CS CT H p f m pc M tc F)(k:Fr G H H')(d:∀ b,F b -> ¬ G b)(dt:∀ b xs,H b=some (.tup xs) -> ¬ G b):Tb CS CT H' p f m pc M tc F:=by
 obtain⟨t,n,v,FN,FE,X,hF⟩:=S;obtain⟨dx,e⟩:=X.ob;exact⟨t,n,v,FN,FE,⟨⟨dx,k _ _ (d p ((hF p).mpr (.inl rfl))) e⟩,k _ _ (dt _ _ X.mx) X.mx,X.bm,X.nw.keep k (fun b hb=>d b ((hF b).mpr (.inr (.inl hb)))) dt,X.el.keep k (fun b hb=>d b ((hF b).mpr (.inr (.inr hb)))) dt,X.ne,X.np⟩,hF⟩
theorem Tb.same(S:Tb CS CT H p f m pc M tc F)(k:Same H H'):Tb CS CT H' p f m pc M tc F:=
 S.keep (G:=fun _=>False) (fun b o _ e=>k b o e) (fun _ _ z=>z) fun _ _ _ z=>z
end
noncomputable def spTShelves(CS CT:Addr):Sp:=fun vs H Q _=>∃(p:Addr) (f m:Int) (pc:Nat) (M:MT) (tc:Int) (t n:Addr) (v:V) (FN FE:Addr->Prop),vs=[.ref p]/\TbX CS CT H p f m pc M tc t n v FN FE /\
 ∀ l,H l=none->Q (.ref l) (upd H l (.lst (match M.el with | none=>[.ref n] | some _=>[v,.ref n])))
noncomputable def PrT(K:W.Frag)(H:Hp)(v:V)(p:Int×Int):Prop:=∃ a,v=.ref a/\SqT K H a [.int p.1,.int p.2]
noncomputable def RowT(K:W.Frag)(H:Hp)(v:V)(r:MRow):Prop:=∃ b ys,v=.ref b/\SqT K H b ys/\Paired (PrT K H) ys r
noncomputable def RowsT(K:W.Frag)(H:Hp)(a:Addr)(R:MRows):Prop:=∃ xs,SqT K H a xs/\Paired (RowT K H) xs R
noncomputable def laid(f m:Int)(R:MRows):MRows:=R.foldl (fun N r=>putAll f m N r) (List.replicate R.length [])
noncomputable def spShelfOf(K:W.Frag)(CS:Addr):Sp:=fun vs H Q _=>∃(a t:Addr) (f m:Int) (R:MRows),vs=[.ref a,.ref t]/\RowsT K H a R/\isSize R.length/\tot R<=5000/\H t=some (.tup [.int f,.int m])/\(0<=f/\f<=65535) /\
 ∀ p H' F,Sh CS H' p f m (laid f m R) F->(∀ b,F b->H b=none)->Same H H'->Q (.ref p) H'
noncomputable def M0:MT:=⟨none,0,List.replicate 4 []⟩
section
variable{CS CT:Addr}{H:Hp}{Q:VK}{E:XK}{p:Addr}{k y f m:Int}{pc:Nat}{M:MT}{tc:Int}{F:Addr->Prop}
theorem wT{x:Str}{P:Prop}(S:Tb CS CT H p f m pc M tc F)(hn:NoT x)(h:P):∃ a dx fs,V.ref p=.ref a/\H a=some (.ins CT dx fs)/\fs.lookup x=none/\P:=by
 obtain⟨t,n,v,FN,FE,X,hF⟩:=S;obtain⟨dx,e⟩:=X.ob;exact⟨p,dx,_,rfl,e,hn.no _ _ _ _ _ _,h⟩
end
theorem tot_putAll_le{f m:Int}:∀{r:MRow}{N:MRows},0 < N.length->tot (putAll f m N r)<=tot N+r.length
 | [],_,_=>Nat.le_refl _
 | p::r,N,h=>by
   show tot (putAll f m (sPut f m N p.1 p.2) r)<=_;have:=tot_putAll_le (f:=f) (m:=m) (r:=r) (N:=sPut f m N p.1 p.2) (by rw[sPut_len];exact h)
   rw[sPut_tot h]at this;rw[List.length_cons];split at this <;> omega
theorem putAll_take{f m:Int}{N:MRows}{r:MRow}{j:Nat}{p:Int×Int}(h:r[j]?=some p):putAll f m N (r.take (j+1))=sPut f m (putAll f m N (r.take j)) p.1 p.2:=by
 rw[List.take_add_one,h];unfold putAll;rw[List.foldl_append]
 rfl
section
variable{CS CT:Addr}{H H':Hp}{p:Addr}{f m:Int}{pc:Nat}{M:MT}{tc:Int}{t n:Addr}{v:V}{FN FE F G:Addr->Prop}
end
end SW
namespace SW
open PySem PySem.Spec PyProof.Rows L2
theorem wITup{K:W.Frag}{σ:L2.St}{H:Hp}{tl:TE}{R:It->Hp->Prop}(h:tl σ H fun x H1=>∃ a,x=.ref a/\(∃ xs,SqT K H1 a xs)/\R (Itt K a) H1):iTup K tl σ H R:=h
namespace B
end B
end SW
namespace SW
open PySem PySem.Spec PyProof.Rows L2
theorem KeepBut.fr'{p:Addr}{H H':Hp}(k:KeepBut p H H'):Fr (fun b=>b=p) H H':=fun b o n e=>k b o n e
section
variable{X:Cx}{scope:Scope}{cl:List (Str×Addr)}{os:List Str}{js:List Nat}{N':List Str}{pins:List (Addr×Obj)}{σ:L2.St}{H:Hp}{s:Shared}{fp:List Addr}
end
section
variable{X:Cx}{scope:Scope}{cl:List (Str×Addr)}{os:List Str}{js:List Nat}{N':List Str}{elt iter:Expr}{ifs:List Expr}{tgt:Expr}{pos:Pos}{wi:TI}{gt:TG}{tt:TT}{te:TE}
end
namespace B
section
variable{X:Cx}{scope:Scope}{cl:List (Str×Addr)}{tgt:Expr}{N':List Str}{elt iter c:Expr}{pos:Pos}{wi:TI}{gt:TG}{te:TE}{tc:TT}{os:List Str}
end
end B
namespace B
end B
section
variable{prog:Program}{w:World}{A:Around}{E:Value->Shared->Prop}{s:Shared}
end
section
variable{X:Cx}{elts:List Expr}{k:Nat}{tp:Pos}
end
namespace B
end B
theorem b_str:bootBuiltins "str"=some (.type "str"):=by decide +kernel
theorem call_tupleK(K:W.Frag){X:Cx}(h:X.K=K:=by rfl):CallR X (.type "tuple") (fun xs H Q=>∃ p ys,xs=[.ref p]/\((SqL K H p ys /\ ∀ l,H l=none->Q (.ref l) (upd H l (.tup ys)))∨(SqT K H p ys/\Q (.ref p) H))):=by subst h;exact call_tuple_of
theorem isi_tup_int{K:W.Frag}:W.kitOne K (.type "tuple") (.type "int")=some false:=by
 show W.kitOne [] (.type "tuple") (.type "int")=some false
 decide +kernel
theorem isi_tup_str{K:W.Frag}:W.kitOne K (.type "tuple") (.type "str")=some false:=by
 show W.kitOne [] (.type "tuple") (.type "str")=some false
 decide +kernel
theorem paired_snoc{α β:Type}{F:α -> β -> Prop}{x:α}{y:β}:∀{xs:List α}{ys:List β},Paired F xs ys->F x y->Paired F (xs++[x]) (ys++[y])
 | _,_,.nil,h=>.cons h .nil
 | _,_,.cons a t,h=>.cons a (paired_snoc t h)
noncomputable abbrev KeepT(H H':Hp):Prop:=∀ a xs,H a=some (.tup xs)->H' a=some (.tup xs)
theorem KeepT.same{H H':Hp}(s:Same H H'):KeepT H H':=fun a xs e=>s _ _ e
theorem KeepT.upd{H:Hp}{q:Addr}{o:HO}(h:∀ xs,H q≠some (.tup xs)):KeepT H (upd H q o):=fun a xs e=>by
 have n:a≠q:=fun z=>h xs (by rw[← z];exact e)
 rw[upd_ne n];exact e
noncomputable def RowU(H:Hp)(v:V)(r:MRow):Prop:=∃ b ys,v=.ref b/\H b=some (.tup ys)/\Prs H ys r
noncomputable def RowsU(H:Hp)(v:V)(R:MRows):Prop:=∃ a xs,v=.ref a/\H a=some (.tup xs)/\Paired (RowU H) xs R
noncomputable def ElU(H:Hp)(v:V):Option MRows->Prop
 | none=>v=.non
 | some E=>RowsU H v E
noncomputable def StU(H:Hp)(v:V)(M:MT):Prop:=∃ a e w,v=.ref a/\H a=some (.tup [e,.int (M.mv:Nat),w])/\ElU H e M.el/\RowsU H w M.nw
theorem RowU.keep{H H':Hp}{v:V}{r:MRow}(h:RowU H v r)(k:KeepT H H'):RowU H' v r:=by
 obtain⟨b,ys,e,hb,p⟩:=h;exact⟨b,ys,e,k _ _ hb,p.keep k⟩
theorem RowsU.keep{H H':Hp}{v:V}{R:MRows}(h:RowsU H v R)(k:KeepT H H'):RowsU H' v R:=by
 obtain⟨b,ys,e,hb,p⟩:=h;exact⟨b,ys,e,k _ _ hb,Paired.mapP p fun _ _ z=>RowU.keep z k⟩
theorem ElU.keep{H H':Hp}{v:V}{o:Option MRows}(h:ElU H v o)(k:KeepT H H'):ElU H' v o:=by
 cases o with
 | none=>exact h
 | some E=>exact RowsU.keep h k
theorem StU.keep{H H':Hp}{v:V}{M:MT}(h:StU H v M)(k:KeepT H H'):StU H' v M:=by
 obtain⟨a,e,w,hv,ha,he,hw⟩:=h;exact⟨a,e,w,hv,k _ _ ha,he.keep k,hw.keep k⟩
noncomputable def spRowsOf(CS:Addr):Sp:=fun vs H Q _=>∃(p:Addr) (f m:Int) (R:MRows) (F:Addr->Prop),vs=[.ref p]/\Sh CS H p f m R F /\ ∀ v H',Same H H'->RowsU H' v R->Q v H'
noncomputable def spTState(CS CT:Addr):Sp:=fun vs H Q _=>∃(p:Addr) (f m:Int) (pc:Nat) (M:MT) (tc:Int) (F:Addr->Prop),vs=[.ref p]/\Tb CS CT H p f m pc M tc F /\ ∀ v H',Same H H'->StU H' v M->Q v H'
noncomputable def szE:Option MRows->V
 | none=>.non
 | some E=>.int (E.length:Nat)
noncomputable def spTSizes(CS CT:Addr):Sp:=fun vs H Q _=>∃(p:Addr) (f m:Int) (pc:Nat) (M:MT) (tc:Int) (F:Addr->Prop),vs=[.ref p]/\Tb CS CT H p f m pc M tc F /\ ∀ a,H a=none->Q (.ref a) (upd H a (.tup [szE M.el,.int (M.nw.length:Nat)]))
section
variable{CS CT:Addr}{H:Hp}{Q:VK}{E:XK}{p:Addr}{f m:Int}{pc:Nat}{M:MT}{tc:Int}{F:Addr->Prop}
theorem wRowsOf{R:MRows}(S:Sh CS H p f m R F)(q:∀ v H',Same H H'->RowsU H' v R->Q v H'):spRowsOf CS ([.ref p]++[]) H Q E:=⟨p,f,m,R,F,rfl,S,q⟩
theorem wTState(S:Tb CS CT H p f m pc M tc F)(q:∀ v H',Same H H'->StU H' v M->Q v H'):spTState CS CT (V.ref p::([]++[])) H Q E:=⟨p,f,m,pc,M,tc,F,rfl,S,q⟩
theorem wTSizes(S:Tb CS CT H p f m pc M tc F)(q:∀ a,H a=none->Q (.ref a) (upd H a (.tup [szE M.el,.int (M.nw.length:Nat)]))):spTSizes CS CT (V.ref p::([]++[])) H Q E:=⟨p,f,m,pc,M,tc,F,rfl,S,q⟩
end
theorem _root_.L2.SqT.but{K:W.Frag}{H H':Hp}{x C dx b:Addr}{fs:List (Str×V)}{ys:List V}(hx:H x=some (.ins C dx fs))(k:∀ c o,c≠x->H c=some o->H' c=some o)(h:SqT K H b ys):SqT K H' b ys:=by
 rcases h with (z | ⟨o,z⟩) | z
 · exact .inl (.inl (k _ _ (ne_of z hx (by intro z;cases z)) z))
 · exact .inl (.inr ⟨o,k _ _ (ne_of z hx (by intro z;cases z)) z⟩)
 exact .inr z
theorem RowsT.but{K:W.Frag}{H H':Hp}{x C dx a:Addr}{fs:List (Str×V)}{R:MRows}(hx:H x=some (.ins C dx fs))(k:∀ c o,c≠x->H c=some o->H' c=some o)(h:RowsT K H a R):RowsT K H' a R:=by
 obtain⟨xs,hs,p⟩:=h;refine⟨xs,hs.but hx k,Paired.mapP p fun v r ⟨b,ys,e,hb,q⟩=>⟨b,ys,e,hb.but hx k,Paired.mapP q fun v p ⟨a,e,ha⟩=>⟨a,e,ha.but hx k⟩⟩⟩
theorem RowsU.rowsT{K:W.Frag}{H:Hp}{v:V}{R:MRows}(h:RowsU H v R):∃ a,v=.ref a/\RowsT K H a R:=by
 obtain⟨a,xs,e,ha,p⟩:=h;exact⟨a,e,xs,SqT.of ha,Paired.mapP p fun v r ⟨b,ys,e,hb,q⟩=>⟨b,ys,e,SqT.of hb,Paired.mapP q fun v p ⟨a,e,ha⟩=>⟨a,e,SqT.of ha⟩⟩⟩
noncomputable def ElT(K:W.Frag)(H:Hp)(v:V):Option MRows->Prop
 | none=>v=.non
 | some E=>∃ a,v=.ref a/\RowsT K H a E
theorem ElU.elT{K:W.Frag}{H:Hp}{v:V}{o:Option MRows}(h:ElU H v o):ElT K H v o:=by
 cases o with
 | none=>exact h
 | some E=>exact RowsU.rowsT h
noncomputable def spTInit(CS CT:Addr):Sp:=fun vs H Q _=>∃(x t dx:Addr) (f m:Int) (pc:Nat) (v:V) (M:MT),vs=[.ref x,.ref t,.int pc,v]/\H x=some (.ins CT dx [])/\H t=some (.tup [.int f,.int m])/\(0<=f/\f<=65535)/\TOk f m M/\cnt M<=5000/\(v=.non/\M=M0∨StU H v M) /\
 ∀ H' F,Tb CS CT H' x f m pc M 0 F->(∀ b,F b->b=x∨H b=none)->(∀ b o,b≠x->H b=some o->H' b=some o)->Q .non H'
section
variable{CS CT:Addr}{H:Hp}{Q:VK}{E:XK}{f m:Int}
theorem wTableG{Qf:Addr->Hp->Prop}{t:Addr}{n:Int}{v:V}{M:MT}(ht:H t=some (.tup [.int f,.int m]))(bf:0<=f/\f<=65535)(n0:0<=n)(T:TOk f m M)(hc:cnt M<=5000)(hv:v=.non/\M=M0∨StU H v M)
 (q:∀ p H' F,Tb CS CT H' p f m n.toNat M 0 F->(∀ b,F b->H b=none)->Same H H'->Qf p H') :
 ∀ x dx,H x=none->H dx=none->dx≠x->spTInit CS CT (V.ref x::([V.ref t,V.int n,v]++[])) (upd (upd H dx (.own x)) x (.ins CT dx [])) (fun v H2=>v=.non/\Qf x H2) E:=fun x dx hx hdx hne=>by
 have s0:Same H (upd (upd H dx (.own x)) x (.ins CT dx [])):=(Same.new hdx).trans (Same.new (by rw[upd_ne hne.symm];exact hx))
 refine⟨x,t,dx,f,m,n.toNat,v,M,by rw[Int.toNat_of_nonneg n0];rfl,upd_same,s0 _ _ ht,bf,T,hc,hv.imp id (fun u=>u.keep (KeepT.same s0)),fun H' F S g k=>⟨rfl,q x H' F S (fun b hb=>?_) fun b o e=>k b o (ne_of_none e hx) (s0 b o e)⟩⟩
 rcases g b hb with rfl | z
 · exact hx
 exact s0.free z
end
theorem putAll_row{f m:Int}{N:MRows}{j:Nat}(hj:j < N.length):∀(r p:MRow),ROk (p++r)->(∀ q∈r,plc f m N.length q.1=j)->putAll f m (N.set j p) r=N.set j (p++r)
 | [],p,_,_=>by rw[List.append_nil];rfl
 | q::r,p,ok,h=>by
   show putAll f m (sPut f m (N.set j p) q.1 q.2) r=_;have e1:plc f m (N.set j p).length q.1=j:=by rw[List.length_set];exact h q (List.mem_cons_self ..)
   have e2:sRow f m (N.set j p) q.1=p:=by
    unfold sRow;rw[e1,set_getD hj,if_pos rfl]
   have e3:rLook p q.1=none:=(rLook_none_iff q.1).mpr fun z=>by
    have ok':(p.map (·.1)++(q::r).map (·.1)).Nodup:=by rw[← List.map_append];exact ok
    exact(List.nodup_append.mp ok').2.2 _ z _ (List.mem_map.mpr ⟨q,List.mem_cons_self ..,rfl⟩) rfl
   have e4:sPut f m (N.set j p) q.1 q.2=N.set j (p++[q]):=by
    unfold sPut;rw[e1,e2,rPut_new e3,List.set_set]
   have e5:p++q::r=(p++[q])++r:=by simp
   rw[e4,e5];exact putAll_row hj r (p++[q]) (by rw[← e5];exact ok) fun x hx=>h x (List.mem_cons_of_mem _ hx)
theorem laid_go{f m:Int}{n:Nat}:∀(R A:MRows),A.length+R.length=n->(∀(i:Nat) r,R[i]?=some r->ROk r /\ ∀ p∈r,plc f m n p.1=A.length+i)->R.foldl (fun N r=>putAll f m N r) (A++List.replicate R.length [])=A++R
 | [],A,_,_=>rfl
 | r::R,A,hn,h=>by
   have h0:=h 0 r rfl;show R.foldl _ (putAll f m (A++List.replicate (R.length+1) []) r)=_;have hl:(A++List.replicate (R.length+1) ([]:MRow)).length=n:=by
    rw[List.length_append,List.length_replicate];rw[List.length_cons]at hn;exact hn
   have hj:A.length < (A++List.replicate (R.length+1) ([]:MRow)).length:=by
    rw[List.length_append,List.length_replicate];omega
   have es:∀ x:MRow,(A++List.replicate (R.length+1) ([]:MRow)).set A.length x=(A++[x])++List.replicate R.length []:=fun x=>by
    rw[List.set_append_right _ _ (Nat.le_refl _),Nat.sub_self,List.replicate_succ,List.set_cons_zero,List.append_assoc]
    rfl
   have e0:(A++List.replicate (R.length+1) ([]:MRow)).set A.length []=A++List.replicate (R.length+1) []:=by
    rw[es,List.replicate_succ,List.append_assoc]
    rfl
   have e1:=putAll_row (f:=f) (m:=m) hj r [] h0.1 (fun q hq=>by rw[hl];exact h0.2 q hq)
   rw[e0,es]at e1;rw[e1];have ih:=laid_go (f:=f) (m:=m) (n:=n) R (A++[r]) (by rw[List.length_append];rw[List.length_cons]at hn;show A.length+1+R.length=n;omega) fun i q e=>by
    have:=h (i+1) q e;refine⟨this.1,fun p hp=>?_⟩;rw[this.2 p hp,List.length_append];show _=A.length+1+i;omega
   rw[show([]++r:MRow)=r from rfl,ih,List.append_assoc]
   rfl
theorem laid_eq{f m:Int}{R:MRows}(P:POk f m R):laid f m R=R:=
 laid_go (n:=R.length) R [] (Nat.zero_add _) fun i r e=>⟨P.ok r (List.mem_of_getElem? e),fun p hp=>by rw[P.at_ i r p e hp];exact(Nat.zero_add _).symm⟩
section
variable{CS CT:Addr}{H H':Hp}{p p2:Addr}{f m f2 m2:Int}{pc pc2:Nat}{M M2:MT}{tc tc2:Int}{F F' G:Addr->Prop}
end
theorem wSeqC{D:Ends}{σ:L2.St}{H:Hp}{t u:TS}(h:∀ N:L2.St->Hp->Prop,N=u D->t { D with nx:=N } σ H):tSeq t u D σ H:=h _ rfl
theorem wGo{N N':L2.St->Hp->Prop}{σ:L2.St}{H:Hp}(e:N=N')(h:N' σ H):N σ H:=e ▸ h
@[elab_as_elim] theorem len0{α:Type}{P:List α -> Prop}(us:List α)(hl:us.length=0)(h:Unit->P []):P us:=by
  cases us with
  | nil=>exact h ()
  | cons a l=>cases hl
@[elab_as_elim] theorem len1{α:Type}{P:List α -> Prop}(us:List α)(hl:us.length=1)(h:∀ a,P [a]):P us:=by
  cases us with
  | nil=>cases hl
  | cons a l=>exact len0 (P:=fun l=>P (a::l)) l (Nat.succ.inj hl) fun _=>h a
@[elab_as_elim] theorem len2{α:Type}{P:List α -> Prop}(us:List α)(hl:us.length=2)(h:∀ a b,P [a,b]):P us:=by
  cases us with
  | nil=>cases hl
  | cons a l=>exact len1 (P:=fun l=>P (a::l)) l (Nat.succ.inj hl) fun b=>h a b
@[elab_as_elim] theorem len3{α:Type}{P:List α -> Prop}(us:List α)(hl:us.length=3)(h:∀ a b c,P [a,b,c]):P us:=by
  cases us with
  | nil=>cases hl
  | cons a l=>exact len2 (P:=fun l=>P (a::l)) l (Nat.succ.inj hl) fun b c=>h a b c
@[elab_as_elim] theorem len4{α:Type}{P:List α -> Prop}(us:List α)(hl:us.length=4)(h:∀ a b c d,P [a,b,c,d]):P us:=by
  cases us with
  | nil=>cases hl
  | cons a l=>exact len3 (P:=fun l=>P (a::l)) l (Nat.succ.inj hl) fun b c d=>h a b c d
@[elab_as_elim] theorem len5{α:Type}{P:List α -> Prop}(us:List α)(hl:us.length=5)(h:∀ a b c d e,P [a,b,c,d,e]):P us:=by
  cases us with
  | nil=>cases hl
  | cons a l=>exact len4 (P:=fun l=>P (a::l)) l (Nat.succ.inj hl) fun b c d e=>h a b c d e
theorem walkX{q:Program}{loose:List Str}{XP:(Str->Option Value)->Heap->Prop}{K:Params->W.Frag}{as:List Addr}{n t:Nat}{r:W.RowW}{d:DefRec}{kwd:List (Str×Expr)}{run:Value->List Value->Sem Value}
 (e:∀ P,as=(K P).map (·.1)) (h:W.WalkO q loose XP (W.InK K) r d kwd run):W.WalkX q loose XP (W.X.obsZ as) (W.X.valZ K n t) r d kwd run:=
 fun w s₀ s₁ mg mb G y a o pm cd doc dV kV ho hd hcd hD hmg hg args vals as' L hpre=>h w s₀ s₁ mg mb G (W.InK.keeps w _ _ (W.X.z_facts e y).2.1 (W.Laid.keeps L)) a o pm cd doc dV kV ho hd hcd hD hmg hg args vals as' hpre
noncomputable def Cut(M:L2.St->Hp->Prop)(G:(L2.St->Hp->Prop)->Prop):Prop:=∀ N,N=M->G N
theorem wCut{M:L2.St->Hp->Prop}{G:(L2.St->Hp->Prop)->Prop}(h:∀ N,N=M->G N):Cut M G:=h
theorem forListC{K:PySem.W.Frag}{a:Addr}{xs:List V}{g:TG}{tb:TS}{D:Ends}{σ:L2.St}{H:Hp}(Pv:Nat->L2.St->Hp->Prop)(h0:Pv 0 σ H)(hl:∀ i σ H,i<=xs.length->Pv i σ H->SqL K H a xs)
 (hs:∀ i x σ H,xs[i]?=some x->Pv i σ H->Cut (Pv (i+1)) fun N=>g x σ H fun σ2 H2=>tb { D with nx:=N,ct:=N,bk:=D.nx } σ2 H2) (hd:∀ σ H,Pv xs.length σ H->D.nx σ H) :
 ∃ W:Nat->Nat->L2.St->Hp->Prop,(∃ m,W 0 m σ H) /\ ∀ i m σ H,W i m σ H ->
   ((Itl K a).stop i H/\D.nx σ H)∨((Itl K a).go i H /\ ∃ N:L2.St->Hp->Prop,(∀ σ' H',N σ' H' -> ∃ m',m' < m/\W (i+1) m' σ' H') /\ ∀ x H',(Itl K a).yld i H x H'->g x σ H' fun σ2 H2=>tb { D with nx:=N,ct:=N,bk:=D.nx } σ2 H2):=
 for_list Pv h0 hl (fun i x σ H e p=>hs i x σ H e p _ rfl) hd
theorem forRangeC{lo:Int}{n:Nat}{g:TG}{tb:TS}{D:Ends}{σ:L2.St}{H:Hp}(Pv:Nat->L2.St->Hp->Prop)(h0:Pv 0 σ H)
 (hs:∀ i σ H,i < n->Pv i σ H->Cut (Pv (i+1)) fun N=>g (.int (lo+i)) σ H fun σ2 H2=>tb { D with nx:=N,ct:=N,bk:=D.nx } σ2 H2) (hd:∀ σ H,Pv n σ H->D.nx σ H) :
 ∃ W:Nat->Nat->L2.St->Hp->Prop,(∃ m,W 0 m σ H) /\ ∀ i m σ H,W i m σ H ->
   ((Itr lo n).stop i H/\D.nx σ H)∨((Itr lo n).go i H /\ ∃ N:L2.St->Hp->Prop,(∀ σ' H',N σ' H' -> ∃ m',m' < m/\W (i+1) m' σ' H') /\ ∀ x H',(Itr lo n).yld i H x H'->g x σ H' fun σ2 H2=>tb { D with nx:=N,ct:=N,bk:=D.nx } σ2 H2):=
 for_range Pv h0 (fun i σ H e p=>hs i σ H e p _ rfl) hd
section
variable{K:W.Frag}{H:Hp}{p C dx:Addr}{fs:List (Str×V)}{v:V}{f:Str}
theorem iFld{R:Addr->Addr->V->Prop}(hp:H p=some (.ins C dx fs))(hc:Cls K C)(hn:NoAttr K C f)(hl:fs.lookup f=some v)(h:R p C v):∃ a C dx fs v,V.ref p=.ref a/\H a=some (.ins C dx fs)/\Cls K C/\NoAttr K C f/\fs.lookup f=some v/\R a C v:=⟨p,C,dx,fs,v,rfl,hp,hc,hn,hl,h⟩
theorem iSFld{R:Addr->Addr->Addr->List (Str×V)->Prop}(hp:H p=some (.ins C dx fs))(hc:Cls K C)(hn:NoAttr K C f)(hl:fs.length < 1000)(h:R p C dx fs):∃ a C dx fs,V.ref p=.ref a/\H a=some (.ins C dx fs)/\Cls K C/\NoAttr K C f/\fs.length < 1000/\R a C dx fs:=⟨p,C,dx,fs,rfl,hp,hc,hn,hl,h⟩
theorem iIsi{x:V}{T:String}{t:Value}{b:Bool}{R:Bool->Prop}(ty:TyOf K H x t)(e:W.kitOne K t (.type T)=some b)(h:R b):∃ x' T' t' b',[x,V.ty T]=[x',V.ty T']/\TyOf K H x' t'/\W.kitOne K t' (.type T')=some b'/\R b':=⟨x,T,t,b,rfl,ty,e,h⟩
theorem iLen{l:Addr}{ys:List V}{R:List V->Prop}(h1:SqL K H l ys∨SqT K H l ys)(h:R ys):∃ p ys,[V.ref l]=[V.ref p]/\(SqL K H p ys∨SqT K H p ys)/\R ys:=⟨l,ys,rfl,h1,h⟩
end
section
variable{CS CT:Addr}{H:Hp}{Q:VK}{E:XK}{p:Addr}{k f m:Int}{pc:Nat}{M:MT}{tc:Int}{F:Addr->Prop}
theorem wTShelves{t n:Addr}{v:V}{FN FE:Addr->Prop}(X:TbX CS CT H p f m pc M tc t n v FN FE)(q:∀ l,H l=none->Q (.ref l) (upd H l (.lst (match M.el with | none=>[.ref n] | some _=>[v,.ref n])))):spTShelves CS CT (V.ref p::([]++[])) H Q E:=⟨p,f,m,pc,M,tc,t,n,v,FN,FE,rfl,X,q⟩
theorem wSRowW{R:MRows}{t L:Addr}{ds:List Addr}(X:ShX CS H p f m R t L ds)(q:∀ d,ds[plc f m R.length k]?=some d->Q (.ref d) H):spSRowW CS (V.ref p::([V.int k]++[])) H Q E:=⟨p,k,f,m,R,t,L,ds,rfl,X,q⟩
end
theorem fs{N P:List Str}{sc:Scope}(a:sc.kind=.function:=by rfl)(b:sc.isCoroutine=false:=by rfl)(c:sc.isGenerator=false:=by rfl)(d:N.Nodup:=by decide +kernel)(e:N.take P.length=P:=by rfl)(f:∀ x∈P,sc.names.lookup x=some .local∨sc.names.lookup x=some .cell:=by decide +kernel)(h:∀ y∈sc.names,y.2 ≠ .free:=by decide +kernel):FnScope N P sc:=⟨a,b,c,d,e,f,h⟩
theorem bd1{K:W.Frag}{x qual p0:Str}{st:Stmt}{f:Addr}{fd:FuncData}(F:Fun K x qual st f fd)(h:∀(kV doc pm:Value) (an:Option Addr) (cdv ct:Value) (a0:Value),bindArgs (W.fnOf x qual (defArgs st) (defBody st) (defScope st) .none kV doc pm an cdv ct) ⟨[a0],[]⟩=pure ([(p0,a0)]):=by intros;rfl):Binds K fd [p0] []:=F.binds fun _ _ _ _ _ _ us hl=>len1 us hl fun a0=>h _ _ _ _ _ _ a0
theorem bd2{K:W.Frag}{x qual p0 p1:Str}{st:Stmt}{f:Addr}{fd:FuncData}(F:Fun K x qual st f fd)(h:∀(kV doc pm:Value) (an:Option Addr) (cdv ct:Value) (a0 a1:Value),bindArgs (W.fnOf x qual (defArgs st) (defBody st) (defScope st) .none kV doc pm an cdv ct) ⟨[a0,a1],[]⟩=pure ([(p0,a0),(p1,a1)]):=by intros;rfl):Binds K fd [p0,p1] []:=F.binds fun _ _ _ _ _ _ us hl=>len2 us hl fun a0 a1=>h _ _ _ _ _ _ a0 a1
theorem bd3{K:W.Frag}{x qual p0 p1 p2:Str}{st:Stmt}{f:Addr}{fd:FuncData}(F:Fun K x qual st f fd)(h:∀(kV doc pm:Value) (an:Option Addr) (cdv ct:Value) (a0 a1 a2:Value),bindArgs (W.fnOf x qual (defArgs st) (defBody st) (defScope st) .none kV doc pm an cdv ct) ⟨[a0,a1,a2],[]⟩=pure ([(p0,a0),(p1,a1),(p2,a2)]):=by intros;rfl):Binds K fd [p0,p1,p2] []:=F.binds fun _ _ _ _ _ _ us hl=>len3 us hl fun a0 a1 a2=>h _ _ _ _ _ _ a0 a1 a2
theorem bd4{K:W.Frag}{x qual p0 p1 p2 p3:Str}{st:Stmt}{f:Addr}{fd:FuncData}(F:Fun K x qual st f fd)(h:∀(kV doc pm:Value) (an:Option Addr) (cdv ct:Value) (a0 a1 a2 a3:Value),bindArgs (W.fnOf x qual (defArgs st) (defBody st) (defScope st) .none kV doc pm an cdv ct) ⟨[a0,a1,a2,a3],[]⟩=pure ([(p0,a0),(p1,a1),(p2,a2),(p3,a3)]):=by intros;rfl):Binds K fd [p0,p1,p2,p3] []:=F.binds fun _ _ _ _ _ _ us hl=>len4 us hl fun a0 a1 a2 a3=>h _ _ _ _ _ _ a0 a1 a2 a3
noncomputable def Ite(K:W.Frag)(l:Addr):It:=
 ⟨fun i H=>∃ xs x,SqL K H l xs/\xs[i]?=some x,
  fun i H v H'=>∃ T x,H T=none/\v=.ref T/\(∀ xs,SqL K H l xs->xs[i]?=some x)/\H'=upd H T (.tup [.int i,x]),
  fun i H=>∃ xs,SqL K H l xs/\xs.length<=i⟩
theorem turn_enum{P:Program}{w:World}{K:W.Frag}{elts:List Expr}{k:Nat}{pos:Pos}(l e it:Addr)(hne:e≠it):Turn P w K (.Tuple elts k pos) (Ite K l) [e,it] e
 (fun i h=>(∃ old,IsEnum h e it ((i:Nat):Int) old)/\h.IsListIter it l i) where
 mem:=by simp
 obj:=fun i h st b hb=>by
  obtain⟨⟨old,s1⟩,⟨o1,e1,c1,d1⟩⟩:=st;simp only[List.mem_cons,List.not_mem_nil,or_false]at hb;rcases hb with rfl | rfl
  · exact⟨_,s1,fun v q=>by cases q⟩
  exact⟨_,e1,fun v q=>by rw[d1]at q;cases q⟩
 keep:=fun i h h' st kk=>by
  obtain⟨⟨old,s1⟩,s4⟩:=st;exact⟨⟨old,kk e (by simp) _ s1⟩,s4.at fun o g=>kk it (by simp) o g⟩
 item:=by
  intro X hP hw hK hc i pins s σ H E I hf st hg;subst hP hw hK;obtain⟨xs,x,hl,hx⟩:=hg;obtain⟨⟨old,s1⟩,s4⟩:=st;obtain⟨its1,rv1,p1,hz1⟩:=I.list hl;obtain⟨u1,hu1,ru1⟩:=rv1.get hx;refine wpAny_pyNext_enum_item s1 s4 p1.isList (x:=u1) (by simpa using hu1) hne fun h1 a1 a4 a5 a6 kk=>?_
  refine⟨_,rfl,wpAny_letOwnedTupleGo_enum a1 fun h2 b1 sb=>?_⟩;have ezT:s.heap.objs.size≠e:=Nat.ne_of_gt (Heap.lt_size s1);have g5:h2.get? s.heap.objs.size=some { cls:=.type "tuple",data:=.seq #[.int i s.toks,u1] }:=sb.extBut _ _ ezT a5;have keep2:∀ b u,b∉[e,it]->s.heap.get? b=some u->h2.get? b=some u:=fun b u hb g=>by
   simp only[List.mem_cons,List.not_mem_nil,or_false,not_or]at hb;exact sb.extBut _ _ hb.1 (kk b u hb.1 hb.2 g)
  have I2:=Inv.turnedNew (t':=s.toks+1) (h':=h2) (a:=s.heap.objs.size) (o:=.tup [.int i,x]) I keep2 hf (Nat.le_refl _)
   ⟨by show(2:Nat)<=sizeLine;decide,[.int i s.toks,u1],.cons ⟨_,rfl⟩ (.cons ru1 .nil),_,g5,rfl,_,rfl⟩
  refine⟨.ref s.heap.objs.size,_,I2,rfl,⟨_,x,I.hok.fresh (Nat.le_refl _),rfl,fun zs hz=>by rw[I.list_inj hz hl];exact hx,rfl⟩,⟨⟨_,b1⟩,a4.extBut sb.extBut hne.symm⟩,fun b hb=>?_⟩
  rw[upd_ne ?_]
  · exact(hf b hb).1
  obtain⟨o1,e1,_⟩:=s4;simp only[List.mem_cons,List.not_mem_nil,or_false]at hb;rcases hb with rfl | rfl
  · exact Nat.ne_of_lt (Heap.lt_size s1)
  exact Nat.ne_of_lt (Heap.lt_size e1)
 done:=by
  intro X hP hw hK hc i pins s σ H E I hf st hg;subst hP hw hK;obtain⟨xs,hl,hx⟩:=hg;obtain⟨⟨old,s1⟩,s4⟩:=st;obtain⟨its1,rv1,p1,hz1⟩:=I.list hl;have l1:=rv1.length;refine wpAny_pyNext_enum_end (I.ok.hd hc) s1 s4 p1.isList (by simp;omega) fun h1 kk=>⟨rfl,Inv.turnedL (t':=s.toks) I (fun b u hb g=>?_) hf⟩
  simp only[List.mem_cons,List.not_mem_nil,or_false,not_or]at hb;exact kk b u hb.2 g
 self:=fun _ _ _ _ _ st h=>by
  obtain⟨⟨old,s1⟩,_⟩:=st;exact wpAny_pyIter_enum s1 h
theorem b_enumerate:bootBuiltins "enumerate"=some (.type "enumerate"):=by decide +kernel
section
variable{X:Cx}{elts:List Expr}{k:Nat}{tp:Pos}
noncomputable def iEnum(K:W.Frag)(ta:TA):TI:=fun σ H R=>ta σ H fun vs H1=>∃ l,vs=[.ref l]/\(∃ xs,SqL K H1 l xs)/\R (Ite K l) H1
theorem pi_enum{a:Expr}{ta:TA}{p pos:Pos}(hg:Gl X "enumerate")(hm:X.mg "enumerate"=none)(ha:PA X [a] ta)(hs:starEach [a] X.env=[(false,eval a X.env)]) :
 PI X (.Tuple elts k tp) (.Call (.Name "enumerate" p) [a] [] pos) (iEnum X.K ta):=by
 intro pins s σ H R I h;refine Call_ (ld_blt I hg hm b_enumerate (PyProof.Rows.callWith_type1 (thn (ha pos pins s σ H _ I h) fun us s1 ⟨vs,H1,I1,r1,q1⟩=>?_) hs rfl));obtain⟨l,e,⟨xs,hl⟩,q⟩:=q1;subst e;obtain⟨u,rfl,ru⟩:=vals1 r1;cases ru;obtain⟨its1,rv1,p1,_⟩:=I1.list hl;refine call_enumerate_list p1.isList fun h' he hit hsz hk=>wpAny_pyIter_enum he ?_;refine⟨s1.heap.objs.size+1,[s1.heap.objs.size+1,s1.heap.objs.size],_,_,H1,rfl,I1.kept (t':=s1.toks) hk,turn_enum l _ _ (Nat.succ_ne_self _),⟨⟨_,he⟩,hit⟩,fun b hb=>?_,q⟩;have hb':s1.heap.objs.size<=b:=by
  simp only[List.mem_cons,List.not_mem_nil,or_false]at hb;rcases hb with rfl | rfl
  · exact Nat.le_add_right _ 1
  exact Nat.le_refl _
 exact I1.fpOk hb' (I1.hok.fresh hb')
end
namespace B
theorem ienum{X:Cx}{elts:List Expr}{k:Nat}{tp:Pos}{a:Expr}{t:TA}{p pos:Pos}(hm:X.mg "enumerate"=none)(ha:Bx (PA X [a] t))(hg:Gl X "enumerate":=by rfl)(h1:plainE a=true:=by rfl):Bx (PI X (.Tuple elts k tp) (.Call (.Name "enumerate" p) [a] [] pos) (iEnum X.K t)):=
 ⟨pi_enum hg hm ha.out (by rw[star_of h1];rfl)⟩
end B
theorem wEnum{K:W.Frag}{σ:L2.St}{H:Hp}{ta:TA}{R:It->Hp->Prop}(h:ta σ H fun vs H1=>∃ l,vs=[.ref l]/\(∃ xs,SqL K H1 l xs)/\R (Ite K l) H1):iEnum K ta σ H R:=h
theorem for_enum{K:PySem.W.Frag}{l:Addr}{xs:List V}{g:TG}{tb:TS}{D:Ends}{σ:L2.St}{H:Hp}(Pv:Nat->L2.St->Hp->Prop)(h0:Pv 0 σ H)(hl:∀ i σ H,Pv i σ H->SqL K H l xs)
 (hs:∀ i x σ H T,xs[i]?=some x->H T=none->Pv i σ H->g (.ref T) σ (upd H T (.tup [.int i,x])) fun σ2 H2=>tb { D with nx:=Pv (i+1),ct:=Pv (i+1),bk:=D.nx } σ2 H2) (hd:∀ σ H,Pv xs.length σ H->D.nx σ H) :
 ∃ W:Nat->Nat->L2.St->Hp->Prop,(∃ m,W 0 m σ H) /\ ∀ i m σ H,W i m σ H ->
   ((Ite K l).stop i H/\D.nx σ H)∨((Ite K l).go i H /\ ∃ N:L2.St->Hp->Prop,(∀ σ' H',N σ' H' -> ∃ m',m' < m/\W (i+1) m' σ' H') /\ ∀ x H',(Ite K l).yld i H x H'->g x σ H' fun σ2 H2=>tb { D with nx:=N,ct:=N,bk:=D.nx } σ2 H2):=by
 refine⟨fun i m σ H=>m=xs.length - i/\i<=xs.length/\Pv i σ H,⟨xs.length,by simp,Nat.zero_le _,h0⟩,?_⟩
 rintro i m σ H ⟨rfl,hi,p⟩;have q:=hl i σ H p;by_cases hlt:i < xs.length
 · refine .inr ⟨⟨xs,xs[i],q,by simp[hlt]⟩,Pv (i+1),fun σ' H' p'=>⟨xs.length - (i+1),by omega,rfl,hlt,p'⟩,fun v H' y=>?_⟩
   obtain⟨T,x,hT,rfl,hx,rfl⟩:=y;exact hs i x σ H T (hx xs q) hT p
 have e:i=xs.length:=by omega
 subst e;exact .inl ⟨⟨xs,q,Nat.le_refl _⟩,hd _ _ p⟩
theorem b_sorted:bootBuiltins "sorted"=some (.builtin "sorted"):=by decide +kernel
section
variable{prog:Program}{w:World}{A:Around}{E:Value->Shared->Prop}{s:Shared}{T:String}{r d:Addr}{n:Nat}{P:Nat->Value->Prop}{OK:Heap->Prop}
theorem collect_code{R:Result->Shared->Prop}(K:W.KdlSrc prog w T r d n P OK)(hh:A.handled=none)(hok:OK s.heap)(hn:n<=sizeLine)
 (hR:∀ h' tk acc' c',(∀ b o,s.heap.get? b=some o->h'.get? b=some o)->h'.get? s.heap.objs.size=some { cls:=.type "list",dict:=none,data:=.seq acc' c',slots:=#[] } -> ItemsOf P acc' n->R (.ok (.ret (.ref s.heap.objs.size))) { s with heap:=h',toks:=tk }) :
 codeAny (model prog w) A (.builtin "proto.collect" ⟨[.ref r],[]⟩) R s:=by
 have hlt:=K.there _ hok;refine codeAny_builtin PySem.F.entry_proto_collect ?_;rw[Around.under_plainId PySem.F.plain_proto_collect _];show wpAny _ A.in1 (newList [] >>= fun l=>again (.builtin "list.__iadd__" ⟨[l,.ref r],[]⟩)) _ _ s;refine wpAny_bind (wpAny_newObj_type ?_);refine wpAny_pure ⟨plainId_quiet PySem.F.plain_list_iadd _,codeAny_builtin PySem.F.entry_list_iadd ?_⟩;rw[Around.under_plainId PySem.F.plain_list_iadd _];have hS₁:(s.heap.push { cls:=.type "list",data:=.seq ([]:List Value).toArray }).get? s.heap.objs.size=some { cls:=.type "list",data:=.seq ([]:List Value).toArray }:=Heap.get?_push_size _ rfl;exact W.kdl_extend (A:=A) (R:=R) (s:={ s with heap:=s.heap.push { cls:=.type "list",data:=.seq ([]:List Value).toArray } }) K hh (K.keep _ _ hok fun b _ o e=>Heap.get?_push_of_some _ e) _ (Nat.ne_of_gt hlt.1) (Nat.ne_of_gt hlt.2) (.ref s.heap.objs.size) _ hS₁ (fun h' tk acc' c' hk hS' hacc=>
  hR h' tk acc' c' (fun b o e=>hk b o (Nat.ne_of_lt (Heap.lt_size e)) (Heap.get?_push_of_some _ e)) hS' hacc) hn
theorem collect_src{Q:List Value->Shared->Prop}(K:W.KdlSrc prog w T r d n P OK)(hh:A.handled=none)(hok:OK s.heap)(hn:n<=sizeLine)
 (h:∀ h' tk (acc:Array Value),(∀ b o,s.heap.get? b=some o->h'.get? b=some o)->s.heap.objs.size < h'.objs.size->ItemsOf P acc n->Q acc.toList { s with heap:=h',toks:=tk }) :
 wpAny (model prog w) A (collect (.ref r)) Q E s:=by
 unfold collect;refine wpAny_bind (wpAny_runValue (collect_code K hh hok hn fun h' tk acc' c' hk hS' hacc=>?_));show wpAny _ A (load s.heap.objs.size >>= _) _ _ _;refine wpAny_bind (wpAny_load hS' ?_);exact wpAny_pure (h h' tk acc' hk (Heap.lt_size hS') hacc)
theorem sorted_src{ns:List Int}{Q:Value->Shared->Prop}(K:W.KdlSrc prog w T r d n P OK)(hh:A.handled=none)(hok:OK s.heap)(hn:n < 64)(hI:∀ acc:Array Value,ItemsOf P acc n->IntsAre acc.toList ns)
 (h:∀ h' tk a (out:Array Value) (ns':List Int) e,(∀ b o,s.heap.get? b=some o->h'.get? b=some o)->s.heap.objs.size<=a->h'.get? a=some (seqObj "list" out e)->IntsAre out.toList ns'->ns'.Perm ns->ns'.Pairwise (· <= ·)->Q (.ref a) { s with heap:=h',toks:=tk }) :
 wpAny (model prog w) A (call (.builtin "sorted") [.ref r]) Q E s:=by
 refine Calls.call_function_entry kind_sorted plain_sorted entry_sorted (args_sorted1 _) ?_;unfold Builtin.«sorted»;refine wpAny_bind (m:=checkCount "sorted" 1 1 _) (wpAny_pure ?_);refine wpAny_bind (collect_src K hh hok (Nat.le_trans (Nat.le_of_lt hn) (by decide)) fun h' tk acc hk hsz hacc=>?_)
 refine wpAny_bind (wpAny_newList ?_ (by rw[Array.length_toList,hacc.1];exact Nat.le_trans (Nat.le_of_lt hn) (by decide)))
 have hoL:(h'.push (seqObj "list" acc.toList.toArray 0)).get? h'.objs.size=some (seqObj "list" acc.toList.toArray 0):=Heap.get?_push_size _ rfl;have hl:acc.toList.length < 64:=by rw[Array.length_toList,hacc.1];exact hn
 refine wpAny_bind (wpAny_holding (wpAny_call_entry slot_list_sort ⟨_,hoL,rfl⟩ entry_list_sort (list_sort_tree hoL (hI acc hacc) hl fun out ns' a1 a2 a3=>⟨_,rfl,?_⟩) (args_list_sort _)));obtain⟨e,he⟩:=sortedHeap_at (out:=out) hoL;refine wpAny_pure ⟨_,rfl,h _ tk h'.objs.size out ns' e (fun b o hb=>?_) (Nat.le_of_lt hsz) he a1 a2 a3⟩;have hb':=hk b o hb;have hlt:=Heap.lt_size hb';rw[sortedHeap_old (Nat.ne_of_lt hlt) (by rw[size_push'];exact Nat.lt_succ_of_lt hlt)]
 exact Heap.get?_push_of_some _ hb'
end
theorem ints_at:∀(ns:List Int) (vs:List Value),vs.length=ns.length->(∀(i:Nat) v,vs[i]?=some v -> ∃ n t,ns[i]?=some n/\v=.int n t)->IntsAre vs ns
 | [],[],_,_=>.nil
 | [],_::_,h,_=>by simp at h
 | _::_,[],h,_=>by simp at h
 | n::ns,v::vs,h,g=>by
   obtain⟨k,t,e,rfl⟩:=g 0 v rfl;cases (Option.some.inj e);exact .cons n t (ints_at ns vs (by simpa using h) fun i v e=>by simpa using g (i+1) v (by simpa using e))
theorem vals_ints:∀{vs:List Value}{ns:List Int},IntsAre vs ns->Vals (ns.map V.int) vs
 | _,_,.nil=>.nil
 | _,_,.cons n t r=>.cons ⟨t,rfl⟩ (vals_ints r)
section
variable{X:Cx}{e st:Expr}{te ts:TE}{pos p2:Pos}
end
section
variable{K:W.Frag}{a D:Addr}{xs:List V}{σ0:L2.St}{H1:Hp}{gt:TG}{tt:TT}{te:TE}
theorem comp_tup{Qf:Hp->Prop}(Pv:Nat->L2.St->Hp->Prop)(h0:Pv 0 σ0 H1)(hl:∀ i σ H,i<=xs.length->Pv i σ H->SqT K H a xs)
 (step:∀ i x σ' H',xs[i]?=some x->i < xs.length->Pv i σ' H'->tt (σ'.set 0 (some x)) H' fun ok H3=>if ok=true then te (σ'.set 0 (some x)) H3 (fun y H4=>CN Pv xs.length i D (σ'.set 0 (some x)) y H4)else CO Pv xs.length i (σ'.set 0 (some x)) H3)
 (fin:∀ σ H,Pv xs.length σ H->Qf H) :
 ∃ W:Nat->Nat->L2.St->Hp->Prop,(∃ m,W 0 m σ0 H1) /\ ∀ i m σ' H',W i m σ' H'->((Itt K a).stop i H'/\Qf H')∨((Itt K a).go i H' /\ ∀ x H2,(Itt K a).yld i H' x H2->tt (σ'.set 0 (some x)) H2 fun ok H3=>
   if ok=true then te (σ'.set 0 (some x)) H3 fun y H4=>∃ ys,H4 D=some (.lst ys)/\ys.length < sizeLine /\ ∃ m',m' < m/\W (i+1) m' (σ'.set 0 (some x)) (upd H4 D (.lst (ys++[y])))
   else ∃ m',m' < m/\W (i+1) m' (σ'.set 0 (some x)) H3):=by
 refine⟨fun i m σ H=>m=xs.length - i/\i<=xs.length/\Pv i σ H,⟨xs.length,by omega,Nat.zero_le _,h0⟩,?_⟩
 rintro i m σ' H' ⟨rfl,hi,p⟩;have q:=hl i σ' H' hi p;by_cases hlt:i < xs.length
 · refine .inr ⟨⟨xs,xs[i],q,by simp[hlt]⟩,fun x H2 y=>?_⟩
   obtain⟨rfl,y⟩:=y;exact step i x σ' _ (y xs q) hlt p
 have e:i=xs.length:=by omega
 subst e;exact .inl ⟨⟨xs,q,Nat.le_refl _⟩,fin _ _ p⟩
end
section
variable{X:Cx}
noncomputable def rMulB:R2:=rI (fun i j=>IntMulOk i j) fun i j=>.int (i*j)
theorem op_mulB:OpR X (binaryOp .Mult) rMulB:=opI fun _ _ _ _ _ _ _ hc q=>mul_int q hc
end
noncomputable def TK(H H':Hp):Prop:=∀ a xs,H a=some (.tup xs)->H' a=some (.tup xs)
theorem Same.tk{H H':Hp}(s:Same H H'):TK H H':=fun a xs e=>s a _ e
theorem KeepBut.tk{p:Addr}{H H':Hp}{xs:List V}(s:KeepBut p H H')(hp:H p=some (.lst xs)):TK H H':=fun a ys e=>s a _ (ne_of e hp (by intro z;cases z)) e
theorem paired_len{α β:Type}{F:α -> β -> Prop}:∀{xs:List α}{ys:List β},Paired F xs ys->xs.length=ys.length
 | _,_,.nil=>rfl
 | _,_,.cons _ t=>by rw[List.length_cons,List.length_cons,paired_len t]
theorem paired_get{α β:Type}{F:α -> β -> Prop}:∀{xs:List α}{ys:List β}{i:Nat}{v:α},Paired F xs ys->xs[i]?=some v -> ∃ d,ys[i]?=some d/\F v d
 | _,_,_,_,.nil,h=>by simp at h
 | _,_,0,v,.cons (b:=b) hd _,g=>by
   simp at g;subst g;exact⟨b,rfl,hd⟩
 | _,_,i+1,v,.cons _ t,g=>by
   obtain⟨d,e,h⟩:=paired_get (i:=i) t (by simpa using g)
   exact⟨d,by simpa using e,h⟩
theorem paired_append{α β:Type}{F:α -> β -> Prop}{xs2:List α}{ys2:List β}(g:Paired F xs2 ys2):∀{xs:List α}{ys:List β},Paired F xs ys->Paired F (xs++xs2) (ys++ys2)
 | _,_,.nil=>g
 | _,_,.cons h t=>.cons h (paired_append g t)
end SW
namespace SW
open PySem PySem.Spec PyProof.Rows L2
namespace B
end B
noncomputable def Pot(H:Hp)(p:Addr):Prop:=∃ a b c:Int,H p=some (.lst [.int a,.int b,.int c])
theorem Pot.same{H H':Hp}{p:Addr}(r:Pot H p)(s:Same H H'):Pot H' p:=by
 obtain⟨a,b,c,h⟩:=r;exact⟨a,b,c,s _ _ h⟩
theorem Pot.new{H:Hp}{p q:Addr}{o:HO}(r:Pot H p)(h:H q=none):Pot (upd H q o) p:=r.same (Same.new h)
theorem Pot.ne0{H:Hp}{p q:Addr}(r:Pot H p)(h:H q=none):p≠q:=by
 obtain⟨a,b,c,e⟩:=r;exact ne_of_none e h
theorem Pot.neT{H:Hp}{p q:Addr}{xs:List V}(r:Pot H p)(h:H q=some (.tup xs)):q≠p:=by
 obtain⟨a,b,c,e⟩:=r;exact ne_of h e (by intro z;cases z)
theorem Pot.tk{H H':Hp}{p:Addr}(r:Pot H p)(k:KeepBut p H H'):TK H H':=by
 obtain⟨a,b,c,e⟩:=r;exact k.tk e
noncomputable def spMixedP:Sp:=fun vs H Q _=>∃ c k:Int,vs=[.int c,.int k] /\ ∀ r:Int,Q (.int r) H
noncomputable def spPotP:Sp:=fun vs H Q _=>∃ c:Int,vs=[.int c] /\ ∀ p H',H p=none->Same H H'->Pot H' p->Q (.ref p) H'
noncomputable def spTakeP:Sp:=fun vs H Q _=>∃(p:Addr) (m:Int),vs=[.ref p,.int m]/\0 < m/\m < 18446744073709551616/\Pot H p /\ ∀ r H',0<=r->r < m->Pot H' p->KeepBut p H H'->Q (.int r) H'
noncomputable def spWorthP:Sp:=fun vs H Q _=>∃ p:Addr,vs=[.ref p]/\Pot H p /\ ∀(z:Int) H',Pot H' p->KeepBut p H H'->Q (.int z) H'
section
variable{H:Hp}{Q:VK}{E:XK}{p:Addr}
theorem wMixedP{c k:Int}(h:∀ r:Int,Q (.int r) H):spMixedP ([.int c,.int k]++[]) H Q E:=⟨c,k,rfl,h⟩
theorem wPotP{c:Int}(k:∀ p H',H p=none->Same H H'->Pot H' p->Q (.ref p) H'):spPotP ([.int c]++[]) H Q E:=⟨c,rfl,k⟩
theorem wTakeP{m:Int}(hp:Pot H p)(h0:0 < m)(h1:m < 18446744073709551616)(k:∀ r H',0<=r->r < m->Pot H' p->KeepBut p H H'->Q (.int r) H'):spTakeP ([.ref p,.int m]++[]) H Q E:=⟨p,m,rfl,h0,h1,hp,k⟩
theorem wWorthP(hp:Pot H p)(k:∀(z:Int) H',Pot H' p->KeepBut p H H'->Q (.int z) H'):spWorthP ([.ref p]++[]) H Q E:=⟨p,rfl,hp,k⟩
end
section
variable{C:Addr}{H:Hp}{Q:VK}{E:XK}{p wa oa:Addr}{L:LS}
end
section
variable{C:Addr}{H H':Hp}{p:Addr}{L:LS}{wa oa:Addr}
end
theorem mul_lit:IntMulOk (10 ^ Int.toNat 50) (10 ^ Int.toNat 50):=IntMulOk.of_bits (by decide +kernel) (by decide +kernel)
theorem mul_lit2:IntMulOk (10 ^ Int.toNat 50*10 ^ Int.toNat 50) (10 ^ Int.toNat 50):=IntMulOk.of_bits (by decide +kernel) (by decide +kernel)
end SW
namespace SW
open PySem PySem.Spec PyProof.Rows L2
section
variable{X:Cx}{scope:Scope}{cl:List (Str×Addr)}{os:List Str}{js:List Nat}{N':List Str}{elt tgt iter:Expr}{ifs:List Expr}{pos:Pos}{wi:TI}{gt:TG}{tt:TT}{te:TE}
end
namespace B
end B
section
variable{X:Cx}{pins:List (Addr×Obj)}{σ:L2.St}{H:Hp}{s:Shared}
end
section
variable{a D:Addr}{o:Obj}{kvs:List (Key×V)}{σ0:L2.St}{H1:Hp}{tt:TT}{te:TE}
end
section
variable{K:W.Frag}{H:Hp}
end
theorem pairs_lay:∀ r:MRow,PyData.canLayAll0 (r.map fun p=>PyData.tuple [.int p.1,.int p.2])=true
 | []=>rfl
 | _::r=>pairs_lay r
theorem pairs_deep:∀ r:MRow,PyData.depthAll (r.map fun p=>PyData.tuple [.int p.1,.int p.2])<=1
 | []=>by decide
 | _::r=>by
   have:=pairs_deep r;simp only[List.map_cons,PyData.depthAll,PyData.depth];omega
namespace B
end B
namespace B
end B
end SW
namespace SW
open PySem PySem.Spec PyProof.Rows L2
section
variable{X:Cx}{elts:List Expr}{k:Nat}{tp:Pos}
end
end SW
namespace SW
open PySem PySem.Spec PyProof.Rows L2
section
variable{prog:Program}{w:World}{A:Around}{E:Value->Shared->Prop}{s:Shared}
end
section
variable{X:Cx}
end
section
variable{X:Cx}
end
section
variable{X:Cx}
end
section
variable{X:Cx}
end
instance (n:Nat):Decidable (isSize n):=inferInstanceAs (Decidable (n∈[4,8,16,32,64,128,256,512,1024,2048,4096]))
namespace B
end B
theorem take_snocF{α:Type}{xs:List α}{i:Nat}{v:α}(h:xs[i]?=some v):xs.take (i+1)=xs.take i++[v]:=by rw[List.take_add_one,h];rfl
section
variable{X:Cx}
end
section
variable{X:Cx}
end
section
variable{t:Addr}{pc:Int}{ve:V}{mv:Int}{qn sp:Addr}
end
section
variable{H H':Hp}{md t sp qn qe:Addr}{ve:V}{f m:Int}{pc:Nat}{M:MT}{ss:Spots}{lsN lsE:List Addr}{F G:Addr->Prop}
end
section
variable{H H' H3:Hp}{md t sp qn qe q:Addr}{ve:V}{f m:Int}{pc:Nat}{M:MT}{ss:Spots}{lsN lsE ls:List Addr}{R:MRows}
end
section
variable{prog:Program}{w:World}{A:Around}{E:Value->Shared->Prop}{s:Shared}
end
section
variable{X:Cx}
end
end SW
set_option maxHeartbeats 4000000
namespace SW
open PySem PySem.Spec PyProof.Rows L2
noncomputable def rowE(r:MRow):PyData:=.tuple (r.map fun p=>.tuple [.int p.1,.int p.2])
noncomputable def elE:Option MRows->PyData
 | none=>.none
 | some E=>.tuple (E.map rowE)
noncomputable def stE(M:MT):PyData:=.tuple [elE M.el,.int (M.mv:Nat),.tuple (M.nw.map rowE)]
theorem RowU.dat{K:W.Frag}{H:Hp}{v:V}{r:MRow}(h:RowU H v r):DatV K H v (rowE r):=by
 obtain⟨b,ys,rfl,hb,p⟩:=h;exact .tup (SqT.of hb) p.dat
theorem rowsU_dat{K:W.Frag}{H:Hp}:∀{xs:List V}{R:MRows},Paired (RowU H) xs R->DatVs K H xs (R.map rowE)
 | _,_,.nil=>.nil
 | _,_,.cons h t=>.cons h.dat (rowsU_dat t)
theorem RowsU.dat{K:W.Frag}{H:Hp}{v:V}{R:MRows}(h:RowsU H v R):DatV K H v (.tuple (R.map rowE)):=by
 obtain⟨b,ys,rfl,hb,p⟩:=h;exact .tup (SqT.of hb) (rowsU_dat p)
theorem StU.dat{K:W.Frag}{H:Hp}{v:V}{M:MT}(h:StU H v M):DatV K H v (stE M):=by
 obtain⟨a,e,w,rfl,ha,he,hw⟩:=h;refine .tup (SqT.of ha) (.cons ?_ (.cons (.int _) (.cons hw.dat .nil)));cases z:M.el with
 | none=>rw[z]at he;rw[show e=.non from he];exact .non
 | some E=>rw[z]at he;exact RowsU.dat he
theorem rows_lay:∀ R:MRows,PyData.canLayAll0 (R.map rowE)=true
 | []=>rfl
 | r::R=>by
   show(PyData.canLayAll0 (r.map fun p=>PyData.tuple [.int p.1,.int p.2]) && PyData.canLayAll0 (R.map rowE))=true;rw[pairs_lay,rows_lay]
   rfl
theorem rows_deep(R:MRows):PyData.depthAll (R.map rowE)<=2:=by
 induction R with
 | nil=>decide
 | cons r R ih=>
   have:=pairs_deep r;simp only[List.map_cons,PyData.depthAll,rowE,PyData.depth];omega
theorem stE_lay(M:MT):(stE M).canLay0=true:=by
 show((elE M.el).canLay0 && (true && (PyData.canLayAll0 (M.nw.map rowE) && true)))=true;rw[rows_lay];cases M.el with
 | none=>rfl
 | some E=>show(PyData.canLayAll0 (E.map rowE) && (true && (true && true)))=true;rw[rows_lay];rfl
theorem stE_deep(M:MT):(stE M).depth<=60:=by
 have h:=rows_deep M.nw;have h2:(elE M.el).depth<=3:=by
  cases M.el with
  | none=>simp only[elE,PyData.depth];omega
  | some E=>have:=rows_deep E;simp only[elE,PyData.depth];omega
 simp only[stE,PyData.depth,PyData.depthAll];omega
theorem wEqSt{K:W.Frag}{H:Hp}{Q:VK}{x y:V}{M:MT}(h1:StU H x M)(h2:StU H y M)(q:Q (.bl true) H):rEqD K x y H Q:=wEqSame h1.dat h2.dat (stE_lay M) (stE_deep M) q
end SW
set_option maxHeartbeats 4000000
namespace SW
open PySem PySem.Spec PyProof.Rows L2
noncomputable def Rat(M:MT):Prop:=∀ E,M.el=some E->E.length=2*M.nw.length∨M.nw.length=2*E.length
end SW
set_option maxHeartbeats 2000000
namespace SW
open PySem PySem.Spec PyProof.Rows L2
section
variable{X:Cx}
end
end SW
set_option maxHeartbeats 2000000
namespace SW
open PySem PySem.Spec PyProof.Rows L2
section
variable{X:Cx}{pins:List (Addr×Obj)}{σ:L2.St}{H:Hp}{s:Shared}
theorem Inv.fewer{pins':List (Addr×Obj)}(I:L2.Inv X pins σ H s)(h:∀ p∈pins',p∈pins):L2.Inv X pins' σ H s:=I.pins_of fun p hp=>I.pin p (List.mem_append_right _ (h p hp))
theorem Inv.pinNew{o:Obj}{t:Nat}(I:L2.Inv X pins σ H s)(hc:∀ v,o.data ≠ .cell v)(hf:o.isFreed=false:=by rfl):L2.Inv X ((s.heap.objs.size,o)::pins) σ H { s with heap:=s.heap.push o,toks:=t }:=by
 have J:=I.kept (t':=t) (h':=s.heap.push o) fun b u e=>Heap.get?_push_of_some _ e;refine J.pins_of fun p hp=>?_;rcases List.mem_cons.mp hp with rfl | hp
 · exact⟨Heap.get?_push_size _ hf,I.hok.fresh (Nat.le_refl _),Nat.ne_of_gt I.lt,I.nofs (Nat.le_refl _),hc⟩
 exact J.pin p (List.mem_append_right _ hp)
theorem Inv.pinSet{a:Addr}{o o':Obj}{h':Heap}{t:Nat}(I:L2.Inv X ((a,o)::pins) σ H s)(hs:Heap.SameBut a s.heap h')(ho:h'.get? a=some o')(hc:∀ v,o'.data ≠ .cell v)(h0:X.s₀.heap.objs.size<=a)(hp:∀ p∈X.pn++pins,p.1≠a) :
 L2.Inv X ((a,o')::pins) σ H { s with heap:=h',toks:=t }:=by
 obtain⟨e1,e2,e3,e4,e5⟩:=I.pin (a,o) (List.mem_append_right _ List.mem_cons_self);have I0:L2.Inv X pins σ H s:=Inv.fewer I fun p hp=>List.mem_cons_of_mem _ hp;have J:=I0.turned (t':=t) (h':=h') (it:=a) (fun b u hb e=>(hs.2 b hb).trans e) e2 e3 (.inr h0) (fun x c e z=>by
  obtain⟨v,oc,h1,h2⟩:=I0.cell x c e;rw[z]at h1;have e1':s.heap.get? a=some o:=e1;rw[e1']at h1;cases h1;exact e5 v h2) hp
 refine J.pins_of fun p hp=>?_;rcases List.mem_cons.mp hp with rfl | hp
 · exact⟨ho,e2,e3,e4,hc⟩
 exact J.pin p (List.mem_append_right _ hp)
end
theorem seq_nocell(T:String)(its:Array Value)(n:Nat):∀ v,(seqObj T its n).data ≠ .cell v:=fun v z=>by cases z
section
variable{X:Cx}{pins:List (Addr×Obj)}{σ:L2.St}{H:Hp}{s:Shared}{kS D:Addr}{vs:List Value}{kz:List Int}{keys:Array Value}{e e1:Nat}{A:Around}{E:Value->Shared->Prop}{PP:PySem.Fin->Shared->Prop}
structure Two(X:Cx)(pins:List (Addr×Obj))(kS D:Addr):Prop where
 ne:kS≠D
 k0:X.s₀.heap.objs.size<=kS
 d0:X.s₀.heap.objs.size<=D
 pk:∀ p∈X.pn++pins,p.1≠kS
 pd:∀ p∈X.pn++pins,p.1≠D
theorem Two.pk'(Z:Two X pins kS D){o:Obj}:∀ p∈X.pn++((D,o)::pins),p.1≠kS:=fun p hp=>by
 rcases List.mem_append.mp hp with z | z
 · exact Z.pk p (List.mem_append_left _ z)
 rcases List.mem_cons.mp z with rfl | z
 · exact Z.ne.symm
 exact Z.pk p (List.mem_append_right _ z)
theorem Two.pd'(Z:Two X pins kS D){o:Obj}:∀ p∈X.pn++((kS,o)::pins),p.1≠D:=fun p hp=>by
 rcases List.mem_append.mp hp with z | z
 · exact Z.pd p (List.mem_append_left _ z)
 rcases List.mem_cons.mp z with rfl | z
 · exact Z.ne
 exact Z.pd p (List.mem_append_right _ z)
theorem sk_tail{st:SortSt}(Z:Two X pins kS D)(I:L2.Inv X ((kS,seqObj "list" keys e)::(D,seqObj "list" #[] e1)::pins) σ H s)(hk:IntsAre keys.toList kz)(hlen:kz.length=vs.length)(h64:vs.length < 64)
 (hp:(arrOf st).Perm (keys.zip vs.toArray)) (hs:SortedTo (arrOf st) (arrOf st).size) (hfl:failedOf st=none)
 (h:∀ s' out c,L2.Inv X ((D,seqObj "list" out c)::pins) σ H s'->KskOut false kz vs out.toList->PP (.done (.ret .none)) s') :
 wpAny (model X.prog X.w) A (ksk_tail D false e1 (.ref kS) st) PP E s:=by
 have nk:s.heap.get? kS=some (seqObj "list" keys e):=(I.pin _ (List.mem_append_right _ List.mem_cons_self)).1;have nd:s.heap.get? D=some (seqObj "list" #[] e1):=(I.pin (D,_) (List.mem_append_right _ (List.mem_cons_of_mem _ List.mem_cons_self))).1;have hsz:keys.size=vs.length:=by have h1:=hk.length;rw[Array.length_toList]at h1;omega
 have hsz2:(arrOf st).size=vs.length:=by rw[hp.size_eq,Array.size_zip,hsz,List.size_toArray,Nat.min_self]
 have s1:=Heap.SameBut.update s.heap kS (Obj.mapSeq fun _=>(#[]:Array Value));obtain⟨c1,hc1⟩:∃ c1,(s.heap.update kS (Obj.mapSeq fun _=>(#[]:Array Value))).get? kS=some (seqObj "list" #[] c1):=⟨_,get?_update_seq nk fun _=>#[]⟩;have I1:=Inv.pinSet (t:=s.toks) I s1 hc1 (seq_nocell _ _ _) Z.k0 Z.pk';have nd1:=(s1.2 D Z.ne.symm).trans nd;have s2:=Heap.SameBut.update (s.heap.update kS (Obj.mapSeq fun _=>(#[]:Array Value))) D (Obj.mapSeq fun _=>(arrOf st).map (·.2));obtain⟨c2,hc2⟩:∃ c2,((s.heap.update kS (Obj.mapSeq fun _=>(#[]:Array Value))).update D (Obj.mapSeq fun _=>(arrOf st).map (·.2))).get? D=some (seqObj "list" ((arrOf st).map (·.2)) c2):=⟨_,get?_update_seq nd1 fun _=>(arrOf st).map (·.2)⟩;have I2:=Inv.pinSet (t:=s.toks) (pins:=(kS,seqObj "list" #[] c1)::pins) (Inv.fewer I1 fun p hp=>by
  rcases List.mem_cons.mp hp with rfl | hp
  · exact List.mem_cons_of_mem _ List.mem_cons_self
  rcases List.mem_cons.mp hp with rfl | hp
  · exact List.mem_cons_self
  exact List.mem_cons_of_mem _ (List.mem_cons_of_mem _ hp)) s2 hc2 (seq_nocell _ _ _) Z.d0 Z.pd'
 unfold ksk_tail
 try dsimp only
 refine wpAny_bind (listUpdate_at (n:=e) nk rfl ?_ (by rw[hsz,sizeLine_eq];omega) (Nat.zero_le _))
 refine wpAny_bind (wpAny_letGo ?_);refine wpAny_bind (seqEpoch_at (n:=e1) nd1 rfl ?_);refine wpAny_bind (listUpdate_at (n:=e1) nd1 rfl ?_ (Nat.zero_le _) (Nat.le_trans (Nat.le_of_eq (by simp only[Bool.false_eq_true,if_false,Array.size_map];exact hsz2)) (by rw[sizeLine_eq];omega)))
 rw[hfl];simp only[bne_self_eq_false,Bool.false_eq_true,if_false];exact wpAny_pure (h _ _ c2 (Inv.fewer I2 fun p hp=>by
  rcases List.mem_cons.mp hp with rfl | hp
  · exact List.mem_cons_self
  exact List.mem_cons_of_mem _ (List.mem_cons_of_mem _ hp)) (ksk_out (b:=false) hk hp hs))
theorem sk_end(Z:Two X pins kS D)(I:L2.Inv X ((kS,seqObj "list" keys e)::(D,seqObj "list" #[] e1)::pins) σ H s)(hk:IntsAre keys.toList kz)(hlen:kz.length=vs.length)(h64:vs.length < 64)
 (h:∀ s' out c,L2.Inv X ((D,seqObj "list" out c)::pins) σ H s'->KskOut false kz vs out.toList->PP (.done (.ret .none)) s') :
 wpAny (model X.prog X.w) A (ksk_end D false vs.toArray e1 (.ref kS) keys) PP E s:=by
 have hsz:keys.size=vs.length:=by have h1:=hk.length;rw[Array.length_toList]at h1;omega
 have hzs:(keys.zip vs.toArray).size=vs.length:=by rw[Array.size_zip,hsz,List.size_toArray,Nat.min_self]
 unfold ksk_end;simp only[Bool.false_eq_true,if_false];by_cases h2:vs.toArray.size < 2
 · rw[if_pos h2,if_pos h2]
   refine wpAny_bind (wpAny_pure ?_);rw[StateT.run_pure];refine wpAny_bind (wpAny_pure ?_)
   try dsimp only
   refine sk_tail (st:=SortSt.mk' general' (keys.zip vs.toArray) #[] 7 none) Z I hk hlen h64 (Array.Perm.refl _) ?_ rfl h;intro i j hij hj;have hj2:j < (keys.zip vs.toArray).size:=hj;rw[hzs]at hj2;rw[List.size_toArray]at h2;have:i=j:=by omega
   subst this;exact Int.le_refl _
 rw[if_neg h2,if_neg h2];rw[List.size_toArray]at h2;rw[ksk_kind hk (by rw[hsz];omega)]
 refine wpAny_bind (wpAny_pure ?_);refine wpAny_bind (wpAny_mono (wpS_sortRuns (a₀:=keys.zip vs.toArray) (st:=SortSt.mk' oneType' (keys.zip vs.toArray) #[] 7 none)
  (Q:=fun _ st'=>(arrOf st').Perm (keys.zip vs.toArray)/\failedOf st'=none/\SortedTo (arrOf st') (keys.zip vs.toArray).size)
  (ksk_intKeys hk) ⟨Array.Perm.refl _,rfl,rfl,rfl⟩ (by rw[hzs];omega) (by rw[hzs];exact h64) fun st' a1 a2 a3=>⟨a1,a2,a3⟩) ?_ fun _ _ z=>z)
 rintro⟨⟨⟩,st'⟩ s' ⟨rfl,hp,hf,hs⟩
 try dsimp only
 exact sk_tail Z I hk hlen h64 hp (by rw[hp.size_eq];exact hs) hf h
theorem sk_rest{f:Value}(Z:Two X pins kS D)(I:L2.Inv X ((kS,seqObj "list" #[] 0)::(D,seqObj "list" #[] e1)::pins) σ H s)(hlen:kz.length=vs.length)(h64:vs.length < 64)
 (turn:∀(i:Nat) (v:Value) (k:Int),vs[i]?=some v->kz[i]?=some k -> ∀(own:List (Addr×Obj)) (s':Shared),L2.Inv X (own++pins) σ H s'->wpAny (model X.prog X.w) A (call f [v]) (fun u s''=>(∃ t,u=.int k t)/\L2.Inv X (own++pins) σ H s'') (fun _ _=>False) s')
 (h:∀ s' out c,L2.Inv X ((D,seqObj "list" out c)::pins) σ H s'->KskOut false kz vs out.toList->PP (.done (.ret .none)) s') :
 wpAny (model X.prog X.w) A (ksk_rest D f false vs.toArray e1 (.ref kS)) PP E s:=by
 unfold ksk_rest;refine wpAny_bind (wpAny_rule ?_)
 first
  | rw[List.forIn_toArray]
  | (rw[← Array.forIn_toList];simp only[List.toList_toArray])
 refine wpAny_bind (ksk_fold (fun i s'=>∃(kA:Array Value) (e:Nat),L2.Inv X ((kS,seqObj "list" kA e)::(D,seqObj "list" #[] e1)::pins) σ H s'/\IntsAre kA.toList (kz.take i)) vs 0 s ⟨#[],0,I,by simpa using IntsAre.nil⟩ ?_ ?_)
 · rintro j x s' hx ⟨kA,e,I',hk⟩
   simp only[Nat.zero_add]at hk ⊢;have hj:j < vs.length:=(List.getElem?_eq_some_iff.mp hx).1;obtain⟨k,hkj⟩:∃ k,kz[j]?=some k:=⟨_,List.getElem?_eq_getElem (by omega)⟩
   have hz:kA.size<=vs.length:=by have h1:=hk.length;rw[Array.length_toList,List.length_take]at h1;omega
   refine wpAny_bind (wpAny_attempt (wpAny_mono (turn j x k hx hkj [(kS,seqObj "list" kA e),(D,seqObj "list" #[] e1)] s' I') (fun v s'' he=>?_) fun _ _ hF=>hF.elim));obtain⟨⟨t2,rfl⟩,I2⟩:=he;have I2:L2.Inv X ((kS,seqObj "list" kA e)::(D,seqObj "list" #[] e1)::pins) σ H s'':=I2
   try dsimp only
   have nk:s''.heap.get? kS=some (seqObj "list" kA e):=(I2.pin _ (List.mem_append_right _ List.mem_cons_self)).1;have s1:=Heap.SameBut.update s''.heap kS (Obj.mapSeq (·.push (.int k t2)));obtain⟨c2,hc2⟩:∃ c2,(s''.heap.update kS (Obj.mapSeq (·.push (.int k t2)))).get? kS=some (seqObj "list" (kA.push (.int k t2)) c2):=⟨_,get?_update_seq nk (·.push (.int k t2))⟩;have ek:kz.take (j+1)=kz.take j++[k]:=by rw[List.take_add_one,hkj];simp
   have ea:(kA.push (Value.int k t2)).toList=kA.toList++[Value.int k t2]:=by simp
   refine wpAny_bind (listUpdate_at (n:=e) nk rfl ?_ (by rw[sizeLine_eq];omega) (Nat.le_trans (Nat.le_of_eq (Array.size_push ..)) (by rw[sizeLine_eq];omega)))
   exact wpAny_pure ⟨rfl,kA.push (.int k t2),c2,Inv.pinSet (t:=s''.toks) I2 s1 hc2 (seq_nocell _ _ _) Z.k0 Z.pk',by rw[ea,ek];exact ksk_snoc hk⟩
 rintro s' ⟨kA,e,I',hk⟩;have hk':IntsAre kA.toList kz:=by
  rw[List.take_of_length_le (by omega)]at hk
  exact hk
 have nk:s'.heap.get? kS=some (seqObj "list" kA e):=(I'.pin _ (List.mem_append_right _ List.mem_cons_self)).1
 try dsimp only
 refine wpAny_bind (listItems_at (n:=e) nk rfl ?_);exact sk_end Z I' hk' hlen h64 h
theorem sk_sort{f:Value}{n:Nat}(I:L2.Inv X ((D,seqObj "list" vs.toArray n)::pins) σ H s)(h0:X.s₀.heap.objs.size<=D)(hpd:∀ p∈X.pn++pins,p.1≠D)(hlen:kz.length=vs.length)(h64:vs.length < 64)
 (turn:∀(i:Nat) (v:Value) (k:Int),vs[i]?=some v->kz[i]?=some k -> ∀(own:List (Addr×Obj)) (s':Shared),L2.Inv X (own++pins) σ H s'->wpAny (model X.prog X.w) A (call f [v]) (fun u s''=>(∃ t,u=.int k t)/\L2.Inv X (own++pins) σ H s'') (fun _ _=>False) s')
 (h:∀ s' out c,L2.Inv X ((D,seqObj "list" out c)::pins) σ H s'->KskOut false kz vs out.toList->PP (.done (.ret .none)) s') :
 wpAny (model X.prog X.w) A (ksk_tree D f false) PP E s:=by
 have nd:s.heap.get? D=some (seqObj "list" vs.toArray n):=(I.pin _ (List.mem_append_right _ List.mem_cons_self)).1;have s1:=Heap.SameBut.update s.heap D (Obj.mapSeq fun _=>(#[]:Array Value));obtain⟨e1,nd1⟩:∃ e1,(s.heap.update D (Obj.mapSeq fun _=>(#[]:Array Value))).get? D=some (seqObj "list" #[] e1):=⟨_,get?_update_seq nd fun _=>#[]⟩;have I1:=Inv.pinSet (t:=s.toks) I s1 nd1 (seq_nocell _ _ _) h0 hpd;have I2:=Inv.pinNew (o:=seqObj "tuple" vs.toArray 0) (t:=s.toks) I1 (seq_nocell _ _ _);have I2':=Inv.fewer (pins':=(D,seqObj "list" #[] e1)::pins) I2 fun p hp=>List.mem_cons_of_mem _ hp;have I3:=Inv.pinNew (o:=seqObj "list" #[] 0) (t:=s.toks) I2' (seq_nocell _ _ _);unfold ksk_tree;refine wpAny_bind (listItems_at (n:=n) nd rfl ?_);refine wpAny_bind (listUpdate_at (n:=n) nd rfl ?_ (by rw[List.size_toArray,sizeLine_eq];omega) (Nat.zero_le _))
 refine wpAny_bind (seqEpoch_at (n:=e1) nd1 rfl ?_);refine wpAny_bind (wpAny_newTuple ?_ (by show vs.length<=sizeLine;rw[sizeLine_eq];omega))
 refine wpAny_bind (wpAny_newList ?_ (Nat.zero_le sizeLine));refine wpAny_holding ?_;refine sk_rest ⟨?_,?_,h0,?_,hpd⟩ I3 hlen h64 turn h
 · exact Nat.ne_of_gt (Heap.lt_size (I2'.pin (D,_) (List.mem_append_right _ List.mem_cons_self)).1)
 · exact I2'.sz
 intro p hp;refine Nat.ne_of_lt (Heap.lt_size (I2'.pin p ?_).1);rcases List.mem_append.mp hp with z | z
 · exact List.mem_append_left _ z
 exact List.mem_append_right _ (List.mem_cons_of_mem _ z)
end
theorem sk_sorted{X:Cx}{pins:List (Addr×Obj)}{σ:L2.St}{H:Hp}{s:Shared}{l f:Addr}{vs:List Value}{kz:List Int}{A:Around}{E:Value->Shared->Prop}{Q:Value->Shared->Prop}(I:L2.Inv X pins σ H s)(hl:s.heap.IsList l vs.toArray)(hlen:kz.length=vs.length)(h64:vs.length < 64)
 (turn:∀(i:Nat) (v:Value) (k:Int),vs[i]?=some v->kz[i]?=some k -> ∀(own:List (Addr×Obj)) (s':Shared),L2.Inv X (own++pins) σ H s'->wpAny (model X.prog X.w) A.in1.in1 (call (.ref f) [v]) (fun u s''=>(∃ t,u=.int k t)/\L2.Inv X (own++pins) σ H s'') (fun _ _=>False) s')
 (h:∀ D s' out c,L2.Inv X ((D,seqObj "list" out c)::pins) σ H s'->X.s₀.heap.objs.size<=D->(∀ p∈X.pn++pins,p.1≠D)->KskOut false kz vs out.toList->Q (.ref D) s') :
 wpAny (model X.prog X.w) A (call (.builtin "sorted") [.ref l] [(Str.ofString "key",.ref f)]) Q E s:=by
 refine call_function_entry_kw kind_sorted plain_sorted entry_sorted (ksk_s1 _ _) ?_;unfold Builtin.«sorted»;refine wpAny_bind (m:=checkCount "sorted" 1 1 _) (wpAny_pure ?_);refine wpAny_bind (collect_list (s:=s) hl ?_ (by rw[sizeLine_eq];omega))
 refine wpAny_bind (wpAny_newList ?_ (show _<=sizeLine by rw[sizeLine_eq];omega))
 have hlt:∀ b o,s.heap.get? b=some o->((s.heap.push (seqObj "list" #[] 0)).update s.heap.objs.size (Obj.mapSeq (· ++ vs.toArray))).get? b=some o:=fun b o q=>by
  have hb:b < s.heap.objs.size:=Heap.lt_size q;rw[Heap.get?_update_ne _ _ _ _ (Nat.ne_of_lt hb),Heap.get?_push_ne _ _ _ (Nat.ne_of_lt hb)];exact q
 have I1:=I.kept (t':=s.toks) hlt;have I2:=Inv.pinNew (o:=seqObj "list" vs.toArray 0) (t:=s.toks) I1 (seq_nocell _ _ _);have hD:X.s₀.heap.objs.size<=((s.heap.push (seqObj "list" #[] 0)).update s.heap.objs.size (Obj.mapSeq (· ++ vs.toArray))).objs.size:=I1.sz;have hpd:∀ p∈X.pn++pins,p.1≠((s.heap.push (seqObj "list" #[] 0)).update s.heap.objs.size (Obj.mapSeq (· ++ vs.toArray))).objs.size:=fun p hp=>Nat.ne_of_lt (Heap.lt_size (I1.pin p hp).1);have nd:=(I2.pin _ (List.mem_append_right _ List.mem_cons_self)).1;generalize hDe:((s.heap.push (seqObj "list" #[] 0)).update s.heap.objs.size (Obj.mapSeq (· ++ vs.toArray))).objs.size=D at *;show wpAny _ _ _ _ _ { s with heap:=((s.heap.push (seqObj "list" #[] 0)).update s.heap.objs.size (Obj.mapSeq (· ++ vs.toArray))).push (seqObj "list" vs.toArray 0) };refine wpAny_bind (wpAny_holding (wpAny_call_entry_kw slot_list_sort ⟨_,nd,rfl⟩ entry_list_sort ?body (ksk_l1 _ _)))
 case body=>
  show wpAny (model X.prog X.w) A.in1.in1 (Builtin.«list.sort» ⟨[.ref D],[(Str.ofString "key",.ref f)]⟩) _ _ _;rw[ksk_t1 f D];refine sk_sort I2 hD hpd hlen h64 turn fun s' out c I' ko=>⟨_,rfl,?_⟩;exact wpAny_pure ⟨_,rfl,h D s' out c I' hD hpd ko⟩
structure LamK(K:W.Frag)(mg:Str->Option Value)(c P:Addr):Prop where
 hd:∀ h:Heap,K.In h->W.CodeHd h c P
 bm:∃(b:Addr) (ob:Obj),mg "__builtins__"=some (.ref b)/\b≠builtinsNs/\b≠mainGlobals/\K.lookup b=some ob/\ob.cls=.type "module" /\ ob.dict=some builtinsNs/\ob.data=.plain
noncomputable def lamT(pos:Pos)(c':Addr):Array Value:=#[rawInt pos.line,rawInt pos.col,.ref c']
noncomputable def codeO(qual:Str)(c':Addr):HO:=.ext fun h=>h.CodeRec (.ref c') qual
noncomputable def LamH(pos:Pos)(qual:Str)(H:Hp)(P:Addr):Prop:=H P=some (.tbl #[]) ∨ ∃ c',H P=some (.tbl (lamT pos c'))/\H c'=some (codeO qual c')
theorem codeO_ok{P:Program}{w:World}{H:Hp}{h:Heap}{qual:Str}{c':Addr}(x:h.CodeRec (.ref c') qual):ObjOk P w H h c' (codeO qual c'):=by
 refine⟨x,?_,fun h1 h2 y k=>?_⟩
 · obtain⟨c,o,vs,t,e,g,_⟩:=x
   cases e;exact⟨o,g⟩
 obtain⟨c,o,vs,t,e,g,r⟩:=y;cases e;exact⟨c',o,vs,t,rfl,k o g,r⟩
theorem lamT_ok(pos:Pos)(c':Addr):TriplesOk (lamT pos c').toList:=trivial
theorem lamT_hit(pos:Pos)(c':Addr):codeAmong pos (lamT pos c').toList=some (.ref c'):=by
 show(if((pos.line:Int) == (pos.line:Int) && (pos.col:Int) == (pos.col:Int))=true then some (Value.ref c')else _)=_;rw[if_pos (by simp)]
section
variable{X:Cx}{pins:List (Addr×Obj)}{σ:L2.St}{H:Hp}{s:Shared}{c P:Addr}{pos:Pos}{qual:Str}{params:Arguments}{body:Expr}{scope:Scope}{firstLine:Nat}{E:Value->Shared->Prop}{Q:Value->Shared->Prop}{A:Around}
theorem make_lam(I:L2.Inv X pins σ H s)(L:LamK X.K X.mg c P)(hcode:X.env.code=.ref c)(hg:LamH pos qual H P)(hcl:closureFor scope X.env=pure [])
 (h:∀ f H' s' pm ctv c',LamH pos qual H' P->KeepBut P H H'->(∀ b,H' b≠none->H b≠none∨s.heap.objs.size<=b)->L2.Inv X ((f,W.kla_obj "<lambda>" qual params body scope [] pm c' ctv)::pins) σ H' s'->H' c'=some (codeO qual c')->Q (.ref f) s') :
 wpAny (model X.prog X.w) A (makeFunction "<lambda>" qual params (.expr body) scope X.env [] [] [] pos firstLine) Q E s:=by
 have hP:H P≠none:=by
  rcases hg with z | ⟨c',z,_⟩
  · rw[z];simp
  rw[z];simp
 have hgl:s.heap.Ns mainGlobals X.mg:=I.ok.mod.glob.keeps I.bk;have ngP:mainGlobals≠P:=fun z=>by
  obtain⟨o,es,ep,e1,_⟩:=I.ok.mod.glob;exact hP (z ▸ (I.bs _ _ e1).2)
 obtain⟨b,ob,b1,b2,b3,b4,b5,b6,b7⟩:=L.bm;have nbP:b≠P:=fun z=>hP (z ▸ (I.bs _ _ (I.ok.mod.kin _ _ b4)).2);have hB:s.heap.BuiltinsAt X.mg P:=⟨b,ob,b1,b2,b3,nbP,I.kIn _ _ b4,b5,b6,b7⟩;have nocell:∀ pm (c':Addr) ctv v,(W.kla_obj "<lambda>" qual params body scope [] pm c' ctv).data ≠ .cell v:=fun pm c' ctv v z=>by cases z
 rcases hg with z | ⟨c',z,zc⟩
 · have hp:s.heap.get? P=some (W.tabObj #[]):=I.hok P _ z
   refine W.kla_makeFunction hcl I.ok.glob hgl hcode (L.hd _ I.kIn) hp trivial rfl ngP hB fun c' ctv h' tk hx hge hlt hrec htb=>?_;have htb:h'.get? P=some (W.tabObj (lamT pos c')):=htb;have hc':H c'=none:=I.hok.fresh hge;have ncP:c'≠P:=fun y=>hP (y ▸ hc');have old:∀ b o,s.heap.get? b=some o->b≠c':=fun b o e=>Nat.ne_of_lt (Nat.lt_of_lt_of_le (Heap.lt_size e) hge);have at_:∀ b,b≠P->b≠c'->upd (upd H P (.tbl (lamT pos c'))) c' (codeO qual c') b=H b:=fun b n1 n2=>by rw[upd_ne n2,upd_ne n1]
   have hPn:upd (upd H P (.tbl (lamT pos c'))) c' (codeO qual c') P=some (.tbl (lamT pos c')):=by rw[upd_ne ncP.symm,upd_same]
   have ne_of:∀ b u,H b=some u->b≠c':=fun b u e=>ne_of_none e hc';have un:Un X.fs [] H (upd (upd H P (.tbl (lamT pos c'))) c' (codeO qual c')) s.heap h':=by
    refine⟨fun b o e n _ _=>hx b o (fun y=>hP (y ▸ n)) e,fun b o e n _ _=>⟨o.slots,hx b o (fun y=>hP (y ▸ n)) e⟩,fun b o e n _=>?_,fun b o e _=>?_,fun b xs e=>?_,fun b o u e=>?_,fun b ps e=>?_⟩
    · rw[at_ b (fun y=>hP (y ▸ n)) (old b o e)];exact n
    · by_cases y:b=P
      · exact⟨_,y ▸ htb⟩
      exact⟨o,hx b o y e⟩
    · rw[at_ b (fun y=>by rw[y,z]at e;cases e) (ne_of b _ e)];exact e
    · rw[at_ b (fun y=>by rw[y,z]at e;cases e) (ne_of b _ e)];exact e
    by_cases y:b=P
    · subst y
      rw[z]at e;cases e;exact⟨lamT pos c',by rw[hPn];simp⟩
    exact⟨#[],by rw[at_ b y (ne_of b _ e),e];simp⟩
   have hok:HOk X.prog X.w (upd (upd H P (.tbl (lamT pos c'))) c' (codeO qual c')) h':=fun b u e=>by
    by_cases y1:b=c'
    · subst y1
      rw[upd_same]at e;cases e;exact codeO_ok hrec
    by_cases y2:b=P
    · subst y2
      rw[hPn]at e;cases e;exact htb
    rw[at_ b y2 y1]at e;refine(I.hok b u e).stay (fun d v hd q=>hx d v ?_ q) (fun d q=>?_) fun d xs q=>?_
    · rcases hd with rfl | hd
      · exact y2
      intro y;rw[y,z]at hd;cases hd
    · rw[at_ d (fun y=>by rw[y,z]at q;cases q) (ne_of d _ q)];exact q
    rw[at_ d (fun y=>by rw[y,z]at q;cases q) (ne_of d _ q)];exact q
   have I1:=I.un (t':=tk) un hok;have I2:=Inv.pinNew (o:=W.kla_obj "<lambda>" qual params body scope [] ((X.mg "__name__").getD .none) c' ctv) (t:=tk) I1 (nocell _ _ _);refine h _ _ _ _ ctv c' (.inr ⟨c',hPn,upd_same⟩) (fun b o n e=>by rw[at_ b n (ne_of b _ e)];exact e) (fun b hb=>?_) I2 upd_same
   by_cases y1:b=c'
   · exact .inr (y1 ▸ hge)
   by_cases y2:b=P
   · exact .inl (y2 ▸ hP)
   rw[at_ b y2 y1]at hb;exact .inl hb
 have hp:s.heap.get? P=some (W.tabObj (lamT pos c')):=I.hok P _ z;refine W.kla_makeFunctionHit hcl I.ok.glob hgl hcode (L.hd _ I.kIn) hp (lamT_ok pos c') (lamT_hit pos c') hB fun ctv h' tk hk _=>?_;have I1:=I.kept (t':=tk) hk;have I2:=Inv.pinNew (o:=W.kla_obj "<lambda>" qual params body scope [] ((X.mg "__name__").getD .none) c' ctv) (t:=tk) I1 (nocell _ _ _);exact h _ _ _ _ ctv c' (.inr ⟨c',z,zc⟩) (fun b o _ e=>e) (fun b hb=>.inl hb) I2 zc
end
noncomputable def wo(K:W.Frag)(P:Addr):W.Frag:=K.filter fun p=>p.1 != P
theorem wo_self{P:Addr}:∀{K:W.Frag},(wo K P).lookup P=none
 | []=>rfl
 | (a,o)::K=>by
   unfold wo;by_cases h:a=P
   · subst h
     rw[List.filter_cons_of_neg (by simp)]
     exact wo_self
   rw[List.filter_cons_of_pos (by simpa using h),List.lookup_cons,beq_eq_false_iff_ne.mpr (Ne.symm h)]
   exact wo_self
theorem wo_ne{P b:Addr}(h:b≠P):∀{K:W.Frag},(wo K P).lookup b=K.lookup b
 | []=>rfl
 | (a,o)::K=>by
   unfold wo;by_cases ha:a=P
   · subst ha
     rw[List.filter_cons_of_neg (by simp),List.lookup_cons,beq_eq_false_iff_ne.mpr h]
     exact wo_ne h
   rw[List.filter_cons_of_pos (by simpa using ha),List.lookup_cons,List.lookup_cons]
   cases b == a with
   | true=>rfl
   | false=>exact wo_ne h
section
variable{K:W.Frag}{P:Addr}
theorem wo_sub{b:Addr}{o:Obj}(e:(wo K P).lookup b=some o):K.lookup b=some o:=by
 by_cases h:b=P
 · rw[h,wo_self]at e;cases e
 rw[wo_ne h]at e;exact e
theorem wo_In{h:Heap}(X:K.In h):(wo K P).In h:=fun b o e=>X b o (wo_sub e)
variable(hP:K.lookup P=some (W.tabObj #[]))
include hP
theorem wo_lk{b:Addr}{o:Obj}(e:K.lookup b=some o)(n:o.data ≠ .fields #[]):(wo K P).lookup b=some o:=by
 by_cases h:b=P
 · subst h
   rw[hP]at e;cases e;exact absurd rfl n
 rw[wo_ne h];exact e
theorem wo_nsIn{a:Addr}{x:Str}:W.nsIn (wo K P) a x=W.nsIn K a x:=by
 unfold W.nsIn;by_cases h:a=P
 · rw[h,wo_self,hP]
 rw[wo_ne h]
theorem wo_ownIn{x:Str}(v:Value):W.ownIn (wo K P) x v=W.ownIn K x v:=by
 cases v with
 | ref a=>
   unfold W.ownIn;by_cases h:a=P
   · dsimp only;rw[h,wo_self,hP]
   dsimp only;rw[wo_ne h]
   split
   · exact wo_nsIn hP
   rfl
 | _=>rfl
theorem wo_alongIn{x:Str}:∀ l:List Value,W.alongIn (wo K P) x l=W.alongIn K x l
 | []=>rfl
 | c::r=>by
   unfold W.alongIn;rw[wo_ownIn hP,wo_alongIn r]
theorem wo_findIn{t:Value}{x:Str}:W.findIn (wo K P) t x=W.findIn K t x:=by
 cases t with
 | ref a=>
   unfold W.findIn;by_cases h:a=P
   · dsimp only;rw[h,wo_self,hP]
   dsimp only;rw[wo_ne h]
   split
   · exact wo_alongIn hP _
   rfl
 | _=>rfl
theorem wo_clsIn{C:Addr}:W.clsIn (wo K P) C=W.clsIn K C:=by
 unfold W.clsIn;by_cases h:C=P
 · rw[h,wo_self,hP]
 rw[wo_ne h]
theorem wo_hasDictIn{C:Addr}:W.hasDictIn (wo K P) C=W.hasDictIn K C:=by unfold W.hasDictIn;rw[wo_clsIn hP]
theorem wo_plainOver{C:Addr}:W.plainOver (wo K P) C=W.plainOver K C:=by unfold W.plainOver;rw[wo_clsIn hP]
theorem wo_plainGet{C:Addr}{x:Str}:W.plainGet (wo K P) C x=W.plainGet K C x:=by unfold W.plainGet;rw[wo_findIn hP,wo_findIn hP]
theorem wo_typeIn{v t:Value}(n:t ≠ .none)(e:W.typeIn K v=some t):W.typeIn (wo K P) v=some t:=by
 cases v with
 | ref a=>
   unfold W.typeIn at e ⊢
   dsimp only at e ⊢
   by_cases h:a=P
   · rw[h,hP]at e
     cases e;exact absurd rfl n
   rw[wo_ne h];exact e
 | _=>exact e
theorem wo_isFn{v:Value}(e:W.isFn K v=true):W.isFn (wo K P) v=true:=by
 unfold W.isFn at e ⊢;exact beq_iff_eq.mpr (wo_typeIn hP (fun z=>by cases z) (beq_iff_eq.mp e))
theorem wo_specialIn{v:Value}{x:Str}{r:Value}(e:W.specialIn K v x=some (some r)):W.specialIn (wo K P) v x=some (some r):=by
 unfold W.specialIn at e ⊢;obtain⟨t,h1,h2⟩:=Option.bind_eq_some_iff.mp e;refine Option.bind_eq_some_iff.mpr ⟨t,wo_typeIn hP (fun z=>?_) h1,?_⟩
 · subst z;cases h2
 rw[wo_findIn hP];exact h2
theorem wo_keepIn{v:Value}(e:W.keepIn K v=true):W.keepIn (wo K P) v=true:=by
 cases v with
 | ref a=>
   unfold W.keepIn at e ⊢
   dsimp only at e ⊢
   by_cases h:a=P
   · rw[h,hP]at e;cases e
   rw[wo_ne h];split at e
   · rfl
   · exact beq_iff_eq.mpr (wo_specialIn hP (beq_iff_eq.mp e))
   cases e
 | _=>cases e
theorem wo_subIn{t b:Value}:W.subIn (wo K P) t b=W.subIn K t b:=by
 unfold W.subIn;split
 · rfl
 · unfold W.mroIn;rw[wo_clsIn hP]
 rfl
theorem wo_instIn{v b:Value}{r:Bool}(e:W.instIn K v b=some r):W.instIn (wo K P) v b=some r:=by
 unfold W.instIn at e ⊢;obtain⟨t,h1,h2⟩:=Option.bind_eq_some_iff.mp e;refine Option.bind_eq_some_iff.mpr ⟨t,wo_typeIn hP (fun z=>?_) h1,?_⟩
 · subst z;cases h2
 rw[wo_subIn hP];exact h2
theorem wo_makesIn{C:Addr}(e:W.makesIn K C=true):W.makesIn (wo K P) C=true:=by
 unfold W.makesIn at e ⊢;by_cases h:C=P
 · rw[h,hP]at e;cases e
 rw[wo_ne h];split at e
 · simp only[Bool.and_eq_true,beq_iff_eq]at e ⊢
   exact⟨⟨e.1.1,wo_specialIn hP e.1.2⟩,wo_instIn hP e.2⟩
 cases e
theorem wo_codeIn{c:Value}{q:Str}(e:W.codeIn K c q=true):W.codeIn (wo K P) c q=true:=by
 unfold W.codeIn at e ⊢;split at e
 · rename_i a
   by_cases h:a=P
   · rw[h,hP]at e
     cases e
   rw[wo_ne h];exact e
 cases e
theorem Fun.wo{x qual:Str}{st:Stmt}{f:Addr}{fd:FuncData}(F:Fun K x qual st f fd):Fun (SW.wo K P) x qual st f fd:=by
 obtain⟨oc,od,kV,doc,pm,an,cdv,ct,osl,e1,e2,e3⟩:=F.ex;exact⟨⟨oc,od,kV,doc,pm,an,cdv,ct,osl,e1,wo_lk hP e2 (fun z=>by cases z),wo_codeIn hP e3⟩,wo_keepIn hP F.kp⟩
end
theorem law_callT{Pg:Program}{w:World}{K:W.Frag}{mg mb:Str->Option Value}{CX:CXT}{k:Nat}{fa a c P:Addr}{fd:FuncData}{x:Str}{sp:Sp}{s₁:Shared}{vs:List Value}{ns:List Int}
 (KX:K.In s₁.heap) (hKP:K.lookup P=none) (hc:W.CodeHd s₁.heap c P) (hP:s₁.heap.get? P=some (W.tabObj #[]))
 (hns:s₁.heap.Ns mainGlobals mg) (hb:s₁.heap.Ns builtinsNs mb) (hbb:∀ x:Str,x ≠ "__name__" -> mb x=bootBuiltins x) (hlim:s₁.heap.NoLimit) (hg:s₁.gens=#[])
 (ha:s₁.heap.get? a=some { cls:=.type "list",data:=.seq vs.toArray }) (hi:IntsAre vs ns) (hl:ns.length<=sizeLine) (hr:Room k callerA)
 (F:∀ base:Heap,K.In base->base.Ns mainGlobals mg->FnOk Pg w K mg base CX k fa fd [x] sp) (hbind:∀(s:Shared) (u:Value),BindsTo s fd ⟨[u],[]⟩ [(x,u)])
 (hsp:∀ H:Hp,H P=some (.tbl #[])->SqL K H a (ns.map V.int)->sp [.ref a] H (fun v _=>v=.bl true) fun _ _ _=>False)
 (hCX:∀ H e s',CX [] H s₁ (fun _ _ _=>False) e s'->False) :
 codeAny (model Pg w) callerA (.call (.ref fa) ⟨[.ref a],[]⟩) (fun r s'=>r=.ok (.ret (.bool true))/\OldK s₁.heap s'.heap/\s'.os=s₁.os/\AllBare s'.gens) s₁:=by
 have rv:=vals_ints hi;have lenV:=hi.length;have naP:a≠P:=fun z=>by rw[z,hP]at ha;cases ha
 have core:∀ H:Hp,H P=some (.tbl #[])->(∀ b,b≠P->H b=none ∨ ∃ o xs,H b=some (.frz o (.lst xs)))->SqL K H a (ns.map V.int)->HOk Pg w H s₁.heap->(∀ b,b≠P->H b≠none->b=a)->(H a≠none->K.lookup a=none) ->
  codeAny (model Pg w) callerA (.call (.ref fa) ⟨[.ref a],[]⟩) (fun r s'=>r=.ok (.ret (.bool true))/\OldK s₁.heap s'.heap/\s'.os=s₁.os/\AllBare s'.gens) s₁:=by
  intro H hHP hO hS hok hA hK;have base_of:∀{b:Addr}{o:Obj},s₁.heap.get? b=some o->H b=none->(hidT s₁.heap H).get? b=some o:=fun e n=>hidT_get e n;have noA:∀{b:Addr}{o:Obj}{es:Array DictEntry}{ep:Nat},s₁.heap.get? b=some o->o.data=.dict es ep->H b=none:=fun {b o es ep} e d=>by
   by_cases z:b=P
   · subst z
     rw[hP]at e;cases e;cases d
   cases q:H b with
   | none=>rfl
   | some u=>
     have e':b=a:=hA b z (by rw[q];simp)
     subst e';rw[ha]at e;cases e;have d':Data.seq vs.toArray _=Data.dict es ep:=d;cases d'
  have nsK:∀{b:Addr}{m:Str->Option Value},s₁.heap.Ns b m->(hidT s₁.heap H).Ns b m:=fun {b m} ⟨o,es,ep,e,d,r⟩=>⟨o,es,ep,base_of e (noA e d),d,r⟩;have hKb:K.In (hidT s₁.heap H):=fun b o e=>base_of (KX b o e) (by
   by_cases z:b=P
   · rw[z,hKP]at e;cases e
   cases q:H b with
   | none=>rfl
   | some u=>
     have e':b=a:=hA b z (by rw[q];simp)
     subst e';rw[hK (by rw[q];simp)]at e;cases e)
  have hM:Mod K mg (hidT s₁.heap H):=⟨hKb,nsK hns,⟨mb,nsK hb,hbb⟩,let⟨mc,h1,h2⟩:=hlim;⟨mc,nsK h1,h2⟩⟩;have e0:Env0 Pg w K mg (hidT s₁.heap H) callerA [] s₁ H:=⟨rfl,hM,fun b o e=>of_hidT e,Nat.le_of_eq (hidT_size _ _),trivial,fun b hb=>absurd (show b∈([]:List Addr)from hb) (by simp),hok,.of_eq hg⟩
  refine codeAny_mono ((F _ hKb (nsK hns)).run callerA [] s₁ H ⟨[.ref a],[]⟩ [.ref a] [.ref a] _ _ hr e0 (hbind s₁ (.ref a)) (.cons rfl .nil) (hsp H hHP hS)) fun r s' h=>?_;cases r with
  | error e=>exact(hCX H e s' h).elim
  | ok fl=>
    cases fl with
    | next=>exact False.elim h
    | brk=>exact False.elim h
    | cont=>exact False.elim h
    | ret u=>
      obtain⟨v,H',os,bare,un,hok',r',q⟩:=h;have q':v=.bl true:=q;subst q';obtain rfl:u=Value.bool true:=r';refine⟨rfl,⟨fun b o e=>?_,fun b o e=>un.there b o e (by simp)⟩,os,bare⟩
      by_cases z:b=P
      · subst z
        rw[hP]at e;cases e;obtain⟨more,e2⟩:=un.tbls b _ hHP;have e3:s'.heap.get? b=some (W.tabObj (#[]++more)):=hok' b _ e2;exact .inr (.inl ⟨(hc.tab hP).isCodeTable,rfl,#[],more,rfl,e3⟩)
      refine .inl ?_;cases q:H b with
      | none=>exact un.keep b o e q (by intro z;exact absurd (show b∈([]:List Addr)from z) (by simp)) (by simp)
      | some u=>
        rcases hO b z with z | ⟨ob,xs,z⟩
        · rw[q]at z;cases z
        have z2:=un.frzs b ob _ z;obtain⟨e1,_⟩:=hok b _ z;obtain⟨e2,_⟩:=hok' b _ z2;rw[e]at e1;cases e1;exact e2
 cases hk:K.lookup a with
 | some o=>
   have e:=KX a o hk;rw[ha]at e;cases e;refine core (fun b=>if b=P then some (.tbl #[])else none) (if_pos rfl) (fun b z=>.inl (if_neg z)) (.inr ⟨_,vs.toArray,_,hk,rfl,rfl,rfl,by rw[List.size_toArray,lenV];exact hl,by simpa using rv⟩) (fun b u z=>?_) (fun b n z=>absurd (if_neg n) z) fun z=>absurd (if_neg naP) z
   by_cases hb:b=P
   · have z':=(if_pos hb).symm.trans z
     cases z';subst hb;exact hP
   have z':=(if_neg hb).symm.trans z;cases z'
 | none=>
   refine core (upd (fun b=>if b=a then some (.frz { cls:=.type "list",data:=.seq vs.toArray } (.lst (ns.map V.int)))else none) P (.tbl #[])) upd_same (fun b n=>?_) (.inl (.inr ⟨{ cls:=.type "list",data:=.seq vs.toArray },by rw[upd_ne naP];exact if_pos rfl⟩)) (fun b u z=>?_) (fun b n z=>?_) fun _=>hk
   · rw[upd_ne n]
     by_cases hb:b=a
     · exact .inr ⟨_,_,if_pos hb⟩
     exact .inl (if_neg hb)
   · by_cases hb:b=P
     · subst hb
       rw[upd_same]at z;cases z;exact hP
     rw[upd_ne hb]at z;by_cases hb:b=a
     · have z':=(if_pos hb).symm.trans z
       cases z';subst hb;exact⟨ha,by rw[List.length_map];exact hl,vs,_,rv,ha⟩
     have z':=(if_neg hb).symm.trans z;cases z'
   rw[upd_ne n]at z;by_cases hb:b=a
   · exact hb
   exact absurd (if_neg hb) z
theorem lam_run{P:Program}{w:World}{K:W.Frag}{mg:Str->Option Value}{base:Heap}{A:Around}{outer:List Env}{s:Shared}{H:Hp}{k:Nat}{f c':Addr}{qual:Str}{params:Arguments}{body:Expr}{scope:Scope}{pm ctv:Value}{N ps:List Str}{us:List Value}{vs:List V}{Q:VK}{E:XK}{t:TE}
 (e0:Env0 P w K mg base A outer s H) (hr:Room (k+1) A) (ho:s.heap.get? f=some (W.kla_obj "<lambda>" qual params body scope [] pm c' ctv)) (hc:H c'=some (codeO qual c')) (S:FnScope N ps scope)
 (hb:bindArgs (W.kla_fn "<lambda>" qual params body scope [] pm (.ref c') ctv) ⟨us,[]⟩=pure (ps.zip us)) (hl:vs.length=ps.length) (r:Vals vs us)
 (ht:PE (cxOf CX0 P w K mg base N qual scope f (.ref c') A outer s H E).nox body t) (hq:t (start N vs) H Q) :
 codeAny (model P w) A (.call (.ref f) ⟨us,[]⟩) (CR CX0 outer P w H s Q E) s:=by
 have KX:K.In s.heap:=e0.mod.kin.keeps fun b o e=>(e0.bs b o e).1;have lim:s.heap.NoLimit:=e0.mod.nolimit.keeps fun b o e=>(e0.bs b o e).1;have hkind:∀ y∈ps.zip us,scope.names.lookup y.1=some .local∨(scope.names.lookup y.1=some .cell/\((cellsFrom (s.heap.objs.size+1) scope.names []).lookup y.1).isSome=true):=fun⟨n,v⟩ hy=>by
  rcases S.par n (List.of_mem_zip hy).1 with q | q
  · exact .inl q
  exact .inr ⟨q,W.cellsFrom_some _ _ _ (.inl q)⟩
 refine W.kla_callFunE hr.depth ho rfl S.co S.gen rfl (e0.hok c' _ hc).1 ?_;rw[hb];refine wpAny_pure ?_;refine wpAny_newFunctionEnv_cells S.kind hkind fun env he s1 x=>?_;subst he;refine⟨lim.keeps x.toInCall.keep,W.kla_codeExpr ?_⟩;have I:L2.Inv (cxOf CX0 P w K mg base N qual scope f (.ref c') A outer s H E) [] (start N vs) H s1:=inv_start S hr.hd e0 hl r x;refine wpAny_mono (ht [] s1 (start N vs) H _ (I.wish _) hq) (fun u s' hs=>?_) fun e s' hs=>False.elim hs;obtain⟨v,H',J,rv,q⟩:=hs;exact⟨v,H',J.os,J.bare,J.base,J.hok,rv,q⟩
theorem Inv.trk{X:Cx}{pins:List (Addr×Obj)}{σ:L2.St}{H:Hp}{s:Shared}{D:Addr}{out:Array Value}{c:Nat}{xs:List V}(I:L2.Inv X ((D,seqObj "list" out c)::pins) σ H s)(h0:X.s₀.heap.objs.size<=D)(hp:∀ p∈X.pn++pins,p.1≠D)
 (hl:xs.length<=sizeLine) (r:Vals xs out.toList):L2.Inv X pins σ (upd H D (.lst xs)) s:=by
 obtain⟨e1,e2,e3,e4,e5⟩:=I.pin (D,seqObj "list" out c) (List.mem_append_right _ List.mem_cons_self);have e1:s.heap.get? D=some (seqObj "list" out c):=e1;have e2:H D=none:=e2;have I0:L2.Inv X pins σ H s:=Inv.fewer I fun p hp=>List.mem_cons_of_mem _ hp;refine I0.step (g':=s.gens) (d':=s.drawn) (t':=s.toks) (h':=s.heap) (ch:=[D]) (fun b hb=>?_) (fun b o _ _ _ e _=>e) (fun b o _ _ _ e _=>⟨o.slots,e⟩) (fun b o hb e n=>?_) (fun b o _ e=>⟨o,e⟩) (fun b xs e=>?_) (fun b o u e=>?_) (fun b ps e=>?_) (fun m h=>h) (fun b u e=>?_) I0.bare
 · obtain rfl:b=D:=by simpa using hb
   refine⟨.inr h0,e3,fun x cc e z=>?_,hp⟩;obtain⟨v,oc,h1,h2⟩:=I0.cell x cc e;rw[z,e1]at h1;cases h1;exact e5 v h2
 · rw[upd_ne (fun z=>hb (by simp[z]))];exact n
 · rw[upd_ne (ne_of_none e e2)];exact e
 · rw[upd_ne (ne_of_none e e2)];exact e
 · exact⟨#[],by rw[upd_ne (ne_of_none e e2),e];simp⟩
 by_cases z:b=D
 · subst z
   rw[upd_same]at e;cases e;exact⟨hl,out.toList,c,r,by simpa [seqObj] using e1⟩
 rw[upd_ne z]at e;refine(I0.hok b u e).stay (fun d v _ q=>q) (fun d q=>?_) fun d xs q=>?_
 · rw[upd_ne (ne_of_none q e2)];exact q
 rw[upd_ne (ne_of_none q e2)];exact q
noncomputable def Srt(kz:List Int)(vs out:List V):Prop:=∃ ps:List (Int×V),ps.Perm (kz.zip vs)/\out=ps.map Prod.snd/\ps.Pairwise fun p q=>p.1<=q.1
theorem perm_rel{α β:Type}{R:α -> β -> Prop}{l l':List β}(h:l.Perm l'):∀{m':List α},Paired R m' l' -> ∃ m,m.Perm m'/\Paired R m l:=by
 induction h with
 | nil=>intro m' q;cases q;exact⟨[],.nil,.nil⟩
 | cons x _ ih=>
   intro m' q;cases q with
   | cons a b=>
     obtain⟨m,h1,h2⟩:=ih b;exact⟨_::m,h1.cons _,.cons a h2⟩
 | swap x y l=>
   intro m' q;cases q with
   | cons a b=>
     cases b with
     | cons c d=>exact⟨_::_::_,.swap _ _ _,.cons c (.cons a d)⟩
 | trans h1 h2 i1 i2=>
   intro m' q;obtain⟨m,p1,p2⟩:=i2 q;obtain⟨n,p3,p4⟩:=i1 p2;exact⟨n,p3.trans p1,p4⟩
noncomputable def RelK(p:Int×V)(q:Int×Value):Prop:=p.1=q.1/\RelV p.2 q.2
theorem zip_rel:∀{kz:List Int}{vs:List V}{us:List Value},Vals vs us->Paired RelK (kz.zip vs) (kz.zip us)
 | [],_,_,_=>by simp;exact .nil
 | _::_,_,_,.nil=>.nil
 | k::kz,_,_,.cons a b=>.cons ⟨rfl,a⟩ (zip_rel b)
theorem snd_rel:∀{ps:List (Int×V)}{qs:List (Int×Value)},Paired RelK ps qs->Vals (ps.map Prod.snd) (qs.map Prod.snd)
 | _,_,.nil=>.nil
 | _,_,.cons a b=>.cons a.2 (snd_rel b)
theorem fst_rel:∀{ps:List (Int×V)}{qs:List (Int×Value)},Paired RelK ps qs->ps.map Prod.fst=qs.map Prod.fst
 | _,_,.nil=>rfl
 | _,_,.cons a b=>by rw[List.map_cons,List.map_cons,a.1,fst_rel b]
theorem pw_fst{α:Type}{ps:List (Int × α)}:(ps.Pairwise fun p q=>p.1<=q.1) ↔ (ps.map Prod.fst).Pairwise (· <= ·):=by rw[List.pairwise_map]
theorem Srt.of{kz:List Int}{vs:List V}{us out:List Value}(r:Vals vs us)(h:KskOut false kz us out):∃ xs,Srt kz vs xs/\Vals xs out:=by
 obtain⟨ps,h1,rfl,h3⟩:=h;obtain⟨qs,p1,p2⟩:=perm_rel h1 (zip_rel (kz:=kz) r);refine⟨qs.map Prod.snd,⟨qs,p1,rfl,?_⟩,snd_rel p2⟩;have h3:ps.Pairwise fun p q=>p.1<=q.1:=by simpa using h3
 exact pw_fst.mpr (fst_rel p2 ▸ pw_fst.mp h3)
theorem Srt.len{kz:List Int}{vs out:List V}(hl:kz.length=vs.length)(h:Srt kz vs out):out.length=vs.length:=by
 obtain⟨ps,h1,rfl,_⟩:=h;rw[List.length_map,h1.length_eq,List.length_zip,hl,Nat.min_self]
theorem Srt.one{k:Int}{v:V}{out:List V}(h:Srt [k] [v] out):out=[v]:=by
 obtain⟨ps,h1,rfl,_⟩:=h;have:ps=[(k,v)]:=List.perm_singleton.mp h1;rw[this];rfl
theorem Srt.two{k l:Int}{v w:V}{out:List V}(h:Srt [k,l] [v,w] out)(hn:k≠l):(k < l/\out=[v,w])∨(l < k/\out=[w,v]):=by
 obtain⟨ps,h1,rfl,h3⟩:=h;rcases ksk_perm2 h1 with rfl | rfl
 · have:=List.rel_of_pairwise_cons h3 (by simp:(l,w)∈[(l,w)])
   exact .inl ⟨by dsimp only at this;omega,rfl⟩
 have:=List.rel_of_pairwise_cons h3 (by simp:(k,v)∈[(k,v)])
 exact .inr ⟨by dsimp only at this;omega,rfl⟩
theorem vals_get:∀{xs:List V}{us:List Value}{i:Nat}{u:Value},Vals xs us->us[i]?=some u -> ∃ x,xs[i]?=some x/\RelV x u
 | _,_,_,_,.nil,h=>by simp at h
 | _,_,0,_,.cons a _,h=>by simp at h;subst h;exact⟨_,rfl,a⟩
 | _,_,i+1,_,.cons _ b,h=>by
   obtain⟨x,h1,h2⟩:=vals_get (i:=i) b (by simpa using h)
   exact⟨x,by simpa using h1,h2⟩
noncomputable def tSortK(P:Addr)(pos:Pos)(qual:Str)(N:List Str)(tl tb:TE):TE:=fun σ H Q=>tl σ H fun x H1=>∃(a:Addr) (vs:List V) (kz:List Int),[x]=[V.ref a]/\H1 a=some (.lst vs)/\kz.length=vs.length/\vs.length < 64/\LamH pos qual H1 P /\
 ∀ H2,LamH pos qual H2 P->KeepBut P H1 H2->(∀(i:Nat) v k,vs[i]?=some v->kz[i]?=some k->tb (start N [v]) H2 fun u H3=>u=.int k/\H3=H2) /\ ∀ D out,H2 D=none->Srt kz vs out->Q (.ref D) (upd H2 D (.lst out))
theorem pe_sortK{X:Cx}{e:Expr}{tl tb:TE}{params:Arguments}{body:Expr}{scope:Scope}{c P:Addr}{lp kp p pos:Pos}{x:Str}{k:Nat}
 (hg:Gl X "sorted") (hm:X.mg "sorted"=none) (L:LamK X.K X.mg c P) (hcode:X.env.code=.ref c) (hr:Room (k+3) X.A) (S:FnScope [x] [x] scope) (he:PE X e tl)
 (hb:∀(f c':Addr) (A:Around) (outer:List Env) (s:Shared) (H:Hp) (E:XK),Room k (A.deeper (envOfC (X.env.qual ++ "<lambda>") scope s.heap.objs.size f (.ref c')))->PE (cxOf CX0 X.prog X.w X.K X.mg X.base [x] (X.env.qual ++ "<lambda>") scope f (.ref c') A outer s H E).nox body tb)
 (hbind:∀(qual:Str) (pm:Value) (c':Addr) (ctv u:Value),bindArgs (W.kla_fn "<lambda>" qual params body scope [] pm (.ref c') ctv) ⟨[u],[]⟩=pure ([x].zip [u]):=by intros;rfl)
 (hcl:closureFor scope X.env=pure []:=by rfl) (hdef:defaultsOf params X.env=([],[]):=by rfl)
 (hse:starEach [e] X.env=(false,eval e X.env)::starEach [] X.env:=by rfl) :
 PE X (.Call (.Name "sorted" p) [e] [⟨some "key",.Lambda params body scope lp,kp⟩] pos) (tSortK P lp (X.env.qual ++ "<lambda>") [x] tl tb):=by
 intro pins s σ H Q I h;refine wpAny_Call_Name_kw (ld_blt I hg hm b_sorted ?_);have ha:PA X [e] (tCons tl tNil):=pa_cons he pa_nil hse;refine callWith_kw (he:=by rw[hse];rfl) (hplain:=by rw[hse];rfl) (thn (ha pos pins s σ H (fun ws H1=>∃(a:Addr) (vs:List V) (kz:List Int),ws=[V.ref a]/\H1 a=some (.lst vs)/\kz.length=vs.length/\vs.length < 64/\LamH lp (X.env.qual ++ "<lambda>") H1 P /\
  ∀ H2,LamH lp (X.env.qual ++ "<lambda>") H2 P->KeepBut P H1 H2->(∀(i:Nat) v k,vs[i]?=some v->kz[i]?=some k->tb (start [x] [v]) H2 fun u H3=>u=.int k/\H3=H2) /\ ∀ D out,H2 D=none->Srt kz vs out->Q (.ref D) (upd H2 D (.lst out))) I h)
  fun us s1 ⟨ws,H1,I1,r,a,vs,kz,e1,ha,hlen,h64,hL,q⟩=>?_)
 subst e1;cases r with
 | cons ra rn=>
   cases rn;obtain rfl:=ra;refine kws_cons (W.kla_eval hdef (make_lam I1 L hcode hL hcl fun f H2 s2 pm ctv c' hL2 kb _ I2 hc'=>kws_nil ?_));obtain⟨q1,q2⟩:=q H2 hL2 kb;have nP:a≠P:=fun z=>by
    rw[z]at ha;rcases hL with y | ⟨_,y,_⟩ <;> rw[ha]at y <;> cases y
   have ha2:H2 a=some (.lst vs):=kb a _ nP ha;obtain⟨_,its,n,rv,hget⟩:=I2.hok a _ ha2;have hlen2:kz.length=its.length:=by rw[hlen,rv.length]
   show wpAny (model X.prog X.w) X.A (call (.builtin "sorted") [.ref a] [(Str.ofString "key",.ref f)]) _ _ _;refine sk_sorted (vs:=its) (kz:=kz) I2 ⟨_,hget,rfl,n,rfl⟩ hlen2 (by rw[← rv.length];exact h64) (fun i u k' hu hk own s' I'=>?_) fun D s' out c I' h0 hp ko=>?_
   · obtain⟨v,hv,rvu⟩:=vals_get rv hu
     have hr2:Room (k+1) X.A.in1.in1:=(Room.in1 (Room.in1 hr));have hpin:=(I'.pin (f,_) (List.mem_append_right _ (List.mem_append_right _ List.mem_cons_self))).1;refine wpAny_call (codeAny_mono (lam_run (N:=[x]) (ps:=[x]) (us:=[u]) (vs:=[v]) (E:=E0) I'.env0.in1.in1 hr2 hpin hc' S (hbind _ _ _ _ _) rfl (.cons rvu .nil) (hb f c' _ _ _ _ _ (hr2.deeper _)) (q1 i v k' hv hk)) fun r2 s3 hq=>?_);cases r2 with
     | error e=>exact False.elim hq
     | ok fl=>
       cases fl with
       | ret u2=>
         obtain⟨v2,H3,I3,r3,e3,e4⟩:=I'.after hq;subst e3;subst e4;exact⟨r3,I3⟩
       | next=>exact False.elim hq
       | brk=>exact False.elim hq
       | cont=>exact False.elim hq
   obtain⟨xs,hs,rx⟩:=Srt.of rv ko;have hD:H2 D=none:=(I'.pin (D,_) (List.mem_append_right _ List.mem_cons_self)).2.1;refine⟨.ref D,_,Inv.fewer (Inv.trk I' h0 hp (by rw[Srt.len hlen hs,sizeLine_eq];omega) rx) fun p hp=>List.mem_cons_of_mem _ hp,rfl,q2 D xs hD hs⟩
structure DfnC(K:W.Frag)(mg:Str->Option Value)(x:Str)(st:Stmt)(ps:List Str)(c:Addr):Prop where
 ex:∃(f:Addr) (oc:Value) (od:Option Addr) (kV doc pm:Value) (an:Option Addr) (ct:Value) (osl:Array (Option Value)),
  K.lookup f=some ⟨oc,od,.func (W.fnOf x x (defArgs st) (defBody st) (defScope st) .none kV doc pm an (.ref c) ct),osl⟩/\W.codeIn K (.ref c) x=true/\W.keepIn K (.ref f)=true/\mg x=some (.ref f) /\
  Binds K (W.fnOf x x (defArgs st) (defBody st) (defScope st) .none kV doc pm an (.ref c) ct) ps []
theorem DfnC.fn{P:Program}{w:World}{K:W.Frag}{mg:Str->Option Value}{base:Heap}{x:Str}{st:Stmt}{N ps:List Str}{k:Nat}{sp:Sp}{c:Addr}(d:DfnC K mg x st ps c)(S:FnScope N ps (defScope st))(len:∀ vs H Q E,sp vs H Q E->vs.length=ps.length)
 (hbody:∀(f:Addr) (A:Around) (outer:List Env) (s:Shared) (H:Hp) (vs:List V) (Q:VK) (E:XK),Room k (A.deeper (envOfC x (defScope st) s.heap.objs.size f (.ref c)))->sp vs H Q E ->
  ∃ t,Bx (PSs (cxOf CX0 P w K mg base N x (defScope st) f (.ref c) A outer s H E).nox (defBody st) t)/\t { nx:=fun _ H'=>Q .non H',rt:=Q } (start N vs) H):Fn P w K mg base x (k+1) ps sp:=by
 obtain⟨f,oc,od,kV,doc,pm,an,ct,osl,e1,e2,e3,e4,e5⟩:=d.ex;exact⟨f,_,fn_of e1 e2 S len (fun A outer s H vs Q E hr h=>let⟨t,h1,h2⟩:=hbody f A outer s H vs Q E hr h;⟨t,h1.out.nox,h2⟩),e4,e3,e5⟩
theorem B.sortK{X:Cx}{e:Expr}{tl tb:TE}{params:Arguments}{body:Expr}{scope:Scope}{c P:Addr}{lp kp p pos:Pos}{x:Str}{k:Nat}
 (hm:X.mg "sorted"=none) (L:LamK X.K X.mg c P) (hr:Room (k+3) X.A) (S:FnScope [x] [x] scope) (he:Bx (PE X e tl))
 (hb:∀(f c':Addr) (A:Around) (outer:List Env) (s:Shared) (H:Hp) (E:XK),Room k (A.deeper (envOfC (X.env.qual ++ "<lambda>") scope s.heap.objs.size f (.ref c')))->Bx (PE (cxOf CX0 X.prog X.w X.K X.mg X.base [x] (X.env.qual ++ "<lambda>") scope f (.ref c') A outer s H E).nox body tb))
 (hcode:X.env.code=.ref c:=by rfl) (hg:Gl X "sorted":=by rfl)
 (hbind:∀(qual:Str) (pm:Value) (c':Addr) (ctv u:Value),bindArgs (W.kla_fn "<lambda>" qual params body scope [] pm (.ref c') ctv) ⟨[u],[]⟩=pure ([x].zip [u]):=by intros;rfl)
 (hcl:closureFor scope X.env=pure []:=by rfl) (hdef:defaultsOf params X.env=([],[]):=by rfl)
 (hse:starEach [e] X.env=(false,eval e X.env)::starEach [] X.env:=by rfl) :
 Bx (PE X (.Call (.Name "sorted" p) [e] [⟨some "key",.Lambda params body scope lp,kp⟩] pos) (tSortK P lp (X.env.qual ++ "<lambda>") [x] tl tb)):=
 ⟨pe_sortK hg hm L hcode hr S he.out (fun f c' A outer s H E h=>(hb f c' A outer s H E h).out) hbind hcl hdef hse⟩
section
variable{C CT P b:Addr}{H H':Hp}{p:Addr}{f m:Int}{pc:Nat}{M:MT}{tc:Int}{F:Addr->Prop}{R:MRows}{pos:Pos}{qual:Str}
noncomputable def Own3(H:Hp)(b:Addr):Prop:=(∃ C dx fs,H b=some (.ins C dx fs))∨(∃ xs,H b=some (.lst xs)) ∨ ∃ r,H b=some (.dK r)
theorem Sh.own3(S:Sh C H p f m R F)(h:F b):Own3 H b:=by
 obtain⟨t,L,ds,X,hF⟩:=S;rcases(hF b).mp h with rfl | rfl | z
 · obtain⟨dx,e⟩:=X.ob
   exact .inl ⟨_,_,_,e⟩
 · exact .inr (.inl ⟨_,X.rw⟩)
 obtain⟨i,hi⟩:=List.getElem?_of_mem z;have hl:i < R.length:=by rw[← X.len];exact(List.getElem?_eq_some_iff.mp hi).1
 exact .inr (.inr ⟨_,X.at_ i b _ hi (List.getElem?_eq_getElem hl)⟩)
theorem Tb.own3(S:Tb C CT H p f m pc M tc F)(h:F b):Own3 H b:=by
 obtain⟨t,n,v,FN,FE,X,hF⟩:=S;rcases(hF b).mp h with rfl | z | z
 · obtain⟨dx,e⟩:=X.ob
   exact .inl ⟨_,_,_,e⟩
 · exact X.nw.own3 z
 have:=X.el;cases e:M.el with
 | none=>rw[e]at this;exact absurd z (this.2 b)
 | some E=>
   rw[e]at this;obtain⟨_,_,S⟩:=this;exact S.own3 z
theorem LamH.tbl(L:LamH pos qual H P):∃ ps,H P=some (.tbl ps):=by
 rcases L with e | ⟨_,e,_⟩
 · exact⟨_,e⟩
 exact⟨_,e⟩
theorem LamH.live(L:LamH pos qual H P):H P≠none:=by
 obtain⟨ps,e⟩:=L.tbl;rw[e];simp
theorem Own3.notP(L:LamH pos qual H P)(h:Own3 H b):b≠P:=fun z=>by
 obtain⟨ps,e⟩:=L.tbl;subst z;rcases h with ⟨_,_,_,y⟩ | ⟨_,y⟩ | ⟨_,y⟩ <;> rw[e]at y <;> cases y
theorem Own3.notC{c':Addr}(h:Own3 H b)(e:H c'=some (codeO qual c')):b≠c':=fun z=>by
 subst z;rcases h with ⟨_,_,_,y⟩ | ⟨_,y⟩ | ⟨_,y⟩ <;> rw[e]at y <;> cases y
theorem LamH.fr{G:Addr->Prop}(L:LamH pos qual H P)(k:Fr G H H')(h:∀ b,G b->H b≠none->Own3 H b):LamH pos qual H' P:=by
 have nP:¬ G P:=fun z=>absurd rfl (Own3.notP L (h P z L.live));rcases L with e | ⟨c',e,e2⟩
 · exact .inl (k _ _ nP e)
 refine .inr ⟨c',k _ _ nP e,k _ _ (fun z=>?_) e2⟩;exact absurd rfl (Own3.notC (h c' z (by rw[e2];simp)) e2)
theorem LamH.same(L:LamH pos qual H P)(k:Same H H'):LamH pos qual H' P:=L.fr (G:=fun _=>False) (fun b o _ e=>k b o e) fun _ z=>z.elim
theorem LamH.but{q:Addr}{xs:List V}(L:LamH pos qual H P)(e:H q=some (.lst xs))(k:KeepBut q H H'):LamH pos qual H' P:=L.fr (G:=fun b=>b=q) (fun b o n y=>k b o n y) fun b z _=>z ▸ .inr (.inl ⟨_,e⟩)
theorem Tb.lam(S:Tb C CT H p f m pc M tc F)(L:LamH pos qual H P)(k:KeepBut P H H'):Tb C CT H' p f m pc M tc F:=
 S.keep k.fr' (fun b h z=>absurd z (Own3.notP L (S.own3 h))) fun b xs e z=>by
  obtain⟨ps,y⟩:=L.tbl;rw[z,y]at e;cases e
theorem LamH.tup{xs:List V}(L:LamH pos qual H P)(k:KeepBut P H H')(e:H b=some (.tup xs)):H' b=some (.tup xs):=k _ _ (fun z=>by
 obtain⟨ps,y⟩:=L.tbl;rw[z,y]at e;cases e) e
theorem LamH.lst{xs:List V}(L:LamH pos qual H P)(k:KeepBut P H H')(e:H b=some (.lst xs)):H' b=some (.lst xs):=k _ _ (fun z=>by
 obtain⟨ps,y⟩:=L.tbl;rw[z,y]at e;cases e) e
end
noncomputable def lessR(M:MT):MRows:=match M.el with | none=>M.nw | some E=>if E.length < M.nw.length then E else M.nw
noncomputable def moreR(M:MT):Option MRows:=M.el.map fun E=>if E.length < M.nw.length then M.nw else E
noncomputable def placeA(n:Nat)(cur:Int):Int:=pt cur 16 % (n:Int)
noncomputable def partsL(p s c:Int):List Int:=[p,p+s].filter fun x=>decide (c<=pt x 16+65536 / (s*2) - 1)
noncomputable def behindA(p s:Int):Int:=(pt p 16+65536 / s - 1+1) % 65536
noncomputable def stepR(M:MT)(cur:Int):MRow:=
 (lessR M).getD (placeA (lessR M).length cur).toNat []++((moreR M).map fun G=>(partsL (placeA (lessR M).length cur) (lessR M).length cur).flatMap fun x=>G.getD x.toNat []).getD []
noncomputable def spPlaceAt:Sp:=fun vs H Q _=>∃(c:Int) (n:Nat),vs=[.int c,.int n]/\(0 < n/\n < 1073741824)/\Q (.int (placeA n c)) H
theorem wPlaceAt{c:Int}{n:Nat}{H:Hp}{Q:VK}{E:XK}(h:0 < n/\n < 1073741824)(q:Q (.int (placeA n c)) H):spPlaceAt ([.int c,.int n]++[]) H Q E:=⟨c,n,rfl,h,q⟩
noncomputable def spParts:Sp:=fun vs H Q _=>∃(p s c:Int),vs=[.int p,.int s,.int c]/\(0 < s/\s < 10000) /\ ∀ l H',Same H H'->H l=none->H' l=some (.lst ((partsL p s c).map V.int))->Q (.ref l) H'
theorem wParts{p s c:Int}{H:Hp}{Q:VK}{E:XK}(h:0 < s/\s < 10000)(q:∀ l H',Same H H'->H l=none->H' l=some (.lst ((partsL p s c).map V.int))->Q (.ref l) H'):spParts ([.int p,.int s,.int c]++[]) H Q E:=⟨p,s,c,rfl,h,q⟩
noncomputable def spBehind:Sp:=fun vs H Q _=>∃(p s:Int),vs=[.int p,.int s]/\(0 < s/\s < 10000) /\ ∀ H',Same H H'->Q (.int (behindA p s)) H'
theorem wBehind{p s:Int}{H:Hp}{Q:VK}{E:XK}(h:0 < s/\s < 10000)(q:∀ H',Same H H'->Q (.int (behindA p s)) H'):spBehind ([.int p,.int s]++[]) H Q E:=⟨p,s,rfl,h,q⟩
noncomputable def spStep(C CT P:Addr)(pos:Pos)(qual:Str):Sp:=fun vs H Q _=>∃(p:Addr) (cur f m:Int) (pc:Nat) (M:MT) (tc:Int) (F:Addr->Prop),vs=[.ref p,.int cur]/\Tb C CT H p f m pc M tc F/\TOk f m M/\Rat M/\cnt M<=100000/\LamH pos qual H P /\
 ∀ t l xs H',LamH pos qual H' P->KeepBut P H H'->H l=none->H t=none->H' t=some (.tup [.int (behindA (placeA (lessR M).length cur) (lessR M).length),.ref l])->H' l=some (.lst xs)->Prs H' xs (stepR M cur)->Q (.ref t) H'
theorem wStep{C CT P:Addr}{pos:Pos}{qual:Str}{p:Addr}{cur f m:Int}{pc:Nat}{M:MT}{tc:Int}{F:Addr->Prop}{H:Hp}{Q:VK}{E:XK}(S:Tb C CT H p f m pc M tc F)(T:TOk f m M)(R:Rat M)(hc:cnt M<=100000)(L:LamH pos qual H P)
 (q:∀ t l xs H',LamH pos qual H' P->KeepBut P H H'->H l=none->H t=none->H' t=some (.tup [.int (behindA (placeA (lessR M).length cur) (lessR M).length),.ref l])->H' l=some (.lst xs)->Prs H' xs (stepR M cur)->Q (.ref t) H') :
 spStep C CT P pos qual ([.ref p,.int cur]++[]) H Q E:=⟨p,cur,f,m,pc,M,tc,F,rfl,S,T,R,hc,L,q⟩
theorem wSortK{P:Addr}{pos:Pos}{qual:Str}{N:List Str}{tl tb:TE}{σ:L2.St}{H:Hp}{Q:VK}(h:tl σ H fun x H1=>∃(a:Addr) (vs:List V) (kz:List Int),[x]=[V.ref a]/\H1 a=some (.lst vs)/\kz.length=vs.length/\vs.length < 64/\LamH pos qual H1 P /\
 ∀ H2,LamH pos qual H2 P->KeepBut P H1 H2->(∀(i:Nat) v k,vs[i]?=some v->kz[i]?=some k->tb (start N [v]) H2 fun u H3=>u=.int k/\H3=H2) /\ ∀ D out,H2 D=none->Srt kz vs out->Q (.ref D) (upd H2 D (.lst out))):tSortK P pos qual N tl tb σ H Q:=h
theorem Sh.lam{C P p:Addr}{H H':Hp}{f m:Int}{R:MRows}{F:Addr->Prop}{pos:Pos}{qual:Str}(S:Sh C H p f m R F)(L:LamH pos qual H P)(k:KeepBut P H H'):Sh C H' p f m R F:=
 S.keep k.fr' (fun b h z=>absurd z (Own3.notP L (S.own3 h))) fun b xs e z=>by
  obtain⟨ps,y⟩:=L.tbl;rw[z,y]at e;cases e
theorem Rat.two{f m:Int}{M:MT}{E:MRows}(T:TOk f m M)(R:Rat M)(e:M.el=some E):(E.length < M.nw.length/\lessR M=E/\moreR M=some M.nw/\M.nw.length=2*E.length)∨(M.nw.length < E.length/\lessR M=M.nw/\moreR M=some E/\E.length=2*M.nw.length):=by
 have hE:=(T.el E e).2.1;have hp:0 < E.length:=hE.pos;have hq:0 < M.nw.length:=T.sz.pos;unfold lessR moreR;rw[e];rcases R E e with z | z
 · exact .inr ⟨by omega,if_neg (by omega),congrArg some (if_neg (by omega)),z⟩
 exact .inl ⟨by omega,if_pos (by omega),congrArg some (if_pos (by omega)),z⟩
theorem lessR_size{f m:Int}{M:MT}(T:TOk f m M):isSize (lessR M).length:=by
 unfold lessR;cases e:M.el with
 | none=>exact T.sz
 | some E=>
   dsimp only
   split
   · exact(T.el E e).2.1
   exact T.sz
theorem lessR_le{M:MT}:tot (lessR M)<=cnt M:=by
 unfold lessR SW.cnt;cases e:M.el with
 | none=>simp
 | some E=>
   dsimp only
   split <;> simp <;> omega
theorem moreR_le{M:MT}{G:MRows}(h:moreR M=some G):tot G<=cnt M:=by
 unfold moreR at h;unfold SW.cnt;cases e:M.el with
 | none=>rw[e]at h;cases h
 | some E=>
   rw[e]at h;have h:(if E.length < M.nw.length then M.nw else E)=G:=Option.some.inj h;subst h;split <;> simp <;> omega
theorem placeA_lt{n:Nat}(h:0 < n)(c:Int):0<=placeA n c/\placeA n c < n:=⟨Int.emod_nonneg _ (by omega),Int.emod_lt_of_pos _ (by omega)⟩
theorem partsL_len(p s c:Int):(partsL p s c).length<=2:=List.length_filter_le ..
theorem partsL_mem{p s c x:Int}(h:x∈partsL p s c):x=p∨x=p+s:=by
 have:=(List.mem_filter.mp h).1
 simpa using this
theorem flat_snoc{α β:Type}{xs:List α}{i:Nat}{x:α}{g:α -> List β}(h:xs[i]?=some x):(xs.take (i+1)).flatMap g=(xs.take i).flatMap g++g x:=by
 rw[take_snocF h,List.flatMap_append];simp
theorem walk_ofE{l:W.OpenLaw}{n k:Nat}{q:Program}{loose:List Str}{XP:(Str->Option Value)->Heap->Prop}{YP:World->Heap->Prop}{d:DefRec}{K:Params->W.Frag}{sp:W.Frag->Addr->Sp}{x:Str}
 (hn:l.most=some n) (hn2:n<=sizeLine) (hdf:d.params.defaults=[]) (hr:Room k callerA)
 (hY:∀(w:World) (h:Heap),YP w h->(K w.params).In h)
 (F:∀(w:World) (mg:Str->Option Value) (fa:Addr) (h:Heap),(K w.params).In h->h.Ns mainGlobals mg->mg d.name=some (.ref fa) ->
  ∃(c P:Addr) (fd:FuncData),(K w.params).lookup P=some (W.tabObj #[])/\W.CodeHd h c P/\(∀(s:Shared) (u:Value),BindsTo s fd ⟨[u],[]⟩ [(x,u)]) /\
    ∀ base:Heap,(wo (K w.params) P).In base->base.Ns mainGlobals mg->FnOk l.prog w (wo (K w.params) P) mg base CX0 k fa fd [x] (sp (wo (K w.params) P) P))
 (hsp:∀(K:W.Frag) (P:Addr) (H:Hp) (a:Addr) (ns:List Int),ns.length<=n->H P=some (.tbl #[])->SqL K H a (ns.map V.int)->sp K P [.ref a] H (fun v _=>v=.bl true) fun _ _ _=>False) :
 W.WalkO q loose XP YP l.row.toRowW d [] (fun f vs=>PySem.call f vs):=by
 refine Att.attach_call hn hdf fun w s₀ s₁ mg mb fa o pm cd doc a vs ns G Y ho hd hcd hmg hobj hints hlen hg=>?_;have KX:=hY w _ Y;obtain⟨c,P,fd,hP,hc,hb,hF⟩:=F w mg fa _ KX G.T.g hmg;exact law_callT (c:=c) (wo_In KX) wo_self hc (KX _ _ hP) G.T.g G.T.b G.T.builtins G.T.nolimit hg hobj hints (Nat.le_trans hlen hn2) hr hF hb (fun H hO hS=>hsp _ P H a ns hlen hO hS) fun H e s' z=>z
theorem getD_of{vs:Array Value}{i:Nat}{v:Value}(h:vs[i]?=some v):vs.getD i .none=v:=by
 rw[Array.getD_eq_getD_getElem?,h];rfl
theorem code_hd{K:W.Frag}{h:Heap}{c P:Addr}{cD:Option Addr}{cV:Array Value}{cS:Array (Option Value)}{file:Str}{tf tg tt:Tok}{flags text:Int}{inF:Bool}(X:K.In h)(o:K.lookup c=some ⟨.type "code",cD,.fields cV,cS⟩)(v11:cV[11]?=some (.ref P))(v18:cV[18]?=some (.str file tf))(v7:cV[7]?=some (.int flags tg))(v9:cV[9]?=some (.bool inF))(v10:cV[10]?=some (.int text tt))(ne:(c == P)=false):W.CodeHd h c P:=
 ⟨_,cV,file,tf,flags,tg,inF,text,tt,X _ _ o,rfl,rfl,v11,getD_of v11,getD_of v18,getD_of v7,getD_of v9,getD_of v10,fun z=>by rw[z]at ne;simp at ne⟩
theorem lam_k{K:W.Frag}{h:Heap}{mg:Str->Option Value}{c P b:Addr}{cD:Option Addr}{cV:Array Value}{cS bS:Array (Option Value)}{file:Str}{tf tg tt:Tok}{flags text:Int}{inF:Bool}(X:K.In h)(G:h.Ns mainGlobals mg)(hP:K.lookup P=some (W.tabObj #[]))
 (o:K.lookup c=some ⟨.type "code",cD,.fields cV,cS⟩) (v11:cV[11]?=some (.ref P)) (v18:cV[18]?=some (.str file tf)) (v7:cV[7]?=some (.int flags tg)) (v9:cV[9]?=some (.bool inF)) (v10:cV[10]?=some (.int text tt)) (ne:(c == P)=false)
 (b1:W.nsIn K mainGlobals "__builtins__"=some (some (.ref b))) (b2:K.lookup b=some ⟨.type "module",some builtinsNs,.plain,bS⟩) (b3:(b == builtinsNs)=false) (b4:(b == mainGlobals)=false):LamK (wo K P) mg c P:=by
 refine⟨fun h' X'=>code_hd X' (wo_lk hP o fun z=>?_) v11 v18 v7 v9 v10 ne,b,_,W.mg_of X G b1,fun z=>by rw[z]at b3;simp at b3,fun z=>by rw[z]at b4;simp at b4,wo_lk hP b2 (fun z=>by cases z),rfl,rfl,rfl⟩
 injection z with z;rw[z]at v11;cases v11
theorem ix_any{X:Cx}:IxR X (fun x y H Q=>rIxL X.K x y H Q∨rIxT X.K x y H Q):=ix_list.or ix_tup
inductive Ty(R:Hp->V->V->Prop)(K:W.Frag)(H:Hp):V->V->Prop
 | non:Ty R K H .non .non
 | int (i:Int):Ty R K H (.int i) (.int i)
 | str (x:PySem.Str):Ty R K H (.str x) (.str x)
 | tup {a b:Addr}{xs ys:List V} (h1:H a=some (.tup xs)) (h2:H b=some (.tup ys)) (hl:xs.length=ys.length) (hr:∀(i:Nat) x y,xs[i]?=some x->ys[i]?=some y->R H x y):Ty R K H (.ref a) (.ref b)
 | lst {a b:Addr}{xs ys:List V} (h1:H a=some (.lst xs)) (h2:H b=some (.lst ys)) (hl:xs.length=ys.length) (hr:∀(i:Nat) x y,xs[i]?=some x->ys[i]?=some y->R H x y):Ty R K H (.ref a) (.ref b)
noncomputable def TyN(K:W.Frag):Nat->Hp->V->V->Prop
 | 0=>fun _ _ _=>False
 | n+1=>Ty (TyN K n) K
theorem Ty.same{R:Hp->V->V->Prop}{K:W.Frag}{H H':Hp}{x y:V}(k:∀ x y,R H x y->R H' x y)(s:Same H H'):Ty R K H x y->Ty R K H' x y
 | .non=>.non
 | .int i=>.int i
 | .str x=>.str x
 | .tup h1 h2 hl hr=>.tup (s _ _ h1) (s _ _ h2) hl fun i x y ex ey=>k x y (hr i x y ex ey)
 | .lst h1 h2 hl hr=>.lst (s _ _ h1) (s _ _ h2) hl fun i x y ex ey=>k x y (hr i x y ex ey)
theorem TyN.same{K:W.Frag}{H H':Hp}(s:Same H H'):∀(n:Nat) (x y:V),TyN K n H x y->TyN K n H' x y
 | 0,_,_,h=>h
 | n+1,_,_,h=>Ty.same (TyN.same s n) s h
noncomputable def spAlikeD(K:W.Frag)(n:Nat):Sp:=fun vs H Q _=>∃ x y,vs=[x,y]/\TyN K n H x y /\ ∀ H',Same H H'->Q (.bl true) H'
theorem wAlikeD{K:W.Frag}{n:Nat}{x y:V}{H:Hp}{Q:VK}{E:XK}(h:TyN K n H x y)(k:∀ H',Same H H'->Q (.bl true) H'):spAlikeD K n ([x,y]++[]) H Q E:=⟨x,y,rfl,h,k⟩
section
variable{K:W.Frag}{H:Hp}{x y:V}{n:Nat}
theorem Paired.tyN{α:Type}{R:V -> α -> Prop}:∀{xs ys:List V}{ds:List α},Paired R xs ds->Paired R ys ds->(∀ x y d,R x d->R y d->TyN K n H x y)->xs.length=ys.length /\ ∀(i:Nat) x y,xs[i]?=some x->ys[i]?=some y->TyN K n H x y
 | _,_,_,.nil,.nil,_=>⟨rfl,fun i x y h=>by simp at h⟩
 | _,_,_,.cons a s,.cons b t,f=>by
   obtain⟨l,r⟩:=Paired.tyN s t f;refine⟨by rw[List.length_cons,List.length_cons,l],fun i x y hx hy=>?_⟩
   cases i with
   | zero=>
     simp at hx hy;subst hx;subst hy;exact f _ _ _ a b
   | succ i=>exact r i x y (by simpa using hx) (by simpa using hy)
theorem all_ty{xs:List V}(h:∀ x∈xs,TyN K n H x x):∀(i:Nat) x y,xs[i]?=some x->xs[i]?=some y->TyN K n H x y:=fun i x y hx hy=>by
 rw[hx]at hy;cases hy;exact h x (List.mem_of_getElem? hx)
theorem PrV.ty{p:Int×Int}(h1:PrV H x p)(h2:PrV H y p):TyN K (n+2) H x y:=by
 obtain⟨a,rfl,ha⟩:=h1;obtain⟨b,rfl,hb⟩:=h2;refine Ty.tup ha hb rfl (all_ty fun v hv=>?_);simp only[List.mem_cons,List.not_mem_nil,or_false]at hv;rcases hv with rfl | rfl <;> exact .int _
end
section
variable{H:Hp}{Q:VK}{E:XK}{p:Addr}
noncomputable def spMixerP:Sp:=fun vs H Q _=>∃ p:Addr,vs=[.ref p]/\Pot H p /\ ∀ t H',Mix H' t->Pot H' p->KeepBut p H H'->Q (.ref t) H'
theorem wMixerP(hp:Pot H p)(k:∀ t H',Mix H' t->Pot H' p->KeepBut p H H'->Q (.ref t) H'):spMixerP ([.ref p]++[]) H Q E:=⟨p,rfl,hp,k⟩
noncomputable def spKeysP:Sp:=fun vs H Q _=>∃(p:Addr) (n:Int),vs=[.ref p,.int n]/\Pot H p/\0<=n/\n<=1000 /\ ∀ l (ks:List Int) H',Pot H' p->KeepBut p H H'->H l=none->H' l=some (.lst (ks.map V.int))->(ks.length:Int)=n->Q (.ref l) H'
theorem wKeysP{n:Int}(hp:Pot H p)(h0:0<=n)(h1:n<=1000)(k:∀ l (ks:List Int) H',Pot H' p->KeepBut p H H'->H l=none->H' l=some (.lst (ks.map V.int))->(ks.length:Int)=n->Q (.ref l) H'):spKeysP ([.ref p,.int n]++[]) H Q E:=⟨p,n,rfl,hp,h0,h1,k⟩
end
noncomputable def bhd(M:MT)(c:Int):Int:=behindA (placeA (lessR M).length c) (lessR M).length
section
variable{f m:Int}{pc:Nat}
end
section
variable{K:W.Frag}{H:Hp}
end
theorem isi_int_str{K:W.Frag}:W.kitOne K (.type "int") (.type "str")=some false:=by
 show W.kitOne [] (.type "int") (.type "str")=some false
 decide +kernel
theorem isi_str_str{K:W.Frag}:W.kitOne K (.type "str") (.type "str")=some true:=rfl
theorem isi_list_str{K:W.Frag}:W.kitOne K (.type "list") (.type "str")=some false:=by
 show W.kitOne [] (.type "list") (.type "str")=some false
 decide +kernel
theorem isi_list_int{K:W.Frag}:W.kitOne K (.type "list") (.type "int")=some false:=by
 show W.kitOne [] (.type "list") (.type "int")=some false
 decide +kernel
theorem isi_list_tup{K:W.Frag}:W.kitOne K (.type "list") (.type "tuple")=some false:=by
 show W.kitOne [] (.type "list") (.type "tuple")=some false
 decide +kernel
theorem call_lenB{X:Cx}:CallR X (.builtin "len") (fun xs H Q=>∃ p ys,xs=[V.ref p]/\(SqL X.K H p ys∨SqT X.K H p ys)/\(ys.length<=sizeLine->Q (.int ys.length) H)):=by
 intro pins s σ H xs us Q I r h;obtain⟨p,ys,rfl,hq,q⟩:=h;have hz:ys.length<=sizeLine:=by
  rcases hq with z | z
  · obtain⟨_,_,_,b⟩:=I.list z
    exact b
  obtain⟨_,_,_,b⟩:=I.tuple z;exact b
 exact call_len_seq pins s σ H _ us Q I r ⟨p,ys,rfl,hq,q hz⟩
theorem two_pos(k:Nat):(0:Int) < 2 ^ k:=Int.pow_pos (by decide)
theorem pt_split(m:Int)(j:Nat):∀ k:Nat,pt m (j+k)=pt m j*2 ^ k+pt (m / 2 ^ j) k
 | 0=>by show pt m j=pt m j*1+0;omega
 | k+1=>by
   show pt m (j+k)*2+m / 2 ^ (j+k) % 2=pt m j*2 ^ (k+1)+(pt (m / 2 ^ j) k*2+m / 2 ^ j / 2 ^ k % 2);rw[pt_split m j k,Int.ediv_ediv_of_nonneg (Int.le_of_lt (two_pos j)),← Int.pow_add,Int.pow_succ,Int.add_mul,Int.mul_assoc];omega
theorem mod_two(m:Int)(k:Nat):m % 2 ^ (k+1)=m / 2 ^ k % 2*2 ^ k+m % 2 ^ k:=by
 have hT:=two_pos k;have h1:=Int.emod_add_mul_ediv m (2 ^ k);have h2:=Int.emod_add_mul_ediv (m / 2 ^ k) 2;have h3:=Int.emod_nonneg m (Int.ne_of_gt hT);have h4:=Int.emod_lt_of_pos m hT;have h5:=bit01 (m / 2 ^ k);rw[Int.pow_succ];generalize (2:Int) ^ k=T at *;generalize m % T=r at *;generalize m / T=q at *;generalize q / 2=q' at *;generalize q % 2=b at *;have e:m=(b*T+r)+T*2*q':=by
  rw[← h1,← h2,Int.mul_add,Int.mul_comm T b,← Int.mul_assoc];omega
 rw[e,Int.add_mul_emod_self_left];refine Int.emod_eq_of_lt ?_ ?_
 · rcases h5 with h | h <;> rw[h] <;> omega
 rcases h5 with h | h <;> rw[h] <;> omega
theorem pt_inv(m:Int):∀ k:Nat,pt (pt m k) k=m % 2 ^ k
 | 0=>by show(0:Int)=m % 1;omega
 | k+1=>by
   have h:=pt_split (pt m (k+1)) 1 k;rw[Nat.add_comm 1 k]at h;rw[h,mod_two];have e1:pt (pt m (k+1)) 1=m / 2 ^ k % 2:=by
    show 0*2+pt m (k+1) / 2 ^ 0 % 2=_;rw[Int.pow_zero,Int.ediv_one,pt_mod];omega
   have e2:pt m (k+1) / 2 ^ 1=pt m k:=by rw[Int.pow_succ,Int.pow_zero,Int.one_mul];exact pt_half m k
   rw[e1,e2,pt_inv m k]
theorem pt_place{n k:Nat}(m:Int):pt m (k+n) % 2 ^ n=pt (m / 2 ^ k) n:=by
 rw[pt_split];obtain⟨h0,h1⟩:=pt_range (m / 2 ^ k) n;rw[Int.add_comm,Int.add_mul_emod_self_right];exact Int.emod_eq_of_lt h0 h1
theorem pt_even(q:Int)(n:Nat):pt (2*q) (n+1)=pt q n:=by
 have h:=pt_split (2*q) 1 n;rw[Nat.add_comm 1 n]at h;rw[h,Int.pow_succ,Int.pow_zero,Int.one_mul];have e1:pt (2*q) 1=0:=by
  show 0*2+2*q / 2 ^ 0 % 2=0;rw[Int.pow_zero,Int.ediv_one];omega
 have e2:2*q / 2=q:=by omega
 rw[e1,e2];omega
theorem pt_odd(q:Int)(n:Nat):pt (2*q+1) (n+1)=2 ^ n+pt q n:=by
 have h:=pt_split (2*q+1) 1 n;rw[Nat.add_comm 1 n]at h;rw[h,Int.pow_succ,Int.pow_zero,Int.one_mul];have e1:pt (2*q+1) 1=1:=by
  show 0*2+(2*q+1) / 2 ^ 0 % 2=1;rw[Int.pow_zero,Int.ediv_one];omega
 have e2:(2*q+1) / 2=q:=by omega
 rw[e1,e2];omega
theorem isSize.pow{s:Nat}(h:isSize s):∃ n:Nat,2<=n/\n<=12/\s=2 ^ n:=by
 unfold isSize at h;simp only[List.mem_cons,List.not_mem_nil,or_false]at h;rcases h with h | h | h | h | h | h | h | h | h | h | h
 · exact⟨2,by decide,by decide,by omega⟩
 · exact⟨3,by decide,by decide,by omega⟩
 · exact⟨4,by decide,by decide,by omega⟩
 · exact⟨5,by decide,by decide,by omega⟩
 · exact⟨6,by decide,by decide,by omega⟩
 · exact⟨7,by decide,by decide,by omega⟩
 · exact⟨8,by decide,by decide,by omega⟩
 · exact⟨9,by decide,by decide,by omega⟩
 · exact⟨10,by decide,by decide,by omega⟩
 · exact⟨11,by decide,by decide,by omega⟩
 exact⟨12,by decide,by decide,by omega⟩
structure Bits(s:Int)(c wd fi p:Int):Prop where
 w1:65536 / s=wd
 w2:wd / 2*2=wd
 w0:0 < wd / 2
 w3:65536 / (s*2)=wd / 2
 f1:fi=c - c % wd
 f0:0<=fi/\fi+wd<=65536
 p1:pt fi 16 % s=p
 p2:pt fi 16 % (2*s)=p
 p3:pt (fi+wd / 2) 16 % (2*s)=p+s
 p4:pt p 16=fi
 p5:pt (p+s) 16=fi+wd / 2
theorem Bits.of{s:Nat}{c:Int}(h:isSize s)(c0:0<=c)(c1:c < 65536):Bits s c (65536 / s) (c - c % (65536 / s)) (placeA s c):=by
 obtain⟨n,n2,n12,rfl⟩:=h.pow;obtain⟨k,hk⟩:∃ k:Nat,15=k+n:=⟨15 - n,by omega⟩
 have e16:16=(k+1)+n:=by omega
 have e16':16=k+(n+1):=by omega
 have e16'':16=n+(k+1):=by omega
 have e16d:16=(n+1)+k:=by omega
 have cast:((2 ^ n:Nat):Int)=2 ^ n:=by exact_mod_cast rfl
 have hS:=two_pos n;have hK:=two_pos k;have all:(2:Int) ^ k*2*2 ^ n=65536:=by
  rw[← Int.pow_succ,← Int.pow_add,← e16];rfl
 unfold placeA;rw[cast];have w1:(65536:Int) / 2 ^ n=2 ^ k*2:=by rw[← all];exact Int.mul_ediv_cancel _ (Int.ne_of_gt hS)
 have w3:(65536:Int) / (2 ^ n*2)=2 ^ k:=by
  rw[← all,show(2:Int) ^ k*2*2 ^ n=2 ^ k*(2 ^ n*2) by rw[Int.mul_assoc,Int.mul_comm 2 (2 ^ n)]]
  exact Int.mul_ediv_cancel _ (by omega)
 have hwd:(2:Int) ^ k*2 / 2=2 ^ k:=by omega
 -- q: the walk's place by points
 have hfi:c - c % (2 ^ k*2)=c / (2 ^ k*2)*(2 ^ k*2):=by
  have:=Int.emod_add_mul_ediv c (2 ^ k*2);rw[Int.mul_comm (c / (2 ^ k*2))];omega
 have hq0:0<=c / (2 ^ k*2):=Int.ediv_nonneg c0 (by omega)
 have hq1:c / (2 ^ k*2) < 2 ^ n:=Int.ediv_lt_of_lt_mul (by omega) (by rw[Int.mul_comm,all];exact c1)
 have pl:pt c 16 % 2 ^ n=pt (c / (2 ^ k*2)) n:=by rw[e16,pt_place,Int.pow_succ]
 rw[w1,hfi,pl];generalize c / (2 ^ k*2)=q at *;have pr:=pt_range q n;have inv:pt (pt q n) n=q:=by rw[pt_inv];exact Int.emod_eq_of_lt hq0 hq1
 have d1:q*(2 ^ k*2) / (2 ^ k*2)=q:=Int.mul_ediv_cancel _ (by omega)
 have d2:q*(2 ^ k*2) / 2 ^ k=2*q:=by
  rw[show q*(2 ^ k*2)=2*q*2 ^ k by rw[Int.mul_comm (2 ^ k) 2,← Int.mul_assoc,Int.mul_comm q 2]]
  exact Int.mul_ediv_cancel _ (Int.ne_of_gt hK)
 have d3:(q*(2 ^ k*2)+2 ^ k) / 2 ^ k=2*q+1:=by
  rw[show q*(2 ^ k*2)+2 ^ k=(2*q+1)*2 ^ k by rw[Int.add_mul,Int.one_mul,Int.mul_comm (2 ^ k) 2,← Int.mul_assoc,Int.mul_comm q 2]]
  exact Int.mul_ediv_cancel _ (Int.ne_of_gt hK)
 have s2:(2:Int)*2 ^ n=2 ^ (n+1):=by rw[Int.pow_succ,Int.mul_comm]
 have u:=pt_range (2*q+1) (n+1);refine⟨w1,by rw[hwd],by rw[hwd];exact hK,by rw[w3,hwd],hfi.symm,⟨Int.mul_nonneg hq0 (by omega),?_⟩,?_,?_,?_,?_,?_⟩
 · have h1:(q+1)*(2 ^ k*2)<=2 ^ n*(2 ^ k*2):=Int.mul_le_mul_of_nonneg_right (by omega) (by omega)
   rw[Int.mul_comm (2 ^ n),all,Int.add_mul,Int.one_mul]at h1;exact h1
 · rw[e16,pt_place,Int.pow_succ,d1]
 · rw[s2,e16',pt_place,d2,pt_even]
 · rw[hwd,s2,e16',pt_place,d3,pt_odd,Int.add_comm]
 · rw[e16'',pt_more pr.1 pr.2,inv,Int.pow_succ]
 rw[hwd,Int.add_comm (pt q n),← pt_odd,e16d,pt_more u.1 u.2,pt_inv,Int.emod_eq_of_lt (by omega) (by rw[Int.pow_succ];omega),Int.add_mul,Int.one_mul,Int.mul_comm (2 ^ k) 2,← Int.mul_assoc,Int.mul_comm q 2]
theorem B.par{X:Cx}{i j:Nat}{x y:Str}{a b:Expr}{ta:TA}{px py pt pos:Pos}{kt k2 pt2}(nd:X.N.Nodup)(ha:Bx (PA X [a,b] ta))(hi:X.N[i]?=some x:=by rfl)(hj:X.N[j]?=some y:=by rfl)(hij:i≠j:=by decide)
 (hx:X.env.scope.names.lookup x=some .local:=by rfl) (hy:X.env.scope.names.lookup y=some .local:=by rfl) (hc:X.calm=true:=by rfl)
 (hw:swappedStores [.Tuple [.Name x px,.Name y py] kt pt] (.Tuple [a,b] k2 pt2) X.env=pure (some [x,y]):=by rfl)
 (hs:swapsWithSole [.Tuple [.Name x px,.Name y py] kt pt] (.Tuple [a,b] k2 pt2) pos.line X.env=pure false:=by rfl) :
 Bx (PS X (.Assign [.Tuple [.Name x px,.Name y py] kt pt] (.Tuple [a,b] k2 pt2) pos) (tPar i j ta)):=⟨ps_par hc nd hi hj hij hx hy ha.out hw hs⟩
end SW
set_option maxHeartbeats 2000000
namespace SW
open PySem PySem.Spec PyProof.Rows L2
section
variable{f m:Int}{M:MT}{cur:Int}
end
end SW
set_option maxHeartbeats 2000000
namespace SW
open PySem PySem.Spec PyProof.Rows L2
end SW
set_option maxHeartbeats 2000000
namespace SW
open PySem
noncomputable abbrev Rsg(xs:List Nat):Prop:=xs.Pairwise (· < ·)
theorem rsg_lt{xs:Array Nat}(h:Rsg xs.toList){i j x y:Nat}(hi:xs[i]?=some x)(hj:xs[j]?=some y)(l:i < j):x < y:=by
 rw[← Array.getElem?_toList]at hi hj;obtain⟨a,rfl⟩:=List.getElem?_eq_some_iff.mp hi;obtain⟨b,rfl⟩:=List.getElem?_eq_some_iff.mp hj;exact List.pairwise_iff_getElem.mp h i j a b l
theorem rsg_le{xs:Array Nat}(h:Rsg xs.toList){i j x y:Nat}(hi:xs[i]?=some x)(hj:xs[j]?=some y)(l:i<=j):x<=y:=by
 rcases Nat.lt_or_eq_of_le l with z | z
 · exact Nat.le_of_lt (rsg_lt h hi hj z)
 subst z;rw[hi]at hj;cases hj;exact Nat.le_refl _
structure Blw(xs:Array Nat)(j r:Nat):Prop where
 le:r<=xs.size
 lo:∀ i x,i < r->xs[i]?=some x->x < j
 hi:∀ i x,r<=i->xs[i]?=some x->j<=x
theorem below_go{xs:Array Nat}{j:Nat}(h:Rsg xs.toList):∀(fuel lo hi:Nat),lo<=hi->hi<=xs.size->hi - lo<=fuel->(∀ i x,i < lo->xs[i]?=some x->x < j)->(∀ i x,hi<=i->xs[i]?=some x->j<=x)->Blw xs j (SetTable.below.go xs j fuel lo hi)
 | 0,lo,hi,h1,h2,h3,h4,h5=>by
   have e:lo=hi:=by omega
   subst e;exact⟨h2,h4,h5⟩
 | fuel+1,lo,hi,h1,h2,h3,h4,h5=>by
   unfold SetTable.below.go;by_cases c:lo < hi
   · rw[if_pos c]
     have hm:(lo+hi) / 2 < xs.size:=by omega
     have em:xs[(lo+hi) / 2]?=some xs[(lo+hi) / 2]:=Array.getElem?_eq_getElem hm;have eg:xs.getD ((lo+hi) / 2) j=xs[(lo+hi) / 2]:=by rw[Array.getD_eq_getD_getElem?,em];rfl
     dsimp only
     rw[eg];by_cases d:xs[(lo+hi) / 2] < j
     · rw[if_pos d]
       exact below_go h fuel _ hi (by omega) h2 (by omega) (fun i x l e=>Nat.lt_of_le_of_lt (rsg_le h e em (by omega)) d) h5
     rw[if_neg d];exact below_go h fuel lo _ (by omega) (by omega) (by omega) h4 fun i x l e=>Nat.le_trans (Nat.le_of_not_lt d) (rsg_le h em e l)
   rw[if_neg c];have e:lo=hi:=by omega
   subst e;exact⟨h2,h4,h5⟩
theorem below_ok{xs:Array Nat}(h:Rsg xs.toList)(j:Nat):Blw xs j (SetTable.below xs j):=
 below_go h xs.size 0 xs.size (Nat.zero_le _) (Nat.le_refl _) (by omega) (fun i x l=>absurd l (Nat.not_lt_zero _)) fun i x l e=>absurd (Array.getElem?_eq_some_iff.mp e).1 (by omega)
theorem below_zero{xs:Array Nat}(h:Rsg xs.toList):SetTable.below xs 0=0:=by
 obtain⟨h1,h2,_⟩:=below_ok h 0;rcases Nat.eq_zero_or_pos (SetTable.below xs 0)with z | z
 · exact z
 have:=h2 0 _ z (Array.getElem?_eq_getElem (by omega))
 omega
theorem below_next{xs:Array Nat}(h:Rsg xs.toList){k x:Nat}(e:xs[k]?=some x):SetTable.below xs (x+1)=k+1:=by
 obtain⟨h1,h2,h3⟩:=below_ok h (x+1);have a:k+1<=SetTable.below xs (x+1):=by
  apply Nat.le_of_not_lt
  intro z;have:=h3 k x (by omega) e
  omega
 rcases Nat.lt_or_eq_of_le a with z | z
 · have hk:k+1 < xs.size:=by omega
   have e2:=Array.getElem?_eq_getElem hk;have:=h2 (k+1) _ z e2;have:=rsg_lt h e e2 (Nat.lt_succ_self k);omega
 exact z.symm
theorem below_at{xs:Array Nat}(h:Rsg xs.toList){j:Nat}(m:j∈xs.toList):xs[SetTable.below xs j]?=some j:=by
 obtain⟨h1,h2,h3⟩:=below_ok h j;obtain⟨i,e⟩:=List.mem_iff_getElem?.mp m;rw[Array.getElem?_toList]at e;have a:SetTable.below xs j<=i:=by
  apply Nat.le_of_not_lt
  intro z;have:=h2 i j z e;omega
 rcases Nat.lt_or_eq_of_le a with z | z
 · have hr:SetTable.below xs j < xs.size:=by have:=(Array.getElem?_eq_some_iff.mp e).1;omega
   have e2:=Array.getElem?_eq_getElem hr;have:=h3 _ _ (Nat.le_refl _) e2;have:=rsg_lt h e2 e z;omega
 rw[z];exact e
theorem put_rsg{xs:Array Nat}(h:Rsg xs.toList){j:Nat}(m:j∉xs.toList):Rsg (SetTable.insertAt xs (SetTable.below xs j) j).toList:=by
 obtain⟨h1,h2,h3⟩:=below_ok h j;rw[SetTable.toList_insertAt];have ht:Rsg (xs.toList.take (SetTable.below xs j)):=h.sublist (List.take_sublist _ _);have hd:Rsg (xs.toList.drop (SetTable.below xs j)):=h.sublist (List.drop_sublist _ _);have hlo:∀ x∈xs.toList.take (SetTable.below xs j),x < j:=fun x hx=>by
  obtain⟨i,e⟩:=List.mem_iff_getElem?.mp hx;rw[List.getElem?_take]at e;split at e
  · rename_i l
    exact h2 i x l (by rw[← Array.getElem?_toList];exact e)
  cases e
 have hhi:∀ x∈xs.toList.drop (SetTable.below xs j),j < x:=fun x hx=>by
  obtain⟨i,e⟩:=List.mem_iff_getElem?.mp hx;rw[List.getElem?_drop]at e;have:=h3 _ x (Nat.le_add_right _ i) (by rw[← Array.getElem?_toList];exact e)
  rcases Nat.lt_or_eq_of_le this with z | z
  · exact z
  subst z;exact absurd (List.mem_of_getElem? e) m
 refine List.pairwise_append.mpr ⟨ht,List.pairwise_cons.mpr ⟨hhi,hd⟩,fun a ha b hb=>?_⟩;rcases List.mem_cons.mp hb with rfl | z
 · exact hlo a ha
 exact Nat.lt_trans (hlo a ha) (hhi b z)
noncomputable def it{α:Type}(f:α -> α):Nat -> α -> α
 | 0,x=>x
 | n+1,x=>it f n (f x)
theorem it_add{α:Type}(f:α -> α):∀(m n:Nat) (x:α),it f (m+n) x=it f n (it f m x)
 | 0,n,x=>by rw[Nat.zero_add];rfl
 | m+1,n,x=>by rw[Nat.succ_add];exact it_add f m n (f x)
noncomputable def fv(M x:Nat):Nat:=(x*5+1) % M
noncomputable def roundB(M:Nat):Bool:=((List.range M).all fun j=>((List.range M).any fun k=>it (fv M) k 0 == j)) && it (fv M) M 0 == 0
theorem round_cover{M:Nat}(h:roundB M=true){x j:Nat}(hx:x < M)(hj:j < M):∃ k,k < M/\it (fv M) k x=j:=by
 unfold roundB at h;rw[Bool.and_eq_true,List.all_eq_true,beq_iff_eq]at h;obtain⟨h,h0⟩:=h;have get:∀ y,y < M -> ∃ k,k < M/\it (fv M) k 0=y:=fun y hy=>by
  have:=h y (List.mem_range.mpr hy);rw[List.any_eq_true]at this;obtain⟨k,hk,e⟩:=this;exact⟨k,List.mem_range.mp hk,beq_iff_eq.mp e⟩
 obtain⟨a,ha,ea⟩:=get x hx;obtain⟨b,hb,eb⟩:=get j hj;by_cases c:a<=b
 · refine⟨b - a,by omega,?_⟩
   rw[← ea,← it_add,show a+(b - a)=b by omega]
   exact eb
 refine⟨M - a+b,by omega,?_⟩
 rw[← ea,← it_add,show a+(M - a+b)=M+b by omega,it_add,h0]
 exact eb
theorem round8:roundB 8=true:=by decide +kernel
theorem round32:roundB 32=true:=by decide +kernel
theorem round128:roundB 128=true:=by decide +kernel
noncomputable def lp(mask:Nat)(s:Nat×Nat):Nat×Nat:=SetTable.leap mask s.1 s.2
theorem lp_snd(mask:Nat):∀(n:Nat) (s:Nat×Nat),(it (lp mask) n s).2=s.2 / 32 ^ n
 | 0,s=>by simp[it]
 | n+1,s=>by
   show(it (lp mask) n (lp mask s)).2=_;rw[lp_snd mask n];show s.2 / 32 / 32 ^ n=_;rw[Nat.div_div_eq_div_mul,Nat.pow_succ,Nat.mul_comm]
theorem lp_zero{mask:Nat}:∀(k x:Nat),it (lp mask) k (x,0)=(it (fv (mask+1)) k x,0)
 | 0,x=>rfl
 | k+1,x=>by
   have e:lp mask (x,0)=(fv (mask+1) x,0):=by simp[lp,SetTable.leap,fv]
   show it (lp mask) k (lp mask (x,0))=_;rw[e];exact lp_zero (mask:=mask) k (fv (mask+1) x)
theorem cover{mask i p j:Nat}(h:roundB (mask+1)=true)(hp:p < 18446744073709551616)(hj:j<=mask):∃ n,n < SetTable.turns mask/\(it (lp mask) n (i,p)).1=j:=by
 have e2:(it (lp mask) 13 (i,p)).2=0:=by
  rw[lp_snd];exact Nat.div_eq_of_lt (Nat.lt_trans hp (by decide))
 have hx:(it (lp mask) 13 (i,p)).1 < mask+1:=by
  rw[show 13=12+1 from rfl,it_add];exact Nat.mod_lt _ (Nat.succ_pos _)
 obtain⟨k,hk,ek⟩:=round_cover h hx (show j < mask+1 by omega)
 refine⟨13+k,by unfold SetTable.turns;omega,?_⟩
 rw[it_add,show it (lp mask) 13 (i,p)=((it (lp mask) 13 (i,p)).1,0)from Prod.ext rfl e2,lp_zero];exact ek
theorem bits_lt(h:Int):SetTable.bits h < 18446744073709551616:=by
 unfold SetTable.bits;have h1:=Int.emod_nonneg h (show(2 ^ 64:Int)≠0 by decide)
 have h2:=Int.emod_lt_of_pos h (show(0:Int) < 2 ^ 64 by decide)
 omega
noncomputable def pr0(mask:Nat)(s:Nat×Nat)(d:Option Nat):SetTable.Probe:={ j:=s.1,more:=SetTable.runEnd mask s.1 - s.1,i:=s.1,perturb:=s.2,dummy:=d }
theorem run_le(mask i:Nat):SetTable.runEnd mask i - i<=9:=by
 unfold SetTable.runEnd;split <;> omega
section
variable{t:SetTable}{h:Int}
noncomputable abbrev pgo(t:SetTable)(h:Int):=SetTable.probe.go t (fun _=>h+1) h
theorem pgo_step{fuel:Nat}{p:SetTable.Probe}(e:pgo t h (fuel+1) p=none):t.slot p.j ≠ .empty /\ ∃ d,pgo t h fuel (t.advance { p with dummy:=d })=none:=by
 unfold pgo SetTable.probe.go at e;cases c:t.slot p.j with
 | empty=>rw[c]at e;cases e
 | dummy=>
   rw[c]at e;exact⟨(by intro z;cases z),_,e⟩
 | live i=>
   rw[c]at e;have ne:((h+1) == h)=false:=by
    rw[beq_eq_false_iff_ne];omega
   simp only[ne,Bool.false_eq_true,if_false]at e;exact⟨(by intro z;cases z),p.dummy,e⟩
theorem pgo_run{s:Nat×Nat}:∀(m fuel:Nat) (p:SetTable.Probe),p.more=m->p.i=s.1->p.perturb=s.2->m+1<=fuel->pgo t h fuel p=none -> ∃ d fuel',fuel'+(m+1)=fuel/\pgo t h fuel' (pr0 t.mask (lp t.mask s) d)=none
 | 0,fuel+1,p,hm,hi,hp,hf,e=>by
   obtain⟨_,d,e⟩:=pgo_step e;refine⟨d,fuel,rfl,?_⟩;have ea:t.advance { p with dummy:=d }=pr0 t.mask (lp t.mask s) d:=by
    unfold SetTable.advance pr0 lp;rw[if_neg (by show ¬ p.more > 0;omega),← hi,← hp]
   rw[← ea];exact e
 | m+1,fuel+1,p,hm,hi,hp,hf,e=>by
   obtain⟨_,d,e⟩:=pgo_step e;have ea:t.advance { p with dummy:=d }={ p with dummy:=d,j:=p.j+1,more:=p.more - 1 }:=by
    unfold SetTable.advance;rw[if_pos (by show p.more > 0;omega)]
   rw[ea]at e;obtain⟨d',f',e1,e2⟩:=pgo_run m fuel { p with dummy:=d,j:=p.j+1,more:=p.more - 1 } (by show p.more - 1=m;omega) hi hp (by omega) e
   exact⟨d',f',by omega,e2⟩
theorem pgo_all:∀(n:Nat) (s:Nat×Nat) (d:Option Nat) (fuel:Nat),10*(n+1)<=fuel->pgo t h fuel (pr0 t.mask s d)=none->t.slot (it (lp t.mask) n s).1 ≠ .empty
 | 0,s,d,fuel+1,hf,e=>(pgo_step e).1
 | n+1,s,d,fuel,hf,e=>by
   have hr:=run_le t.mask s.1;obtain⟨d',f',e1,e2⟩:=pgo_run (s:=s) _ fuel _ rfl rfl rfl (by show SetTable.runEnd t.mask s.1 - s.1+1<=fuel;omega) e
   exact pgo_all n (lp t.mask s) d' f' (by have:(pr0 t.mask s d).more<=9:=hr;omega) e2
theorem pgo_some(nd:t.dummies=#[]):∀(fuel:Nat) (p:SetTable.Probe) (m:SetTable.Met),p.dummy=none->pgo t h fuel p=some m -> ∃ j,m=.empty j none/\t.slot j=.empty
 | 0,p,m,hd,e=>by cases e
 | fuel+1,p,m,hd,e=>by
   have adv:∀ q:SetTable.Probe,q.dummy=none->(t.advance q).dummy=none:=fun q hq=>by
    unfold SetTable.advance;split <;> exact hq
   unfold pgo SetTable.probe.go at e;cases c:t.slot p.j with
   | empty=>
     rw[c]at e;cases e;exact⟨p.j,by rw[hd],c⟩
   | dummy=>
     exfalso
     unfold SetTable.slot SetTable.has at c;rw[nd]at c
     dsimp only at c
     split at c
     · cases c
     split at c
     · rename_i z
       simp at z
     cases c
   | live i=>
     rw[c]at e;have ne:((h+1) == h)=false:=by
      rw[beq_eq_false_iff_ne];omega
     simp only[ne,Bool.false_eq_true,if_false]at e;exact pgo_some nd fuel _ m (adv p hd) e
theorem slot_free(nd:t.dummies=#[]){j:Nat}(h:j∉t.place.toList):t.slot j=.empty:=by
 unfold SetTable.slot SetTable.has;rw[nd];have:¬ ((t.place[SetTable.below t.place j]? == some j)=true):=fun z=>by
  have e:=beq_iff_eq.mp z;rw[← Array.getElem?_toList]at e;exact h (List.mem_of_getElem? e)
 dsimp only
 rw[if_neg this,if_neg (by simp)]
theorem slot_new(rs:Rsg t.place.toList){j:Nat}(h:t.slot j=.empty):j∉t.place.toList:=fun m=>by
 have e:=below_at rs m;unfold SetTable.slot at h
 dsimp only at h
 rw[if_pos (beq_iff_eq.mpr e)]at h;cases h
theorem spare{N:Nat}{xs:List Nat}(h:xs.length < N):∃ j,j < N/\j∉xs:=by
 apply Classical.byContradiction
 intro z;have sub:∀ j∈List.range N,j∈xs:=fun j hj=>by
  apply Classical.byContradiction
  intro y;exact z ⟨j,List.mem_range.mp hj,y⟩
 have:=(List.nodup_range (n:=N)).length_le_of_subset sub;rw[List.length_range]at this;omega
theorem free_slot(rs:Rsg t.place.toList)(nd:t.dummies=#[])(hr:roundB (t.mask+1)=true)(hl:t.place.size<=t.mask):∃ j,t.freeSlot h=some (j,false)/\j∉t.place.toList:=by
 have ps:t.probeStart h=pr0 t.mask (SetTable.bits h % (t.mask+1),SetTable.bits h) none:=rfl;cases e:t.probe (fun _=>h+1) h (t.probeStart h)with
 | none=>
   exfalso
   obtain⟨j,hj,nj⟩:=spare (N:=t.mask+1) (xs:=t.place.toList) (by rw[Array.length_toList];omega)
   obtain⟨n,hn,en⟩:=cover (i:=SetTable.bits h % (t.mask+1)) hr (bits_lt h) (show j<=t.mask by omega)
   have e':pgo t h (10*SetTable.turns t.mask) (pr0 t.mask (SetTable.bits h % (t.mask+1),SetTable.bits h) none)=none:=by rw[← ps];exact e
   have:=pgo_all n _ none _ (by omega) e'
   rw[en]at this;exact this (slot_free nd nj)
 | some m=>
   obtain⟨j,rfl,hj⟩:=pgo_some nd _ _ m rfl (show pgo t h (10*SetTable.turns t.mask) (t.probeStart h)=some m from e);refine⟨j,?_,slot_new rs hj⟩;unfold SetTable.freeSlot;rw[e]
   rfl
end
end SW
set_option maxHeartbeats 2000000
namespace SW
open PySem
noncomputable def live(M:Nat)(ow:Array (Option Nat)):List (Nat×Nat):=(List.range M).filterMap fun j=>(ow.getD j none).map (j,·)
theorem live_rsg(M:Nat)(ow:Array (Option Nat)):Rsg ((live M ow).map (·.1)):=by
 unfold live;rw[List.map_filterMap];have e:(fun j=>((ow.getD j none).map (Prod.mk j)).map (·.1))=fun j=>if(ow.getD j none).isSome then some j else none:=by
  funext j
  cases ow.getD j none <;> rfl
 rw[e];refine List.Pairwise.sublist (l₂:=List.range M) ?_ List.pairwise_lt_range;have:∀ l:List Nat,(l.filterMap fun j=>if(ow.getD j none).isSome then some j else none).Sublist l:=fun l=>by
  induction l with
  | nil=>exact List.Sublist.refl _
  | cons a l ih=>
    rw[List.filterMap_cons];by_cases c:(ow.getD a none).isSome
    · rw[if_pos c]
      exact ih.cons₂ a
    rw[if_neg c];exact ih.cons a
 exact this _
theorem fm_congr{α β:Type}{f g:α -> Option β}:∀{l:List α},(∀ x∈l,f x=g x)->l.filterMap f=l.filterMap g
 | [],_=>rfl
 | a::l,h=>by
   have ih:=fm_congr (l:=l) fun x hx=>h x (List.mem_cons_of_mem _ hx);rw[List.filterMap_cons,List.filterMap_cons,h a List.mem_cons_self,ih]
theorem fm_set{f g:Nat->Option (Nat×Nat)}{j:Nat}{y:Nat×Nat}(hf:f j=none)(hg:g j=some y)(hx:∀ i,i≠j->g i=f i):∀{l:List Nat},l.Nodup->j∈l->(l.filterMap g).Perm (y::l.filterMap f)
 | a::l,nd,m=>by
   obtain⟨n1,n2⟩:=List.nodup_cons.mp nd;by_cases c:a=j
   · subst c
     rw[List.filterMap_cons_some hg,List.filterMap_cons_none hf];have:l.filterMap g=l.filterMap f:=fm_congr fun i hi=>hx i fun z=>n1 (z ▸ hi);rw[this]
   have m':j∈l:=(List.mem_cons.mp m).resolve_left fun z=>c z.symm;have ih:=fm_set hf hg hx n2 m';cases e:f a with
   | none=>
     rw[List.filterMap_cons_none e,List.filterMap_cons_none (by rw[hx a c];exact e)]
     exact ih
   | some b=>
     rw[List.filterMap_cons_some e,List.filterMap_cons_some (show g a=some b by rw[hx a c];exact e)]
     exact(ih.cons b).trans (List.Perm.swap _ _ _)
structure Own(mask:Nat)(ow:Array (Option Nat))(k:Nat):Prop where
 sz:ow.size=mask+1
 pm:((live (mask+1) ow).map (·.2)).Perm (List.range k)
theorem own_nil(mask:Nat):Own mask (Array.replicate (mask+1) none) 0:=by
 refine⟨Array.size_replicate,?_⟩;have:live (mask+1) (Array.replicate (mask+1) none)=[]:=by
  unfold live;rw[List.filterMap_eq_nil_iff];intro j hj;rw[Array.getD_eq_getD_getElem?,Array.getElem?_replicate];split <;> rfl
 rw[this];exact List.Perm.refl _
theorem own_free{mask k:Nat}{ow:Array (Option Nat)}(O:Own mask ow k)(hk:k<=mask):∃ j,j<=mask/\ow.getD j (some 0)=none:=by
 apply Classical.byContradiction
 intro z;have all:∀ j∈List.range (mask+1),((ow.getD j none).map (Prod.mk j)).isSome=true:=fun j hj=>by
  have hj':=List.mem_range.mp hj;cases e:ow.getD j none with
  | some v=>rfl
  | none=>
    exfalso
    refine z ⟨j,by omega,?_⟩
    have hl:j < ow.size:=by rw[O.sz];exact hj'
    rw[Array.getD_eq_getD_getElem?,Array.getElem?_eq_getElem hl]at e ⊢;exact e
 have len:∀ l:List Nat,(∀ j∈l,((ow.getD j none).map (Prod.mk j)).isSome=true)->(l.filterMap fun j=>(ow.getD j none).map (j,·)).length=l.length:=fun l=>by
  induction l with
  | nil=>intro _;rfl
  | cons a l ih=>
    intro h;obtain⟨b,hb⟩:=Option.isSome_iff_exists.mp (h a List.mem_cons_self);rw[List.filterMap_cons_some (f:=fun j=>(ow.getD j none).map (j,·)) hb,List.length_cons,List.length_cons,ih fun j hj=>h j (List.mem_cons_of_mem _ hj)]
 have h1:=len _ all;have h2:=O.pm.length_eq;rw[List.length_map,List.length_range]at h2;rw[List.length_range]at h1;unfold live at h2;omega
theorem free_none{mask:Nat}{ow:Array (Option Nat)}:∀(fuel i p:Nat),SetTable.layClean.free mask ow fuel i p=none -> ∀ n,n < fuel->ow.getD (it (lp mask) n (i,p)).1 (some 0)≠none
 | 0,i,p,_,n,hn=>absurd hn (Nat.not_lt_zero _)
 | fuel+1,i,p,e,n,hn=>by
   unfold SetTable.layClean.free at e;cases c:(List.range (SetTable.runEnd mask i+1 - i)).find? fun k=>(ow.getD (i+k) (some 0)).isNone with
   | some k=>rw[c]at e;cases e
   | none=>
     rw[c]at e;cases n with
     | zero=>
       intro z;have h0:0∈List.range (SetTable.runEnd mask i+1 - i):=List.mem_range.mpr (by unfold SetTable.runEnd;split <;> omega)
       have:=List.find?_eq_none.mp c 0 h0;rw[Nat.add_zero]at this;have z:ow.getD i (some 0)=none:=z;rw[z]at this;exact this rfl
     | succ n=>exact free_none fuel _ _ e n (Nat.lt_of_succ_lt_succ hn)
theorem free_some{mask:Nat}{ow:Array (Option Nat)}:∀(fuel i p j:Nat),SetTable.layClean.free mask ow fuel i p=some j->ow[j]?=some none
 | 0,i,p,j,e=>by cases e
 | fuel+1,i,p,j,e=>by
   unfold SetTable.layClean.free at e;cases c:(List.range (SetTable.runEnd mask i+1 - i)).find? fun k=>(ow.getD (i+k) (some 0)).isNone with
   | some k=>
     rw[c]at e;cases e;have:=List.find?_some c;rw[Array.getD_eq_getD_getElem?]at this;cases q:ow[i+k]? with
     | none=>rw[q]at this;cases this
     | some v=>
       rw[q]at this;cases v with
       | none=>rfl
       | some w=>cases this
   | none=>
     rw[c]at e;exact free_some fuel _ _ j e
theorem own_put{mask k j:Nat}{ow:Array (Option Nat)}(O:Own mask ow k)(h:ow[j]?=some none):Own mask (ow.setIfInBounds j (some k)) (k+1):=by
 have hj:=(Array.getElem?_eq_some_iff.mp h).1;refine⟨by rw[Array.size_setIfInBounds];exact O.sz,?_⟩
 have p:(live (mask+1) (ow.setIfInBounds j (some k))).Perm ((j,k)::live (mask+1) ow):=by
  refine fm_set (j:=j) ?_ ?_ (fun i hi=>?_) List.nodup_range (List.mem_range.mpr (by rw[← O.sz];exact hj))
  · rw[Array.getD_eq_getD_getElem?,h];rfl
  · rw[Array.getD_eq_getD_getElem?,Array.getElem?_setIfInBounds_self,if_pos hj];rfl
  rw[Array.getD_eq_getD_getElem?,Array.getElem?_setIfInBounds_ne (Ne.symm hi),← Array.getD_eq_getD_getElem?]
 have:=(p.map fun q:Nat×Nat=>q.2).trans (O.pm.cons k);refine this.trans ?_;rw[List.range_succ];exact(List.perm_append_singleton _ _).symm
noncomputable abbrev laySt(mask:Nat):Option (Array (Option Nat)×Nat)->Int->Option (Array (Option Nat)×Nat):=fun acc h=>do
 let(owner,k) ← acc
 let j ← SetTable.layClean.free mask owner (SetTable.turns mask) (SetTable.bits h % (mask+1)) (SetTable.bits h)
 pure (owner.setIfInBounds j (some k),k+1)
theorem lay_all{mask:Nat}(hr:roundB (mask+1)=true):∀(hs:List Int) (ow:Array (Option Nat)) (k:Nat),Own mask ow k->k+hs.length<=mask -> ∃ ow',hs.foldl (laySt mask) (some (ow,k))=some (ow',k+hs.length)/\Own mask ow' (k+hs.length)
 | [],ow,k,O,_=>⟨ow,rfl,O⟩
 | h::hs,ow,k,O,hl=>by
   rw[List.length_cons]at hl;cases e:SetTable.layClean.free mask ow (SetTable.turns mask) (SetTable.bits h % (mask+1)) (SetTable.bits h)with
   | none=>
     exfalso
     obtain⟨j,hj,nj⟩:=own_free O (by omega)
     obtain⟨n,hn,en⟩:=cover (i:=SetTable.bits h % (mask+1)) hr (bits_lt h) hj;have:=free_none _ _ _ e n hn;rw[en]at this;exact this nj
   | some j=>
     have O':=own_put O (free_some _ _ _ _ e);obtain⟨ow',e1,O2⟩:=lay_all hr hs _ (k+1) O' (by omega)
     refine⟨ow',?_,?_⟩
     · rw[List.foldl_cons,show laySt mask (some (ow,k)) h=some (ow.setIfInBounds j (some k),k+1) by
        show(do let j ← SetTable.layClean.free mask ow (SetTable.turns mask) (SetTable.bits h % (mask+1)) (SetTable.bits h);pure (ow.setIfInBounds j (some k),k+1))=_;rw[e];rfl,e1,List.length_cons]
       congr 2
       omega
     rw[List.length_cons,show k+(hs.length+1)=k+1+hs.length by omega]
     exact O2
theorem laid_ok{mask finger moves:Nat}{led plain:Bool}{hs:Array Int}(hr:roundB (mask+1)=true)(hl:hs.size<=mask) :
 ∃ place order:Array Nat,SetTable.laid mask finger moves led plain hs=some ({ mask:=mask,place:=place,dummies:=#[],finger:=finger,led:=led,moves:=moves,plain:=plain },order)/\Rsg place.toList/\place.size=hs.size/\order.toList.Perm (List.range hs.size):=by
 obtain⟨ow,e,O⟩:=lay_all hr hs.toList _ 0 (own_nil mask) (by rw[Array.length_toList];omega)
 rw[Array.length_toList,Nat.zero_add]at e O;refine⟨((live (mask+1) ow).map (·.1)).toArray,((live (mask+1) ow).map (·.2)).toArray,?_,by simpa using live_rsg (mask+1) ow,?_,by simpa using O.pm⟩
 · unfold SetTable.laid SetTable.layClean
   rw[← Array.foldl_toList];have e':List.foldl (laySt mask) (some (Array.replicate (mask+1) none,0)) hs.toList=some (ow,hs.size):=e;show(do
    let owner ← (List.foldl (laySt mask) (some (Array.replicate (mask+1) none,0)) hs.toList).map fun q:Array (Option Nat)×Nat=>q.1
    _)=_
   rw[e']
   rfl
 have:=O.pm.length_eq;rw[List.length_map,List.length_range]at this;rw[List.size_toArray,List.length_map];exact this
end SW
set_option maxHeartbeats 2000000
namespace SW
open PySem PySem.Spec PyProof.Rows L2
structure TG(led:Bool)(es:Array (Int×Value))(t:SetTable):Prop where
 rs:Rsg t.place.toList
 nd:t.dummies=#[]
 pl:t.plain=true
 ld:t.led=led
 sz:t.place.size=es.size
 mm:(t.mask=7/\es.size<=4)∨(t.mask=31/\es.size<=18)∨(t.mask=127/\es.size<=76)
theorem tg_fresh(led:Bool):TG led #[] (.fresh 0 0 led):=⟨List.Pairwise.nil,rfl,rfl,rfl,rfl,.inl ⟨rfl,by decide⟩⟩
theorem TG.round{led:Bool}{es:Array (Int×Value)}{t:SetTable}(T:TG led es t):roundB (t.mask+1)=true:=by
 rcases T.mm with ⟨e,_⟩ | ⟨e,_⟩ | ⟨e,_⟩ <;> rw[e]
 · exact round8
 · exact round32
 exact round128
theorem TG.fits{led:Bool}{es:Array (Int×Value)}{t:SetTable}(T:TG led es t):t.fits es.size=true:=by
 unfold SetTable.fits SetTable.fill;rw[T.sz,T.nd];have:=T.mm;simp only[Array.size_empty,Nat.add_zero,beq_self_eq_true,Bool.true_and,decide_eq_true_eq];omega
theorem ins_size{α:Type}(xs:Array α)(p:Nat)(x:α):(SetTable.insertAt xs p x).size=xs.size+1:=by
 have:=(SetTable.insertAt_perm xs p x).length_eq;rw[Array.length_toList,Array.length_toList,Array.size_push]at this;exact this
theorem lay_new{led:Bool}{es:Array (Int×Value)}{t:SetTable}{h:Int}{x:Value}(T:TG led es t)(hl:es.size < t.mask) :
 ∃ es1 t1,layNew t es h x=(es1,t1,false,false)/\Rsg t1.place.toList/\t1.dummies=#[]/\t1.plain=true/\t1.led=led/\t1.mask=t.mask/\t1.place.size=es1.size/\es1.size=es.size+1:=by
 obtain⟨j,ej,nj⟩:=free_slot (h:=h) T.rs T.nd T.round (by rw[T.sz];omega)
 have hz:=ins_size t.place (SetTable.below t.place j) j;have he:=ins_size es (SetTable.below t.place j) (h,x);have np:(t.put j).1={ t with place:=SetTable.insertAt t.place (SetTable.below t.place j) j }:=by
  unfold SetTable.put SetTable.has;rw[T.nd];cases t
  simp_all
 have fits:(t.put j).1.fits (SetTable.insertAt es (SetTable.below t.place j) (h,x)).size=true:=by
  rw[np,he];unfold SetTable.fits SetTable.fill;simp only[hz,T.nd,T.sz,Array.size_empty,Nat.add_zero,beq_self_eq_true,Bool.true_and,decide_eq_true_eq];omega
 refine⟨SetTable.insertAt es (SetTable.below t.place j) (h,x),(t.put j).1,?_,?_,?_,?_,?_,?_,?_,he⟩
 · unfold layNew
   rw[ej];show(SetTable.insertAt es (SetTable.below t.place j) (h,x),SetTable.orStandIn (t.put j).1 (SetTable.insertAt es (SetTable.below t.place j) (h,x)).size,false,!SetTable.fits (t.put j).1 (SetTable.insertAt es (SetTable.below t.place j) (h,x)).size)=_;unfold SetTable.orStandIn;rw[fits]
   rfl
 · rw[np];exact put_rsg T.rs nj
 · rw[np];exact T.nd
 · rw[np];exact T.pl
 · rw[np];exact T.ld
 · rw[np]
 rw[np,he];show(SetTable.insertAt t.place (SetTable.below t.place j) j).size=_;rw[hz,T.sz]
theorem relay_ok{es:Array (Int×Value)}{t:SetTable}{wanted mask:Nat}(hm:SetTable.sizeAbove wanted - 1=mask)(hr:roundB (mask+1)=true)(hl:es.size<=mask) :
 ∃ es2 t2,relayAll t es wanted=(es2,t2,false)/\Rsg t2.place.toList/\t2.dummies=#[]/\t2.plain=t.plain/\t2.led=t.led/\t2.mask=mask/\t2.place.size=es2.size/\es2.size=es.size:=by
 obtain⟨pl,od,e,r1,r2,r3⟩:=laid_ok (mask:=mask) (finger:=t.finger) (moves:=t.movedTo mask) (led:=t.led) (plain:=t.plain) (hs:=es.map (·.1)) hr (by rw[Array.size_map];exact hl)
 rw[Array.size_map]at r2 r3;have eR:t.relaid (es.map (·.1)) wanted=some ({ mask:=mask,place:=pl,dummies:=#[],finger:=t.finger,led:=t.led,moves:=t.movedTo mask,plain:=t.plain },od):=by
  unfold SetTable.relaid;rw[hm];exact e
 have cov:coversAll od es.size=true:=by
  unfold coversAll;exact List.isPerm_iff.mpr r3
 have hz:(od.filterMap (es[·]?)).size=es.size:=by
  have p:(od.filterMap (es[·]?)).toList.Perm es.toList:=by
   rw[Array.toList_filterMap];exact(r3.filterMap _).trans (by rw[filterMap_getElem?_range])
  rw[← Array.length_toList,p.length_eq,Array.length_toList]
 have fits:({ mask:=mask,place:=pl,dummies:=#[],finger:=t.finger,led:=t.led,moves:=t.movedTo mask,plain:=t.plain }:SetTable).fits (od.filterMap (es[·]?)).size=true:=by
  unfold SetTable.fits SetTable.fill;simp only[hz,r2,Array.size_empty,Nat.add_zero,beq_self_eq_true,Bool.true_and,decide_eq_true_eq];exact hl
 refine⟨od.filterMap (es[·]?),{ mask:=mask,place:=pl,dummies:=#[],finger:=t.finger,led:=t.led,moves:=t.movedTo mask,plain:=t.plain },?_,r1,rfl,rfl,rfl,rfl,by rw[hz];exact r2,hz⟩
 unfold relayAll;rw[eR]
 dsimp only
 rw[cov,fits]
 rfl
theorem grow_ok{led:Bool}{es1:Array (Int×Value)}{t1:SetTable}(r1:Rsg t1.place.toList)(r2:t1.dummies=#[])(r3:t1.plain=true)(r4:t1.led=led)(r5:t1.place.size=es1.size)
 (hm:(t1.mask=7/\es1.size<=5)∨(t1.mask=31/\es1.size<=19)∨(t1.mask=127/\es1.size<=76)) :
 (t1.tooFull=false/\TG led es1 t1)∨(t1.tooFull=true /\ ∃ es2 t2,relayAll t1 es1 (SetTable.grown es1.size)=(es2,t2,false)/\TG led es2 t2):=by
 have ef:t1.tooFull=decide (es1.size*5 ≥ t1.mask*3):=by
  unfold SetTable.tooFull SetTable.fill;rw[r2,r5]
  rfl
 rw[ef];rcases hm with ⟨e,l⟩ | ⟨e,l⟩ | ⟨e,l⟩
 · by_cases c:es1.size=5
   · refine .inr ⟨decide_eq_true (by omega),?_⟩
     obtain⟨es2,t2,q,a1,a2,a3,a4,a5,a6,a7⟩:=relay_ok (t:=t1) (es:=es1) (wanted:=SetTable.grown es1.size) (mask:=31) (by rw[c];decide) round32 (by omega)
     exact⟨es2,t2,q,a1,a2,a3.trans r3,a4.trans r4,a6,.inr (.inl ⟨a5,by omega⟩)⟩
   exact .inl ⟨decide_eq_false (by omega),r1,r2,r3,r4,r5,.inl ⟨e,by omega⟩⟩
 · by_cases c:es1.size=19
   · refine .inr ⟨decide_eq_true (by omega),?_⟩
     obtain⟨es2,t2,q,a1,a2,a3,a4,a5,a6,a7⟩:=relay_ok (t:=t1) (es:=es1) (wanted:=SetTable.grown es1.size) (mask:=127) (by rw[c];decide) round128 (by omega)
     exact⟨es2,t2,q,a1,a2,a3.trans r3,a4.trans r4,a6,.inr (.inr ⟨a5,by omega⟩)⟩
   exact .inl ⟨decide_eq_false (by omega),r1,r2,r3,r4,r5,.inr (.inl ⟨e,by omega⟩)⟩
 exact .inl ⟨decide_eq_false (by omega),r1,r2,r3,r4,r5,.inr (.inr ⟨e,l⟩)⟩
section
variable{prog:Program}{w:World}{A:Around}{E:Value->Shared->Prop}{s:Shared}
theorem put_at{a:Addr}{o:Obj}{es:Array (Int×Value)}{ep:Nat}{t:SetTable}(ho:s.heap.get? a=some o)(hd:o.data=.set es ep t)(es':Array (Int×Value))(t':SetTable) :
 (s.heap.update a (Obj.putSet es' t')).get? a=some { o with data:=.set es' (ep+1) t' }:=by
 have e:=Heap.get?_update_self (Obj.putSet es' t') ho (by rw[putSet_of es' t' hd];rfl)
 rw[putSet_of es' t' hd]at e;exact e
theorem add_wp{led:Bool}{a:Addr}{o:Obj}{es:Array (Int×Value)}{ep:Nat}{t:SetTable}{k:Int}{tk:Tok}{Q:Bool->Shared->Prop}(ho:s.heap.get? a=some o)(hd:o.data=.set es ep t)(hel:ElemsOf (intKind prog w) es.toList)(T:TG led es t)(hn:es.size < 76)
 (h:∀ h' es' ep' t',Heap.SameBut a s.heap h'->h'.get? a=some { o with data:=.set es' ep' t' } -> ElemsOf (intKind prog w) es'.toList->TG led es' t' ->
  (es'=es∨(es'.toList.Perm (es.toList++[((intKind prog w).hash k,.int k tk)]) /\ ∀ e∈es.toList,(intKind prog w).is k e.2=false)) -> ∀ b,Q b { s with heap:=h' }) :
 wpAny (model prog w) A (setAddHashed a (.int k tk) ((intKind prog w).hash k)) Q E s:=by
 have hkey:(intKind prog w).is k (.int k tk)=true:=intKind_is _ _ _ _;have hb:es.size < scanBound:=by unfold scanBound;omega
 unfold setAddHashed setAddHashedIn;refine wpAny_holding (wpAny_bind (wpAny_setState_of ho hd T.fits ?_))
 dsimp only
 rw[byScan_of rfl hb hel,if_pos rfl];unfold setAddByScan;refine wpAny_bind (wpAny_bind (wpAny_rule (wpAny_bind (wpAny_setScan_of hkey ho hd T.fits hel ?_))));cases hr:List.findIdx? (fun e=>(intKind prog w).is k e.2) es.toList with
 | some j=>
   dsimp only
   refine wpAny_pure (wpAny_pure ?_);have:=h s.heap es ep t (Heap.SameBut.refl a s.heap) (by rw[ho];congr 1;cases o;cases hd;rfl) hel T (.inl rfl)
   cases s;exact this _
 | none=>
   dsimp only
   have no:∀ e∈es.toList,(intKind prog w).is k e.2=false:=fun e he=>by
    have:=List.findIdx?_eq_none_iff.mp hr e he
    simpa using this
   obtain⟨es1,t1,eL,q1,q2,q3,q4,q5,q6,q7⟩:=lay_new (h:=(intKind prog w).hash k) (x:=.int k tk) T (by rcases T.mm with ⟨e,l⟩ | ⟨e,l⟩ | ⟨e,l⟩ <;> omega)
   have pm:=layNew_perm t es ((intKind prog w).hash k) (.int k tk);rw[eL]at pm ⊢
   dsimp only at pm ⊢
   rw[Array.toList_push]at pm;have hel1:ElemsOf (intKind prog w) es1.toList:=(hel.push hkey rfl).perm pm;refine wpAny_bind (wpAny_pure ?_);rw[q3,if_pos rfl,hashByValue_scannable 8 rfl];refine wpAny_bind (wpAny_pure ?_)
   dsimp only[plainKind]
   rw[if_pos rfl];refine wpAny_bind (wpAny_storeSet_of ho hd ?_ (fits_of_scanBound (by unfold scanBound;omega)))
   have ho1:=put_at ho hd es1 t1;have sb1:=Heap.SameBut.update s.heap a (Obj.putSet es1 t1);rcases grow_ok q1 q2 q3 q4 q6 (by rcases T.mm with ⟨e,l⟩ | ⟨e,l⟩ | ⟨e,l⟩ <;> omega)with ⟨f1,T1⟩ | ⟨f1,es2,t2,eR,T2⟩
   · rw[f1,if_neg (by decide)]
     exact wpAny_pure (wpAny_pure (h _ es1 (ep+1) t1 sb1 ho1 hel1 T1 (.inr ⟨pm,no⟩) _))
   rw[f1,if_pos (by decide),eR]
   have pm2:=relayAll_perm t1 es1 (SetTable.grown es1.size);rw[eR]at pm2
   dsimp only at pm2 ⊢
   refine wpAny_bind (wpAny_pure ?_);have hz2:es2.size=es1.size:=by rw[← Array.length_toList,pm2.length_eq,Array.length_toList]
   refine wpAny_bind (wpAny_storeSet_of (s:={ s with heap:=s.heap.update a (Obj.putSet es1 t1) }) ho1 rfl ?_ (fits_of_scanBound (by unfold scanBound;omega)))
   have ho2:=put_at (s:={ s with heap:=s.heap.update a (Obj.putSet es1 t1) }) ho1 rfl es2 t2;exact wpAny_pure (wpAny_pure (h _ es2 (ep+1+1) t2 (sb1.trans (Heap.SameBut.update _ a _)) ho2 (hel1.perm pm2) T2 (.inr ⟨pm2.trans pm,no⟩) _))
end
noncomputable def nmV:Value->Int
 | .int n _=>n
 | _=>0
structure SXo(prog:Program)(w:World)(led:Bool)(o:Obj)(es:Array (Int×Value))(ep:Nat)(t:SetTable)(ns:List Int)(i:Nat):Prop where
 ex:o.ExactSet
 dt:o.data=.set es ep t
 el:ElemsOf (intKind prog w) es.toList
 T:TG led es t
 nd:(es.toList.map fun e=>nmV e.2).Nodup
 sub:∀ k∈es.toList.map fun e=>nmV e.2,k∈ns
 le:es.size<=i
noncomputable def SX(prog:Program)(w:World)(led:Bool)(h:Heap)(a:Addr)(ns:List Int)(i:Nat):Prop:=∃ o es ep t,h.get? a=some o/\SXo prog w led o es ep t ns i
section
variable{prog:Program}{w:World}{A:Around}{E:Value->Shared->Prop}{s:Shared}{led:Bool}{a:Addr}{ns:List Int}{i:Nat}
theorem SX.keep{h h':Heap}(x:SX prog w led h a ns i)(k:∀ o,h.get? a=some o->h'.get? a=some o):SX prog w led h' a ns i:=
 let⟨o,es,ep,t,e,q⟩:=x;⟨o,es,ep,t,k o e,q⟩
theorem sx_add{k:Int}{tk:Tok}{Q:Bool->Shared->Prop}(x:SX prog w led s.heap a ns i)(hk:k∈ns)(hi:i < 76)(h:∀ h',Heap.SameBut a s.heap h'->SX prog w led h' a ns (i+1) -> ∀ b,Q b { s with heap:=h' }) :
 wpAny (model prog w) A (setAddHashed a (.int k tk) ((intKind prog w).hash k)) Q E s:=by
 obtain⟨o,es,ep,t,ho,X⟩:=x;refine add_wp (led:=led) ho X.dt X.el X.T (Nat.lt_of_le_of_lt X.le hi) fun h' es' ep' t' sb ho' el' T' c b=>h h' sb ⟨_,es',ep',t',ho',?_⟩ b;have ex':Obj.ExactSet { o with data:=.set es' ep' t' }:=X.ex;rcases c with rfl | ⟨pm,no⟩
 · exact⟨ex',rfl,el',T',X.nd,X.sub,Nat.le_succ_of_le X.le⟩
 have pk:=pm.map fun e:Int×Value=>nmV e.2;rw[List.map_append]at pk;have nk:k∉es.toList.map fun e=>nmV e.2:=fun z=>by
  obtain⟨e,he,ek⟩:=List.mem_map.mp z;obtain⟨⟨k',hk',_⟩,_⟩:=X.el e he;obtain⟨u,eu⟩:=Value.isInt_shape hk';have:(intKind prog w).is k e.2=true:=by
   rw[eu]at ek ⊢;have ek:k'=k:=ek;rw[ek];exact intKind_is _ _ _ _
  rw[no e he]at this;cases this
 refine⟨ex',rfl,el',T',pk.nodup_iff.mpr ?_,fun z hz=>?_,?_⟩
 · refine List.nodup_append.mpr ⟨X.nd,by simp,fun x hx y hy=>?_⟩
   have hy:y=k:=by simpa [nmV] using hy
   subst hy;exact fun z=>nk (z ▸ hx)
 · rcases List.mem_append.mp (pk.mem_iff.mp hz)with q | q
   · exact X.sub z q
   have q:z=k:=by simpa [nmV] using q
   rw[q];exact hk
 have:=pm.length_eq;rw[Array.length_toList,List.length_append,Array.length_toList]at this;have:=X.le;simp at *;omega
end
section
variable{prog:Program}{w:World}{A:Around}{R:Result->Shared->Prop}{I:Addr}{fp wr:List Addr}{G:Array GenState->Array GenState->Prop}{n:Nat}{P:Nat->Value->Prop}{St:Nat->Shared->Prop}{led:Bool}{ns:List Int}
theorem upd_loop(W:WalksS prog w A.in1 I fp wr G n P St)(S:Addr)(hSf:S∉fp)(hval:∀ i v,P i v -> ∃ k t,v=.int k t/\k∈ns)(hb:n<=76) :
 ∀(k i:Nat) (s:Shared),n - i=k->i<=n->St i s->SX prog w led s.heap S ns i->(∀ s',Moved (S::wr) G s s'->SX prog w led s'.heap S ns n->R (.ok (.ret .none)) s') ->
   codeAny (model prog w) A (.builtin "set.update.loop" ⟨[.ref S,.ref I],[]⟩) R s:=by
 have out:S∉wr:=fun z=>hSf (W.sub _ z);have more:∀ b∈wr,b∈S::wr:=fun b z=>List.mem_cons_of_mem _ z;intro k
 induction k with
 | zero=>
   intro i s hk hi st x hR;obtain rfl:i=n:=by omega
   refine codeAny_builtin F.entry_set_update_loop ?_;rw[Around.under_plainId F.plain_set_update_loop _];show wpAny _ A.in1 (pyNext (.ref I) >>= _) _ _ s;exact wpAny_bind (W.done s _ _ st fun s' hm=>wpAny_pure (hR s' (hm.mono more) (x.keep fun o e=>hm.heap S o out e)))
 | succ k ih=>
   intro i s hk hi st x hR;have lt:i < n:=by omega
   refine codeAny_builtin F.entry_set_update_loop ?_;rw[Around.under_plainId F.plain_set_update_loop _];show wpAny _ A.in1 (pyNext (.ref I) >>= _) _ _ s;refine wpAny_bind (W.item i s _ _ lt st fun v s' hP st' hm=>?_);obtain⟨z,t,rfl,hz⟩:=hval i v hP;have x':SX prog w led s'.heap S ns i:=x.keep fun o e=>hm.heap S o out e;show wpAny _ A.in1 (holding [Value.int z t] (setAdd S (.int z t)) >>= _) _ _ s';refine wpAny_bind (wpAny_holding ?_);unfold setAdd;refine wpAny_holding (wpAny_bind ((intKind prog w).pyHash (k:=z) (intKind_is _ _ _ _) ?_));refine sx_add (s:={ s' with toks:=s'.toks+1 }) x' hz (by omega) fun h' sb x2 b=>?_
   refine wpAny_pure ⟨plainId_quiet F.plain_set_update_loop _,ih (i+1) _ (by omega) lt (W.frame _ s' _ _ st' (Nat.le_succ _) fun b hb o e=>?_) x2 fun s'' hm'' x3=>?_⟩
   · rw[sb.2 b fun z:b=S=>hSf (z ▸ hb)];exact e
   refine hR s'' (Moved.trans W.gtrans ((hm.mono more).then_heap (Nat.le_succ _) fun b o hb e=>?_) hm'') x3;rw[sb.2 b fun z:b=S=>hb (by rw[z];exact List.mem_cons_self)];exact e
end
section
variable{prog:Program}{w:World}{A:Around}{E:Value->Shared->Prop}{s:Shared}
noncomputable abbrev ledOf(w:World):Bool:=!w.params.followText "set-order"
noncomputable abbrev newS(w:World):Obj:={ cls:=.type "set",dict:=none,data:=.set #[] 0 (.fresh 0 0 (ledOf w)) }
theorem new_code(v:Value){Q1:Value->Shared->Prop}(h:Q1 (.ref s.heap.objs.size) { s with heap:=s.heap.push (newS w) }) :
 codeAny (model prog w) A (.call (.builtin "set.__new__") ⟨[.type "set",v],[]⟩) (wants Q1 E) s:=by
 refine codeAny_of_tree ?_;show wpAny _ A.in1 (do checkBuiltinCall "set.__new__" ⟨[.type "set",v],[]⟩;again (.builtin "set.__new__" ⟨[.type "set",v],[]⟩)) _ _ s;refine wpAny_bind (wpAny_of_eq (F.newCall_set_1 v) (wpAny_pure ⟨plainId_quiet F.plain_set_new _,codeAny_builtin F.entry_set_new ?_⟩));rw[Around.under_plainId F.plain_set_new _];unfold Builtin.«set.__new__» Builtin.Frozenset.newClass;have hsub:=sub_set_self;obtain⟨hp,g,d,tk,os⟩:=s
 dsimp only
 wp_walk
 refine wpAny_askSetting (wpAny_pure ?_)
 dsimp only
 simp only[newObj];refine wpAny_bind (wpAny_alloc (wpAny_pure ?_));exact wpAny_pure h
theorem sx_new(ns:List Int):SXo prog w (ledOf w) (newS w) #[] 0 (.fresh 0 0 (ledOf w)) ns 0:=
 ⟨⟨rfl,rfl,rfl⟩,rfl,(fun e he=>by simp at he),tg_fresh _,by simp,(fun k hk=>by simp at hk),Nat.le_refl 0⟩
theorem set_listX{l:Addr}{items:Array Value}{ns:List Int}{Q:Value->Shared->Prop}(hh:A.handled=none)(hl:s.heap.IsList l items)(hi:IntsAre items.toList ns)(hb:items.size<=76)
 (h:∀(h':Heap) (tk:Nat),SX prog w (ledOf w) h' s.heap.objs.size ns items.size->(∀ b o,b < s.heap.objs.size->s.heap.get? b=some o->h'.get? b=some o)->Q (.ref s.heap.objs.size) { s with heap:=h',toks:=tk }) :
 wpAny (model prog w) A (call (.type "set") [.ref l]) Q E s:=by
 obtain⟨c,tl,hmro⟩:=F.called_set.mro;have hmade:=F.called_set.made;have hsub:=F.called_set.sub;refine wpAny_call (codeAny_of_tree ?_);show wpAny _ _ (callAny (.type "set") _) _ _ _;refine wpAny_pure ⟨Code.quiet_builtin _ (by decide +kernel),codeAny_builtin F.entry_type_call ?_⟩
 rw[Around.under_plain (weight_type_call_type "set" [.ref l] []) rfl];have h1:=F.called_set.notType;have h2:=F.called_set.canCreate;have hct:=F.typeCall_set_1 (.ref l)
 repeat (any_goals (first | assumption | wp_step))
 refine codeAny_mono (new_code (.ref l) (E:=E) (Q1:=fun v s1=>v=.ref s.heap.objs.size/\s1={ s with heap:=s.heap.push (newS w) }) ⟨rfl,rfl⟩) fun r s1 hr=>?_;cases r with
 | error e=>exact hr
 | ok fl=>
   cases fl with
   | ret v=>
     obtain⟨rfl,rfl⟩:=hr;have gS:(s.heap.push (newS w)).get? s.heap.objs.size=some (newS w):=Heap.get?_push_size _ rfl;have hT:Shared.TypeIs { s with heap:=s.heap.push (newS w) } (.ref s.heap.objs.size) "set":=⟨_,gS,rfl⟩;have hli:=F.called_set.init.lookup;have hbi:=F.called_set.init.bind (.ref s.heap.objs.size)
     repeat (any_goals (first | assumption | wp_step))
     refine codeAny_mono (codeAny_call_builtin (R:=wants (fun r s2=>r=.none /\ ∃ h' tk,s2={ s with heap:=h',toks:=tk } /\ SX prog w (ledOf w) h' s.heap.objs.size ns items.size/\(∀ b o,b < s.heap.objs.size->s.heap.get? b=some o->h'.get? b=some o)) E) F.called_set.init.plain F.entry_set_init (check_set_init_1 hT ?_)) fun r2 s2 hr2=>?_
     · obtain⟨ol,gl,hcl,nl,hdl⟩:=hl
       obtain⟨oc,od,odt,osl⟩:=ol;simp only at hcl hdl;subst hcl;subst hdl;have gl':(s.heap.push (newS w)).get? l=some { cls:=.type "list",dict:=od,data:=.seq items nl,slots:=osl }:=Heap.get?_push_of_some _ gl;have b1:=F.sub_list_set;have b2:=F.sub_list_frozenset;have b3:(Value.type "list" == Value.type "dict")=false:=by decide
       have il:(s.heap.push (newS w)).IsList l items:=⟨_,gl',rfl,nl,rfl⟩;unfold Builtin.«set.__init__» noKeywords Builtin.Frozenset.updateFrom;generalize hPI:pyIter=PI
       wp_walk
       subst hPI;refine wpAny_pyIter_list il (wpAny_bind (wpAny_runValue ?_));have ll:l < s.heap.objs.size:=Heap.lt_size gl;have sz1:(s.heap.push (newS w)).objs.size=s.heap.objs.size+1:=Heap.size_push _ _;refine upd_loop (led:=ledOf w) (ns:=ns) ((Walks.list (A:=A.in1.in1.in1) (by simp[hh]) _ l (by rw[sz1];exact Nat.ne_of_lt (Nat.lt_succ_of_lt ll)) items).toS) s.heap.objs.size (by rw[sz1];simp only[List.mem_cons,List.not_mem_nil,or_false,not_or];exact⟨Nat.ne_of_lt (Nat.lt_succ_self _),Nat.ne_of_gt ll⟩) (fun i v hv=>?_) hb (items.size - 0) 0 _ (by omega) (Nat.zero_le _) ⟨⟨_,Heap.get?_push_size _ rfl,rfl,rfl⟩,il.push _⟩ ⟨_,_,_,_,Heap.get?_push_of_some _ gS,sx_new ns⟩ fun s' hm x=>?_
       · obtain⟨z,t,rfl⟩:=hi.all v (by rw[← Array.getElem?_toList]at hv;exact List.mem_of_getElem? hv)
         obtain⟨t2,e⟩:=IntsAre.int_at hi i _ (by rw[Array.getElem?_toList];exact hv)
         cases e;refine⟨_,t,rfl,?_⟩;have hlen:=hi.length;have hi2:i < ns.length:=by
          have:=(Array.getElem?_eq_some_iff.mp hv).1;rw[← hlen,Array.length_toList];exact this
         rw[List.getD_eq_getElem?_getD,List.getElem?_eq_getElem hi2];exact List.getElem_mem hi2
       obtain⟨h',g',d',tk',os'⟩:=s';have eg:g'=s.gens:=hm.gens;have ed:d'=s.drawn:=hm.drawn;have eo:os'=s.os:=hm.os;subst eg;subst ed;subst eo;show wpAny _ _ _ _ _ _;refine wpAny_pure (wpAny_pure ⟨rfl,h',tk',rfl,x,fun b o lb e=>?_⟩);exact hm.heap b o (by rw[sz1];simp only[List.mem_cons,List.not_mem_nil,or_false,not_or];exact⟨Nat.ne_of_lt lb,Nat.ne_of_lt (Nat.lt_succ_of_lt lb)⟩) (Heap.get?_push_of_some _ (Heap.get?_push_of_some _ e))
     cases r2 with
     | error e=>exact hr2
     | ok f2=>
       cases f2 with
       | ret r=>
         obtain⟨rfl,h',tk,rfl,x,kp⟩:=hr2
         repeat (any_goals (first | assumption | wp_step))
         exact h _ _ x kp
       | _=>exact hr2
   | _=>exact hr
end
theorem slot_si_next:Slot "set_iterator" "__next__" "set_iterator.__next__":=
 .of (owner:="set_iterator") (n:="__next__") (by rw[typeLookup_type,builtinLookup_eq_fast];kernel_rfl) (by decide +kernel) (by decide +kernel) (by decide +kernel) (by first | exact .inl (by decide +kernel) | exact .inr (by decide +kernel)) (by rw[isSubtype_type];kernel_rfl)
theorem slot_si_iter:Slot "set_iterator" "__iter__" "set_iterator.__iter__":=
 .of (owner:="set_iterator") (n:="__iter__") (by rw[typeLookup_type,builtinLookup_eq_fast];kernel_rfl) (by decide +kernel) (by decide +kernel) (by decide +kernel) (by first | exact .inl (by decide +kernel) | exact .inr (by decide +kernel)) (by rw[isSubtype_type];kernel_rfl)
theorem entry_si_next:entryFor table "set_iterator.__next__"=some Builtin.«set_iterator.__next__»:=entryFor_of_tree (by kernel_rfl)
theorem entry_si_iter:entryFor table "set_iterator.__iter__"=some Builtin.«dict_keyiterator.__iter__»:=entryFor_alias (id':="dict_keyiterator.__iter__") (by kernel_rfl) rfl (by decide +kernel) (by kernel_rfl)
theorem entry_s_iter:entryFor table "set.__iter__"=some Builtin.«frozenset.__iter__»:=entryFor_alias (id':="frozenset.__iter__") (by kernel_rfl) rfl (by decide +kernel) (by kernel_rfl)
theorem args_si_next(a:Value):argsOk "set_iterator.__next__" ⟨[a],[]⟩:=by unfold argsOk;kernel_rfl
theorem args_si_iter(a:Value):argsOk "set_iterator.__iter__" ⟨[a],[]⟩:=by unfold argsOk;kernel_rfl
theorem erase_perm{α:Type}:∀{l:List α}{n:Nat} (h:n < l.length),(l[n]::l.eraseIdx n).Perm l
 | a::l,0,_=>List.Perm.refl _
 | a::l,n+1,h=>(List.Perm.swap _ _ _).trans ((erase_perm (l:=l) (n:=n) (by simpa using h)).cons a)
theorem pick_go{α:Type}(nx:Nat->Nat):∀(fuel k:Nat) (left:List α) (out:Array α),left.length=fuel->(pickOrder.go nx fuel k left out).toList.Perm (out.toList++left)
 | 0,k,left,out,h=>by
   have e:left=[]:=List.length_eq_zero_iff.mp h;subst e;show out.toList.Perm _;rw[List.append_nil]
 | fuel+1,k,left,out,h=>by
   have lt:nx k % left.length < left.length:=Nat.mod_lt _ (by omega)
   unfold pickOrder.go;rw[List.getElem?_eq_getElem lt]
   dsimp only
   refine(pick_go nx fuel (k+1) _ _ (by rw[List.length_eraseIdx_of_lt lt];omega)).trans ?_
   rw[Array.toList_push,List.append_assoc];exact List.Perm.append_left _ (erase_perm lt)
theorem pick_perm{α:Type}(nx:Nat->Nat)(xs:Array α):(pickOrder nx xs).toList.Perm xs.toList:=by
 have:=pick_go nx xs.size 0 xs.toList #[] (Array.length_toList ..);unfold pickOrder
 simpa using this
noncomputable abbrev byTx(w:World):Bool:=w.params.followText "set-order"
noncomputable def ordA(w:World)(a:Addr)(ep:Nat)(es:Array (Int×Value)):Array (Int×Value):=if byTx w=true then pickOrder (w.params.setOrder a ep) es else es
theorem ordA_perm(w:World)(a:Addr)(ep:Nat)(es:Array (Int×Value)):(ordA w a ep es).toList.Perm es.toList:=by
 unfold ordA;split
 · exact pick_perm _ _
 exact List.Perm.refl _
theorem ordA_size(w:World)(a:Addr)(ep:Nat)(es:Array (Int×Value)):(ordA w a ep es).size=es.size:=by
 rw[← Array.length_toList,(ordA_perm w a ep es).length_eq,Array.length_toList]
noncomputable def slotAt(w:World)(t:SetTable)(i:Nat):Nat:=if byTx w=true then 0 else match i with
 | 0=>0
 | k+1=>t.place.getD k 0+1
section
variable{prog:Program}{w:World}{A:Around}{E:Value->Shared->Prop}{s:Shared}{a:Addr}{o:Obj}{es:Array (Int×Value)}{ep:Nat}{t:SetTable}
theorem byText_wp{Q:Bool->Shared->Prop}(h:Q (byTx w) s):wpAny (model prog w) A setsByText Q E s:=by
 unfold setsByText;exact wpAny_bind (wpAny_askSetting (wpAny_pure h))
theorem next_wp{i:Nat}{Q:Option (Value×Nat)->Shared->Prop}(ho:s.heap.get? a=some o)(hd:o.data=.set es ep t)(T:TG (ledOf w) es t)
 (h:Q ((ordA w a ep es)[i]?.map fun e=>(e.2,slotAt w t (i+1))) s) (hi:i<=es.size):wpAny (model prog w) A (setNext a (slotAt w t i) i ep) Q E s:=by
 unfold setNext;refine wpAny_bind (wpAny_setState_of ho hd T.fits ?_)
 dsimp only
 refine wpAny_bind (byText_wp ?_);by_cases c:byTx w=true
 · rw[if_pos c,if_neg (by simp)]
   refine wpAny_bind ?_;unfold setWalk;refine wpAny_bind (wpAny_setState_of ho hd T.fits ?_)
   dsimp only
   refine wpAny_bind (byText_wp ?_);rw[if_pos c];refine wpAny_bind (wpAny_askSetting (wpAny_pure (wpAny_pure ?_)));have e1:ordA w a ep es=pickOrder (w.params.setOrder a ep) es:=by unfold ordA;rw[if_pos c]
   have e2:∀ j,slotAt w t j=0:=fun j=>by unfold slotAt;rw[if_pos c]
   rw[e1,e2]at h;rw[e2];exact h
 rw[if_neg c];have cf:w.params.followText "set-order"=false:=by simpa using c
 show wpAny _ _ (if(!t.plain && decide (es.size > 1))=true then _ else _) _ _ _;rw[T.pl,if_neg (by simp)]
 show wpAny _ _ ((if(!t.led && !es.isEmpty)=true then unsupported _ else pure ()) >>= _) _ _ _;rw[T.ld,show ledOf w=true by unfold ledOf;rw[cf];rfl,if_neg (by simp)]
 refine wpAny_bind (wpAny_pure ?_);have e1:ordA w a ep es=es:=by unfold ordA;rw[if_neg c]
 have eb:SetTable.below t.place (slotAt w t i)=i:=by
  unfold slotAt;rw[if_neg c];cases i with
  | zero=>exact below_zero T.rs
  | succ k=>
    have hk:k < t.place.size:=by rw[T.sz];omega
    have ek:=Array.getElem?_eq_getElem hk;show SetTable.below t.place (t.place.getD k 0+1)=k+1;rw[Array.getD_eq_getD_getElem?,ek];exact below_next T.rs ek
 rw[eb];rw[e1]at h;refine wpAny_pure ?_;by_cases hlt:i < es.size
 · have hp:i < t.place.size:=by rw[T.sz];exact hlt
   have e2:=Array.getElem?_eq_getElem hlt;have e3:=Array.getElem?_eq_getElem hp;have e4:slotAt w t (i+1)=t.place[i]+1:=by
    unfold slotAt;rw[if_neg c];show t.place.getD i 0+1=_;rw[Array.getD_eq_getD_getElem?,e3]
    rfl
   rw[e2,e4]at h;rw[e2,e3];exact h
 have e2:es[i]?=none:=Array.getElem?_eq_none (by omega)
 rw[e2]at h ⊢;exact h
end
noncomputable def IsSI(h:Heap)(it a:Addr)(slot i n ep:Nat):Prop:=∃ ob,h.get? it=some ob/\ob.cls=.type "set_iterator" /\ ob.data=.fields #[.int slot 0,.int i 0,.ref a,.int n 0,.int ep 0]
section
variable{prog:Program}{w:World}{A:Around}{E:Value->Shared->Prop}{s:Shared}{a it:Addr}{o:Obj}{es:Array (Int×Value)}{ep i:Nat}{t:SetTable}
theorem IsSI.typeIs{slot n:Nat}(x:IsSI s.heap it a slot i n ep):s.TypeIs (.ref it) "set_iterator":=let⟨ob,h,c,_⟩:=x;⟨ob,h,c⟩
theorem si_item{v:Value}{Q:Option Value->Shared->Prop}(x:IsSI s.heap it a (slotAt w t i) i es.size ep)(ho:s.heap.get? a=some o)(hd:o.data=.set es ep t)(T:TG (ledOf w) es t)(hv:((ordA w a ep es)[i]?.map (·.2))=some v)(hi:i<=es.size)
 (hQ:∀ h',IsSI h' it a (slotAt w t (i+1)) (i+1) es.size ep->Heap.SameBut it s.heap h'->Q (some v) { s with heap:=h' }):wpAny (model prog w) A (pyNext (.ref it)) Q E s:=by
 obtain⟨ob,hob,hc,hdt⟩:=id x;unfold pyNext;refine wpAny_bind (wpAny_attempt (wpAny_callSpecial?_slot (name:=Str.ofString "__next__") x.typeIs slot_si_next (wpAny_call_entry slot_si_next x.typeIs entry_si_next ?_ (args_si_next _))));unfold Builtin.«set_iterator.__next__»;refine wpAny_bind (wpAny_pure ?_);refine wpAny_bind (wpAny_fieldsOf hob hdt ?_)
 dsimp only
 unfold setEntries;refine wpAny_bind (wpAny_bind (wpAny_setState_of ho hd T.fits (wpAny_pure ?_)))
 dsimp only
 rw[if_neg (by simp)]
 refine wpAny_bind ?_;rw[Int.toNat_natCast,Int.toNat_natCast,Int.toNat_natCast];obtain⟨e,he,rfl⟩:=Option.map_eq_some_iff.mp hv;refine next_wp ho hd T ?_ hi;rw[he]
 dsimp only[Option.map_some]
 refine wpAny_bind (wpAny_setField hob hdt (by simp) ?_)
 have g1:=Heap.get?_update_self (Obj.mapFields (·.setIfInBounds 0 (rawInt (slotAt w t (i+1):Nat)))) hob (Obj.isFreed_of_fields (Obj.data_mapFields hdt _));have d1:(Obj.mapFields (·.setIfInBounds 0 (rawInt (slotAt w t (i+1):Nat))) ob).data=.fields #[.int (slotAt w t (i+1)) 0,.int i 0,.ref a,.int es.size 0,.int ep 0]:=by rw[Obj.data_mapFields hdt];simp[rawInt]
 refine wpAny_bind (wpAny_setField (s:={ s with heap:=s.heap.update it (Obj.mapFields (·.setIfInBounds 0 (rawInt (slotAt w t (i+1):Nat)))) }) g1 d1 (by simp) ?_)
 refine wpAny_pure ⟨_,rfl,wpAny_pure (hQ _ ⟨_,Heap.get?_update_self _ g1 (Obj.isFreed_of_fields (Obj.data_mapFields d1 _)),?_,?_⟩ ((Heap.SameBut.update ..).trans (Heap.SameBut.update ..)))⟩
 · exact(Obj.cls_mapFields ..).trans ((Obj.cls_mapFields ..).trans hc)
 rw[Obj.data_mapFields d1];simp[rawInt]
theorem si_end{Q:Option Value->Shared->Prop}(hh:A.handled=none)(x:IsSI s.heap it a (slotAt w t es.size) es.size es.size ep)(ho:s.heap.get? a=some o)(hd:o.data=.set es ep t)(T:TG (ledOf w) es t)
 (hQ:∀ h',Heap.ExtBut it s.heap h'->Q none { s with heap:=h' }):wpAny (model prog w) A (pyNext (.ref it)) Q E s:=by
 obtain⟨ob,hob,hc,hdt⟩:=id x;unfold pyNext;refine wpAny_bind (wpAny_attempt (wpAny_callSpecial?_slot (name:=Str.ofString "__next__") x.typeIs slot_si_next (wpAny_call_entry slot_si_next x.typeIs entry_si_next ?_ (args_si_next _))));unfold Builtin.«set_iterator.__next__»;refine wpAny_bind (wpAny_pure ?_);refine wpAny_bind (wpAny_fieldsOf hob hdt ?_)
 dsimp only
 unfold setEntries;refine wpAny_bind (wpAny_bind (wpAny_setState_of ho hd T.fits (wpAny_pure ?_)))
 dsimp only
 rw[if_neg (by simp)]
 refine wpAny_bind ?_;rw[Int.toNat_natCast,Int.toNat_natCast,Int.toNat_natCast];refine next_wp ho hd T ?_ (Nat.le_refl _);rw[show(ordA w a ep es)[es.size]?=none from Array.getElem?_eq_none (by rw[ordA_size];exact Nat.le_refl _)]
 dsimp only[Option.map_none]
 refine wpAny_bind (wpAny_setField hob hdt (by simp) ?_)
 show wpAny _ _ (newExc (.type "StopIteration") [] >>= _) _ _ _;refine wpAny_bind ?_;simp only[newExc,newTuple];refine wpAny_bind (wpAny_newObj_type ?_ (by size_fits))
 refine wpAny_bind (m:=firstArgMember _ _) (wpAny_of_eq (a:=Value.none) (by first | rfl | (simp only[firstArgMember];rfl)) ?_)
 refine wpAny_newObj_type ?_ (by size_fits)
 simp only[raiseNew];refine wpAny_bind (wpAny_handled ?_);rw[show A.in1.handled=none from hh];refine wpAny_bind (wpAny_pure (wpAny_throw ?_));refine wpAny_bind (wpAny_isInstance (T:="StopIteration") (b:=true) ⟨_,Heap.get?_push_size _ rfl,rfl⟩ isSubtype_stop ?_);exact wpAny_pure (hQ _ (((Heap.SameBut.update ..).extBut.push _).push _))
theorem si_self{slot n:Nat}{Q:Value->Shared->Prop}(x:IsSI s.heap it a slot i n ep)(h:Q (.ref it) s):wpAny (model prog w) A (pyIter (.ref it)) Q E s:=by
 refine wpAny_pyIter_slot x.typeIs slot_si_iter (wpAny_call_entry slot_si_iter x.typeIs entry_si_iter ?_ (args_si_iter _));show wpAny _ _ (ret (.ref it)) _ _ s;exact wpAny_pure ⟨_,rfl,"set_iterator",_,x.typeIs,slot_si_next.lookup,h⟩
theorem set_iter{Q:Value->Shared->Prop}(ho:s.heap.get? a=some o)(hx:o.ExactSet)(hd:o.data=.set es ep t)(T:TG (ledOf w) es t)
 (hQ:Q (.ref s.heap.objs.size) { s with heap:=s.heap.push { cls:=.type "set_iterator",data:=.fields #[.int 0 0,.int 0 0,.ref a,.int es.size 0,.int ep 0] } }):wpAny (model prog w) A (pyIter (.ref a)) Q E s:=by
 have hT:s.TypeIs (.ref a) "set":=⟨o,ho,hx.1⟩;refine wpAny_pyIter_slot hT F.slot_set_iter (wpAny_call_entry F.slot_set_iter hT entry_s_iter ?_ (F.args_set_iter_1 _));unfold Builtin.«frozenset.__iter__»;refine wpAny_bind (wpAny_pure ?_);unfold Builtin.Frozenset.sizeOf setEntries;refine wpAny_bind (wpAny_bind (wpAny_bind (wpAny_setState_of ho hd T.fits (wpAny_pure (wpAny_pure ?_)))));unfold setDrawn;refine wpAny_bind (wpAny_bind (wpAny_setState_of ho hd T.fits (wpAny_bind (byText_wp (wpAny_pure ?_)))));have nd:(!byTx w && (!t.plain && decide (es.size > 1)))=false:=by rw[T.pl];simp
 show wpAny _ _ (if(!byTx w && (!t.plain && decide (es.size > 1)))=true then _ else _) _ _ _;rw[nd,if_neg (by simp)]
 refine wpAny_bind (wpAny_pure ?_)
 dsimp only
 refine wpAny_bind (wpAny_setEpoch_of ho hd T.fits ?_);unfold newFields;refine wpAny_bind (wpAny_newObj_type ?_);exact wpAny_pure ⟨_,rfl,"set_iterator",_,⟨_,Heap.get?_push_size _ rfl,rfl⟩,slot_si_next.lookup,hQ⟩
theorem set_hint{Q:Bool->Shared->Prop}(hT:s.TypeIs (.ref a) "set")(h:Q false s):wpAny (model prog w) A (Builtin.List.listLengthHint (.ref a)) Q E s:=by
 unfold Builtin.List.listLengthHint;refine wpAny_bind (wpAny_specialOf hT PySem.F.slot_set_len.lookup ?_);generalize hid:("set.__len__":String)=id0
 wp_delta
 rw[show splitId id0=some ("set","__len__")from by subst hid;decide +kernel]
 subst hid;refine wpAny_bind (wpAny_isInstance (T:="set") (b:=true) hT (by rw[isSubtype_type];kernel_rfl) ?_)
 refine wpAny_ite_split (fun hab=>absurd hab (by decide)) (fun _=>?_)
 refine wpAny_ite_split (fun _=>?_) (fun hab=>absurd (by decide +kernel) hab)
 exact wpAny_bind (wpAny_typeOf hT (wpAny_pure h))
end
theorem walks_set{prog:Program}{w:World}{A:Around}{a:Addr}{o:Obj}{es:Array (Int×Value)}{ep:Nat}{t:SetTable}(hh:A.handled=none)(I:Addr)(hne:a≠I)(hd:o.data=.set es ep t)(T:TG (ledOf w) es t) :
 Walks prog w A I [I,a] [I] es.size (fun i v=>((ordA w a ep es)[i]?.map (·.2))=some v) (fun i h=>(i<=es.size/\IsSI h I a (slotAt w t i) i es.size ep)/\h.get? a=some o) where
 sub:=fun b hb=>by simp at hb;simp[hb]
 frame:=fun _ _ _ st hk=>⟨⟨st.1.1,let⟨ob,e,r⟩:=st.1.2;⟨ob,hk I (by simp) ob e,r⟩⟩,hk a (by simp) o st.2⟩
 item:=fun i s Q E hi st hQ=>by
  have hi':i < (ordA w a ep es).size:=by rw[ordA_size];exact hi
  have e:=Array.getElem?_eq_getElem hi';refine si_item (v:=(ordA w a ep es)[i].2) st.1.2 st.2 hd T (by rw[e];rfl) (Nat.le_of_lt hi) fun h' x' sb=>?_
  exact hQ _ h' s.toks (by rw[e];rfl) ⟨⟨hi,x'⟩,by rw[sb.2 a hne];exact st.2⟩ fun b ob hb e=>sb.extBut b ob (fun z=>hb (by simp[z])) e
 done:=fun s Q E st hQ=>si_end hh st.1.2 st.2 hd T fun h' he=>hQ h' s.toks fun b ob hb e=>he b ob (fun z=>hb (by simp[z])) e
 self:=fun _ _ _ _ st hQ=>si_self st.1.2 hQ
theorem src_set{prog:Program}{w:World}{a:Addr}{o:Obj}{es:Array (Int×Value)}{ep:Nat}{t:SetTable}(hx:o.ExactSet)(hd:o.data=.set es ep t)(T:TG (ledOf w) es t) :
 W.KdlSrc prog w "set" a a es.size (fun i v=>((ordA w a ep es)[i]?.map (·.2))=some v) (fun h=>h.get? a=some o) where
 type:=fun _ h=>⟨o,h,hx.1⟩
 there:=fun _ h=>⟨Heap.lt_size h,Heap.lt_size h⟩
 keep:=fun _ _ h k=>k a (.inl rfl) o h
 notList:=by decide
 notTuple:=by decide
 hint:=fun _ _ s _ h q=>set_hint (s:=s) ⟨o,h,hx.1⟩ q
 iter:=fun A s hh h=>⟨_,_,(fun E Q q=>set_iter h hx hd T q),walks_set (A:=A) hh s.heap.objs.size (Nat.ne_of_lt (Heap.lt_size h)) hd T,⟨⟨Nat.zero_le _,_,Heap.get?_push_size _ rfl,rfl,by
  have:slotAt w t 0=0:=by unfold slotAt;split <;> rfl
  rw[this];rfl⟩,Heap.get?_push_of_some _ h⟩⟩
noncomputable def setO(prog:Program)(w:World)(a:Addr)(ns:List Int):HO:=.ext fun h=>SX prog w (ledOf w) h a ns ns.length
section
variable{X:Cx}
theorem call_setX:CallR X (.type "set") (fun xs H Q=>∃ l ns,xs=[.ref l]/\SqL X.K H l (List.map V.int ns)/\ns.length<=63/\X.calm=true /\ ∀ a,H a=none->Q (.ref a) (upd H a (setO X.prog X.w a ns))):=by
 intro pins s σ H xs us Q I r h;obtain⟨l,ns,rfl,hl,hn,hc,q⟩:=h;obtain⟨u,rfl,rx⟩:=vals1 r;cases rx;obtain⟨its,rv,pl,_⟩:=I.list hl;have hi:IntsAre its ns:=intsAre_of rv;have le:=rv.length;rw[List.length_map]at le;refine set_listX (items:=its.toArray) (ns:=ns) (I.ok.hd hc) pl.isList hi (by rw[List.size_toArray,← le];omega) fun h' tk x hk=>?_
 have x:SX X.prog X.w (ledOf X.w) h' s.heap.objs.size ns ns.length:=by
  have e:its.toArray.size=ns.length:=by rw[List.size_toArray,le]
  rw[← e];exact x
 refine⟨.ref s.heap.objs.size,_,I.laid (t':=tk) (fun b u g=>hk b u (Heap.lt_size g) g) (Nat.le_refl _) (show ObjOk X.prog X.w _ h' _ (setO X.prog X.w _ ns)from⟨x,?_,fun _ _ x k=>x.keep fun o e=>k o e⟩),rfl,q _ (I.hok.fresh (Nat.le_refl _))⟩;obtain⟨o,_,_,_,e,_⟩:=x;exact⟨o,e⟩
theorem call_sortedX:CallR X (.builtin "sorted") (fun xs H Q=>∃(a:Addr) (ns:List Int),xs=[.ref a]/\H a=some (setO X.prog X.w a ns)/\ns.length<=63/\X.calm=true /\ ∀(p:Addr) (ks:List Int),H p=none->ks.Nodup->(∀ k∈ks,k∈ns)->ks.length<=ns.length->Q (.ref p) (upd H p (.lst (ks.map V.int)))):=by
 intro pins s σ H xs us Q I rr h;obtain⟨a,ns,rfl,ha,hn,hc,q⟩:=h;obtain⟨u,rfl,rx⟩:=vals1 rr;cases rx;obtain⟨⟨o,es,ep,t,ho,S⟩,_,_⟩:=(show ObjOk X.prog X.w H s.heap a (setO X.prog X.w a ns)from I.hok a _ ha);have pm:=(ordA_perm X.w a ep es).map fun e:Int×Value=>nmV e.2;refine sorted_src (ns:=(ordA X.w a ep es).toList.map fun e=>nmV e.2) (src_set S.ex S.dt S.T) (I.ok.hd hc) ho (Nat.lt_of_le_of_lt S.le (by omega)) (fun acc hacc=>?_) fun h' tk b out ns' e hk hb ho a1 a2 a3=>?_
 · refine ints_at _ _ (by rw[Array.length_toList,hacc.1,List.length_map,Array.length_toList,ordA_size]) fun i v e=>?_
   have hv:=hacc.2 i v (by rw[← Array.getElem?_toList];exact e)
   obtain⟨el,he,rfl⟩:=Option.map_eq_some_iff.mp hv;have hm:el∈es.toList:=(ordA_perm X.w a ep es).mem_iff.mp (by rw[← Array.getElem?_toList]at he;exact List.mem_of_getElem? he)
   obtain⟨⟨k',hk',_⟩,_⟩:=S.el el hm;obtain⟨u,eu⟩:=Value.isInt_shape hk';refine⟨k',u,?_,eu⟩;rw[List.getElem?_map,Array.getElem?_toList,he];show some (nmV el.2)=_;rw[eu];rfl
 have rv:=vals_ints a1;have pa:=a2.trans pm;have hlen:ns'.length<=ns.length:=by
  rw[pa.length_eq,List.length_map,Array.length_toList];exact S.le
 refine⟨.ref b,_,I.laid (t':=tk) (o:=.lst (ns'.map V.int)) hk hb ⟨by rw[List.length_map];exact Nat.le_trans hlen (Nat.le_trans hn (by decide)),out.toList,e,rv,by rw[Array.toArray_toList];exact ho⟩,rfl,q b ns' (I.hok.fresh hb) (pa.nodup_iff.mpr S.nd) (fun k hk=>S.sub k (pa.mem_iff.mp hk)) hlen⟩
end
end SW
namespace K
open PySem PySem.Spec PyProof.Rows L2 SW
end K
namespace SW
open PySem PySem.Spec PyProof.Rows L2
theorem wVarA{σ:L2.St}{H:Hp}{Q:VK}{v:V}{i:Nat}(h:Q v H)(e:σ[i]?=some (some v):=by with_unfolding_all exact rfl):tVar i σ H Q:=⟨v,e,h⟩
theorem wModA{H:Hp}{Q:VK}{g:Int->Int->V}{i j:Int}(h:Q (g i j) H)(c:0 < j:=by with_unfolding_all omega):rI (fun _ j=>0 < j) g (.int i) (.int j) H Q:=wMod c h
theorem wDivLA{H:Hp}{Q:VK}{g:Int->Int->V}{i j:Int}(h:Q (g i j) H)(c:0 < j/\j < 18446744073709551616:=by with_unfolding_all omega):rI CDivL g (.int i) (.int j) H Q:=wDivL c h
theorem wMulA{H:Hp}{Q:VK}{g:Int->Int->V}{i j:Int}(h:Q (g i j) H)(c:(-18446744073709551616 < i/\i < 18446744073709551616)∨(-18446744073709551616 < j/\j < 18446744073709551616):=by with_unfolding_all omega):rI CMul g (.int i) (.int j) H Q:=wMul c h
theorem wShrA{H:Hp}{Q:VK}{g:Int->Int->V}{i j:Int}(h:Q (g i j) H)(c:0<=j:=by with_unfolding_all omega):rI (fun _ j=>0<=j) g (.int i) (.int j) H Q:=wShr c h
theorem wPowA{H:Hp}{Q:VK}{g:Int->Int->V}{i j:Int}(h:Q (g i j) H)(c:0<=j/\j<=1000000/\i.natAbs < 2 ^ 64:=by with_unfolding_all decide):rI CPow g (.int i) (.int j) H Q:=wPow c h
theorem wIxLA{K:W.Frag}{H:Hp}{Q:VK}{v:V}{p:Addr}{xs:List V}{i:Int}(h:Q v H)(e:H p=some (.lst xs):=by first | with_reducible assumption | exact upd_same)(a:atI xs i=some v:=by with_unfolding_all exact rfl):rIxL K (.ref p) (.int i) H Q:=wIxL e a h
theorem wIxTA{K:W.Frag}{H:Hp}{Q:VK}{v:V}{p:Addr}{xs:List V}{i:Int}(h:Q v H)(e:H p=some (.tup xs):=by first | with_reducible assumption | exact upd_same)(a:atI xs i=some v:=by with_unfolding_all exact rfl):rIxT K (.ref p) (.int i) H Q:=wIxT e a h
theorem wSetLA{H:Hp}{v:V}{p:Addr}{xs:List V}{i:Int}{j:Nat}{Q:Hp->Prop}(h:Q (upd H p (.lst (xs.set j v))))(e:H p=some (.lst xs):=by first | with_reducible assumption | exact upd_same)(hj:ixN xs.length i=some j:=by with_unfolding_all exact rfl):rSetL (.ref p) (.int i) v H Q:=wSetL e hj h
theorem wGoA{N N':L2.St->Hp->Prop}{σ:L2.St}{H:Hp}(h:N' σ H)(e:N=N':=by with_reducible assumption):N σ H:=wGo e h
end SW
namespace K
noncomputable section
open PySem PySem.Spec PyProof.Rows L2 SW
local macro_rules | `(tactic| walk_at "W0")=>do
 let h ← `(?_)
 let l ← `(fun _ _=>?_)
 let t ← ("wCons wNil wVarA".splitOn " ").foldrM (fun r t=>do
  let b ← `(tactic| with_reducible refine $(Lean.mkIdent (Lean.Name.mkStr `SW r)) $(if r == "wSeqC" || r == "wCut" then l else h))
  if r == "wIxLA" then `(tactic| first | (with_reducible show rIxL _ (V.ref _) (V.int _) _ _;$b:tactic) | $t:tactic)else if r == "wIxTA" then `(tactic| first | (with_reducible show rIxT _ (V.ref _) (V.int _) _ _;$b:tactic) | $t:tactic)else if r == "wSetLA" then `(tactic| first | (with_reducible show rSetL (V.ref _) (V.int _) _ _ _;$b:tactic) | $t:tactic)else `(tactic| first | $b:tactic | $t:tactic)) (← `(tactic| fail))
 `(tactic| repeat $t:tactic)
local macro_rules | `(tactic| walk_at "W1")=>do
 let h ← `(?_)
 let l ← `(fun _ _=>?_)
 let t ← ("wC wName wGoA".splitOn " ").foldrM (fun r t=>do
  let b ← `(tactic| with_reducible refine $(Lean.mkIdent (Lean.Name.mkStr `SW r)) $(if r == "wSeqC" || r == "wCut" then l else h))
  if r == "wIxLA" then `(tactic| first | (with_reducible show rIxL _ (V.ref _) (V.int _) _ _;$b:tactic) | $t:tactic)else if r == "wIxTA" then `(tactic| first | (with_reducible show rIxT _ (V.ref _) (V.int _) _ _;$b:tactic) | $t:tactic)else if r == "wSetLA" then `(tactic| first | (with_reducible show rSetL (V.ref _) (V.int _) _ _ _;$b:tactic) | $t:tactic)else `(tactic| first | $b:tactic | $t:tactic)) (← `(tactic| fail))
 `(tactic| repeat $t:tactic)
local macro_rules | `(tactic| walk_at "S")=>do
 let h ← `(?_)
 let l ← `(fun _ _=>?_)
 let t ← ("wITup wU wGoA".splitOn " ").foldrM (fun r t=>do
  let b ← `(tactic| with_reducible refine $(Lean.mkIdent (Lean.Name.mkStr `SW r)) $(if r == "wSeqC" || r == "wCut" then l else h))
  if r == "wIxLA" then `(tactic| first | (with_reducible show rIxL _ (V.ref _) (V.int _) _ _;$b:tactic) | $t:tactic)else if r == "wIxTA" then `(tactic| first | (with_reducible show rIxT _ (V.ref _) (V.int _) _ _;$b:tactic) | $t:tactic)else if r == "wSetLA" then `(tactic| first | (with_reducible show rSetL (V.ref _) (V.int _) _ _ _;$b:tactic) | $t:tactic)else `(tactic| first | $b:tactic | $t:tactic)) (← `(tactic| fail))
 return t
local macro_rules | `(tactic| walk_at "S")=>do
 let h ← `(?_)
 let l ← `(fun _ _=>?_)
 let t ← ("wIf wDGet1 wItems wDPut wFAug wSl wNoPart wPart".splitOn " ").foldrM (fun r t=>do
  let b ← `(tactic| with_reducible refine $(Lean.mkIdent (Lean.Name.mkStr `SW r)) $(if r == "wSeqC" || r == "wCut" then l else h))
  if r == "wIxLA" then `(tactic| first | (with_reducible show rIxL _ (V.ref _) (V.int _) _ _;$b:tactic) | $t:tactic)else if r == "wIxTA" then `(tactic| first | (with_reducible show rIxT _ (V.ref _) (V.int _) _ _;$b:tactic) | $t:tactic)else if r == "wSetLA" then `(tactic| first | (with_reducible show rSetL (V.ref _) (V.int _) _ _ _;$b:tactic) | $t:tactic)else `(tactic| first | $b:tactic | $t:tactic)) (← `(tactic| fail))
 return t
local macro_rules | `(tactic| walk_at "S")=>do
 let h ← `(?_)
 let l ← `(fun _ _=>?_)
 let t ← ("wChain wComp wInt1 wUn wFld wSFld wMeth wMake".splitOn " ").foldrM (fun r t=>do
  let b ← `(tactic| with_reducible refine $(Lean.mkIdent (Lean.Name.mkStr `SW r)) $(if r == "wSeqC" || r == "wCut" then l else h))
  if r == "wIxLA" then `(tactic| first | (with_reducible show rIxL _ (V.ref _) (V.int _) _ _;$b:tactic) | $t:tactic)else if r == "wIxTA" then `(tactic| first | (with_reducible show rIxT _ (V.ref _) (V.int _) _ _;$b:tactic) | $t:tactic)else if r == "wSetLA" then `(tactic| first | (with_reducible show rSetL (V.ref _) (V.int _) _ _ _;$b:tactic) | $t:tactic)else `(tactic| first | $b:tactic | $t:tactic)) (← `(tactic| fail))
 return t
local macro_rules | `(tactic| walk_at "S")=>do
 let h ← `(?_)
 let l ← `(fun _ _=>?_)
 let t ← ("wRet wDrop wNext wFor wIList wRng1 wAnd wOr".splitOn " ").foldrM (fun r t=>do
  let b ← `(tactic| with_reducible refine $(Lean.mkIdent (Lean.Name.mkStr `SW r)) $(if r == "wSeqC" || r == "wCut" then l else h))
  if r == "wIxLA" then `(tactic| first | (with_reducible show rIxL _ (V.ref _) (V.int _) _ _;$b:tactic) | $t:tactic)else if r == "wIxTA" then `(tactic| first | (with_reducible show rIxT _ (V.ref _) (V.int _) _ _;$b:tactic) | $t:tactic)else if r == "wSetLA" then `(tactic| first | (with_reducible show rSetL (V.ref _) (V.int _) _ _ _;$b:tactic) | $t:tactic)else `(tactic| first | $b:tactic | $t:tactic)) (← `(tactic| fail))
 return t
local macro_rules | `(tactic| walk_at "S")=>do
 let h ← `(?_)
 let l ← `(fun _ _=>?_)
 let t ← ("wSub wSetLA wNil wCons wLst wTup wCall wCB".splitOn " ").foldrM (fun r t=>do
  let b ← `(tactic| with_reducible refine $(Lean.mkIdent (Lean.Name.mkStr `SW r)) $(if r == "wSeqC" || r == "wCut" then l else h))
  if r == "wIxLA" then `(tactic| first | (with_reducible show rIxL _ (V.ref _) (V.int _) _ _;$b:tactic) | $t:tactic)else if r == "wIxTA" then `(tactic| first | (with_reducible show rIxT _ (V.ref _) (V.int _) _ _;$b:tactic) | $t:tactic)else if r == "wSetLA" then `(tactic| first | (with_reducible show rSetL (V.ref _) (V.int _) _ _ _;$b:tactic) | $t:tactic)else `(tactic| first | $b:tactic | $t:tactic)) (← `(tactic| fail))
 return t
local macro_rules | `(tactic| walk_at "S")=>do
 let h ← `(?_)
 let l ← `(fun _ _=>?_)
 let t ← ("wTest wB wNot wNotV wAndV wBl wIxLA wIxTA".splitOn " ").foldrM (fun r t=>do
  let b ← `(tactic| with_reducible refine $(Lean.mkIdent (Lean.Name.mkStr `SW r)) $(if r == "wSeqC" || r == "wCut" then l else h))
  if r == "wIxLA" then `(tactic| first | (with_reducible show rIxL _ (V.ref _) (V.int _) _ _;$b:tactic) | $t:tactic)else if r == "wIxTA" then `(tactic| first | (with_reducible show rIxT _ (V.ref _) (V.int _) _ _;$b:tactic) | $t:tactic)else if r == "wSetLA" then `(tactic| first | (with_reducible show rSetL (V.ref _) (V.int _) _ _ _;$b:tactic) | $t:tactic)else `(tactic| first | $b:tactic | $t:tactic)) (← `(tactic| fail))
 return t
local macro_rules | `(tactic| walk_at "S")=>do
 let h ← `(?_)
 let l ← `(fun _ _=>?_)
 let t ← ("wModA wDivLA wMulA wShrA wPowA wEqI wNeI wIfS".splitOn " ").foldrM (fun r t=>do
  let b ← `(tactic| with_reducible refine $(Lean.mkIdent (Lean.Name.mkStr `SW r)) $(if r == "wSeqC" || r == "wCut" then l else h))
  if r == "wIxLA" then `(tactic| first | (with_reducible show rIxL _ (V.ref _) (V.int _) _ _;$b:tactic) | $t:tactic)else if r == "wIxTA" then `(tactic| first | (with_reducible show rIxT _ (V.ref _) (V.int _) _ _;$b:tactic) | $t:tactic)else if r == "wSetLA" then `(tactic| first | (with_reducible show rSetL (V.ref _) (V.int _) _ _ _;$b:tactic) | $t:tactic)else `(tactic| first | $b:tactic | $t:tactic)) (← `(tactic| fail))
 return t
local macro_rules | `(tactic| walk_at "S")=>do
 let h ← `(?_)
 let l ← `(fun _ _=>?_)
 let t ← ("wSeqC wCut wAsg wName wOp wC wVarA wI0".splitOn " ").foldrM (fun r t=>do
  let b ← `(tactic| with_reducible refine $(Lean.mkIdent (Lean.Name.mkStr `SW r)) $(if r == "wSeqC" || r == "wCut" then l else h))
  if r == "wIxLA" then `(tactic| first | (with_reducible show rIxL _ (V.ref _) (V.int _) _ _;$b:tactic) | $t:tactic)else if r == "wIxTA" then `(tactic| first | (with_reducible show rIxT _ (V.ref _) (V.int _) _ _;$b:tactic) | $t:tactic)else if r == "wSetLA" then `(tactic| first | (with_reducible show rSetL (V.ref _) (V.int _) _ _ _;$b:tactic) | $t:tactic)else `(tactic| first | $b:tactic | $t:tactic)) (← `(tactic| fail))
 return t
local macro_rules | `(tactic| walk_at "W")=>`(tactic| repeat walk_at "S")
def top(i:Nat):Stmt:=PySem.Challenge.pw_slowshift_k26_steps_of_made_tables.main.body.getD i (.Pass ⟨0,0,0,0⟩)
abbrev z60_:Stmt:=(top 0)
theorem z121_:FnScope ["k"] ["k"] (defScope z60_):=SW.fs
abbrev z50_:Stmt:=(top 4)
theorem z111_:FnScope ["key","mixer"] ["key","mixer"] (defScope z50_):=SW.fs
abbrev z53_:Stmt:=(top 5)
theorem z114_:FnScope ["mark","size"] ["mark","size"] (defScope z53_):=SW.fs
abbrev z55_:Stmt:=(top 6)
theorem z116_:FnScope ["mark","point","bit"] ["mark"] (defScope z55_):=SW.fs
abbrev z59_:Stmt:=(top 7)
theorem z120_:FnScope ["place","size","first"] ["place","size"] (defScope z59_):=SW.fs
abbrev z58_:Stmt:=(top 9)
theorem z119_:FnScope ["table","cursor","shelves","size","place","pairs","greater","part"] ["table","cursor"] (defScope z58_):=SW.fs
abbrev z52_:Stmt:=(top 10)
theorem z113_:FnScope ["cursor","size"] ["cursor","size"] (defScope z52_):=SW.fs
abbrev z51_:Stmt:=(top 11)
theorem z112_:FnScope ["place","size","cursor"] ["place","size","cursor"] (defScope z51_):=SW.fs
abbrev z54_:Stmt:=(top 12)
theorem z115_:FnScope ["place","size"] ["place","size"] (defScope z54_):=SW.fs
abbrev z29_:Stmt:=(top 15)
theorem z90_:FnScope ["thing"] ["thing"] (defScope z29_):=SW.fs
abbrev z28_:Stmt:=(top 16)
theorem z89_:FnScope ["thing"] ["thing"] (defScope z28_):=SW.fs
abbrev z0_:Stmt:=(inClass (top 22) 0)
theorem z61_:FnScope ["self","size","mixer"] ["self","size","mixer"] (defScope z0_):=SW.fs
abbrev z7_:Stmt:=(inClass (top 22) 1)
theorem z68_:FnScope ["self","key","worth","row","before"] ["self","key","worth"] (defScope z7_):=SW.fs
abbrev z2_:Stmt:=(inClass (top 22) 2)
theorem z63_:FnScope ["self","key","worth"] ["self","key"] (defScope z2_):=SW.fs
abbrev z4_:Stmt:=(inClass (top 22) 3)
theorem z65_:FnScope ["self","key"] ["self","key"] (defScope z4_):=SW.fs
abbrev z8_:Stmt:=(inClass (top 22) 4)
theorem z69_:FnScope ["self","place"] ["self","place"] (defScope z8_):=SW.fs
abbrev z3_:Stmt:=(inClass (top 22) 5)
theorem z64_:FnScope ["self","place","told"] ["self","place"] (defScope z3_):=SW.fs
abbrev z10_:Stmt:=(inClass (top 22) 6)
theorem z71_:FnScope ["self"] ["self"] (defScope z10_):=SW.fs
abbrev z5_:Stmt:=(inClass (top 22) 7)
theorem z66_:FnScope ["self"] ["self"] (defScope z5_):=SW.fs
abbrev z6_:Stmt:=(inClass (top 22) 8)
theorem z67_:FnScope ["self","key"] ["self","key"] (defScope z6_):=SW.fs
abbrev z9_:Stmt:=(inClass (top 22) 9)
theorem z70_:FnScope ["self","key"] ["self","key"] (defScope z9_):=SW.fs
abbrev z1_:Stmt:=(inClass (top 22) 10)
theorem z62_:FnScope ["self","place"] ["self","place"] (defScope z1_):=SW.fs
abbrev z11_:Stmt:=(inClass (top 25) 0)
theorem z72_:FnScope ["self","mixer","pace","state","laid"] ["self","mixer","pace","state"] (defScope z11_):=SW.fs
abbrev z20_:Stmt:=(inClass (top 25) 1)
theorem z81_:FnScope ["self","key","worth","told"] ["self","key","worth"] (defScope z20_):=SW.fs
abbrev z13_:Stmt:=(inClass (top 25) 2)
theorem z74_:FnScope ["self","key","told"] ["self","key"] (defScope z13_):=SW.fs
abbrev z17_:Stmt:=(inClass (top 25) 3)
theorem z78_:FnScope ["self","key","told"] ["self","key"] (defScope z17_):=SW.fs
abbrev z25_:Stmt:=(inClass (top 25) 4)
theorem z86_:FnScope ["self","elder"] ["self"] (defScope z25_):=SW.fs
abbrev z18_:Stmt:=(inClass (top 25) 5)
theorem z79_:FnScope ["self"] ["self"] (defScope z18_):=SW.fs
abbrev z26_:Stmt:=(inClass (top 25) 6)
theorem z87_:FnScope ["self"] ["self"] (defScope z26_):=SW.fs
abbrev z23_:Stmt:=(inClass (top 25) 7)
theorem z84_:FnScope ["self"] ["self"] (defScope z23_):=SW.fs
abbrev z22_:Stmt:=(inClass (top 25) 8)
theorem z83_:FnScope ["self"] ["self"] (defScope z22_):=SW.fs
abbrev z16_:Stmt:=(inClass (top 25) 9)
theorem z77_:FnScope ["self","key","due","reached","place","asked_elder"] ["self","key"] (defScope z16_):=SW.fs
abbrev z14_:Stmt:=(inClass (top 25) 10)
theorem z75_:FnScope ["self"] ["self"] (defScope z14_):=SW.fs
abbrev z19_:Stmt:=(inClass (top 25) 11)
theorem z80_:FnScope ["self","place","pairs","key","worth"] ["self","place"] (defScope z19_):=SW.fs
abbrev z15_:Stmt:=(inClass (top 25) 12)
theorem z76_:FnScope ["self"] ["self"] (defScope z15_):=SW.fs
abbrev z24_:Stmt:=(inClass (top 25) 13)
theorem z85_:FnScope ["self","key"] ["self","key"] (defScope z24_):=SW.fs
abbrev z21_:Stmt:=(inClass (top 25) 14)
theorem z82_:FnScope ["self","key"] ["self","key"] (defScope z21_):=SW.fs
abbrev z12_:Stmt:=(inClass (top 25) 15)
theorem z73_:FnScope ["self","size"] ["self"] (defScope z12_):=SW.fs
abbrev z27_:Stmt:=(inClass (top 25) 16)
theorem z88_:FnScope ["self","size"] ["self"] (defScope z27_):=SW.fs
abbrev z57_:Stmt:=(top 26)
theorem z118_:FnScope ["rows","mixer","shelf","row","key","worth"] ["rows","mixer"] (defScope z57_):=SW.fs
abbrev z56_:Stmt:=(top 27)
theorem z117_:FnScope ["shelf"] ["shelf"] (defScope z56_):=SW.fs
abbrev z32_:Stmt:=(top 29)
theorem z93_:FnScope ["script","k"] ["script","k"] (defScope z32_):=SW.fs
abbrev z38_:Stmt:=(top 30)
theorem z99_:FnScope ["cell","k","number"] ["cell","k"] (defScope z38_):=SW.fs
abbrev z42_:Stmt:=(top 31)
theorem z103_:FnScope ["cell"] ["cell"] (defScope z42_):=SW.fs
abbrev z48_:Stmt:=(top 32)
theorem z109_:FnScope ["pot","many","told"] ["pot","many"] (defScope z48_):=SW.fs
abbrev z39_:Stmt:=(top 33)
theorem z100_:FnScope ["pot","some"] ["pot"] (defScope z39_):=SW.fs
abbrev z49_:Stmt:=(top 34)
theorem z110_:FnScope ["pot"] ["pot"] (defScope z49_):=SW.fs
abbrev z37_:Stmt:=(top 35)
theorem z98_:FnScope ["pot","many","start","by"] ["pot","many"] (defScope z37_):=SW.fs
abbrev z31_:Stmt:=(top 36)
theorem z92_:FnScope ["pot","keys","key","way"] ["pot","keys"] (defScope z31_):=SW.fs
abbrev z34_:Stmt:=(top 37)
theorem z95_:FnScope ["pot","most","deeds","keys","turn","many","way","at"] ["pot","most"] (defScope z34_):=SW.fs
abbrev z35_:Stmt:=(top 38)
theorem z96_:FnScope ["table","deed"] ["table","deed"] (defScope z35_):=SW.fs
abbrev z40_:Stmt:=(top 39)
theorem z101_:FnScope ["plain","deed","told"] ["plain","deed"] (defScope z40_):=SW.fs
abbrev z41_:Stmt:=(top 40)
theorem z102_:FnScope ["mark","point","k"] ["mark"] (defScope z41_):=SW.fs
abbrev z36_:Stmt:=(top 41)
theorem z97_:FnScope ["state","cursor","elder","moved","newer","lesser","greater","size","wide","first","pairs","half","begin"] ["state","cursor"] (defScope z36_):=SW.fs
abbrev z33_:Stmt:=(top 42)
theorem z94_:FnScope ["pot","edge","some"] ["pot"] (defScope z33_):=SW.fs
abbrev z45_:Stmt:=(top 43)
theorem z106_:FnScope ["found","due","k"] ["found","due"] (defScope z45_):=SW.fs
abbrev z44_:Stmt:=(top 44)
theorem z105_:FnScope ["size"] ["size"] (defScope z44_):=SW.fs
abbrev z46_:Stmt:=(top 45)
theorem z107_:FnScope ["pot","k","size","way"] ["pot","k"] (defScope z46_):=SW.fs
abbrev z47_:Stmt:=(top 46)
theorem z108_:FnScope ["pot","mixer","k","old","new","elder","newer","moved","key","mark","rows"] ["pot","mixer","k"] (defScope z47_):=SW.fs
abbrev z43_:Stmt:=(top 47)
theorem z104_:FnScope ["table","state","cursor","elder"] ["table","state","cursor"] (defScope z43_):=SW.fs
abbrev z30_:Stmt:=(top 48)
theorem z91_:FnScope ["script","k","cell","pot","mixer","state","table","turn"] ["script"] (defScope z30_):=SW.fs
structure Gs(K:W.Frag)(mg:Str->Option Value)(C CT cS PS:Addr):Prop where
 c_MARK_BITS:∃ t,mg "MARK_BITS"=some (.int 16 t)
 c_MARKS:∃ t,mg "MARKS"=some (.int 65536 t)
 c_SIZES:∃ a,mg "SIZES"=some (.ref a) /\ ∀ H,SqT K H a [.int 4,.int 8,.int 16,.int 32,.int 64,.int 128,.int 256,.int 512,.int 1024,.int 2048,.int 4096]
 c_EMPTY:∃ a b,mg "EMPTY"=some (.ref a)/\(∀ H,SqT K H a [.non,.int 0,.ref b]) /\ ∀ H,RowsT K H b [[],[],[],[]]
 cl_Shelf:Cls K C
 n_Shelf_mixer:NoAttr K C "mixer"
 n_Shelf_rows:NoAttr K C "rows"
 n_Shelf_held:NoAttr K C "held"
 cl_Table:Cls K CT
 n_Table_mixer:NoAttr K CT "mixer"
 n_Table_pace:NoAttr K CT "pace"
 n_Table_elder:NoAttr K CT "elder"
 n_Table_moved:NoAttr K CT "moved"
 n_Table_newer:NoAttr K CT "newer"
 n_Table_touches:NoAttr K CT "touches"
 b_int:mg "int"=none
 b_bool:mg "bool"=none
 b_isinstance:mg "isinstance"=none
 b_range:mg "range"=none
 b_len:mg "len"=none
 b_list:mg "list"=none
 b_tuple:mg "tuple"=none
 b_sum:mg "sum"=none
 b_min:mg "min"=none
 b_max:mg "max"=none
 b_set:mg "set"=none
 b_str:mg "str"=none
 b_enumerate:mg "enumerate"=none
 b_sorted:mg "sorted"=none
 lam:LamK K mg cS PS
theorem hu1_of{A:Around}{k:Nat}(hr:Room k A):A.units < cLine:=Nat.lt_of_le_of_lt (Nat.le_add_right _ 1) (hu_of hr)
section
variable{P:Program}{w:World}{K:W.Frag}{mg:Str->Option Value}{base:Heap}{C CT cS PS:Addr}
theorem q20_(d:Dfn K mg "mark_of" z50_ ["key","mixer"])(g:Gs K mg C CT cS PS):Fn P w K mg base "mark_of" 1 ["key","mixer"] spMark:=by
 refine d.fn z111_ (fun vs H Q E h=>?_) (fun f cdv A outer s H vs Q E hr h=>?_)
 · obtain⟨k,t,f,m,rfl,_⟩:=h
   rfl
 obtain⟨k,t,f,m,rfl,ht,hf,q⟩:=h;refine⟨_,(B.sone (B.ret (B.op op_mod (B.op op_add (B.op op_mul (B.v 0) (B.ix ix_tup (B.v 1) B.int)) (B.ix ix_tup (B.v 1) B.int)) (B.gint g.c_MARKS)))),?_⟩;walk_at "W";exact q
theorem q26_(d:Dfn K mg "place_of" z53_ ["mark","size"]):Fn P w K mg base "place_of" 1 ["mark","size"] spPlace:=by
 refine d.fn z114_ (fun vs H Q E h=>?_) (fun f cdv A outer s H vs Q E hr h=>?_)
 · obtain⟨k,t,rfl,_⟩:=h
   rfl
 obtain⟨m,z,rfl,hz,q⟩:=h;refine⟨_,(B.sone (B.ret (B.op op_mod (B.v 0) (B.v 1)))),?_⟩;walk_at "W";exact q
theorem q29_(d:Dfn K mg "point_of" z55_ ["mark"])(g:Gs K mg C CT cS PS):Fn P w K mg base "point_of" 1 ["mark"] spPoint:=by
 refine d.fn z116_ (fun vs H Q E h=>?_) (fun f cdv A outer s H vs Q E hr h=>?_)
 · obtain⟨k,rfl,_⟩:=h
   rfl
 obtain⟨m,rfl,q⟩:=h;refine⟨_,(B.scons (B.set 1 z116_.nd B.int)
  (B.scons (B.fors (B.irange g.b_range (B.cons (B.gint g.c_MARK_BITS) B.nil)) (B.gname (i:=2) z116_.nd) (B.sone (B.set 1 z116_.nd (B.op op_add (B.op op_mul (B.v 1) B.int) (B.op op_mod (B.op op_shr (B.v 0) (B.v 2)) B.int)))))
  (B.sone (B.ret (B.v 1))))),?_⟩
 walk_at "W";refine⟨16,rfl,by decide,by decide,for_range (n:=16) (fun i σ H'=>∃ v,σ=[some (.int m),some (.int (pt m i)),v]/\H'=H) ⟨none,rfl,rfl⟩ ?_ ?_⟩
 · rintro i σ H' hi ⟨v,rfl,rfl⟩
   have e:(0+(i:Int)).toNat=i:=by omega
   walk_at "W";exact⟨_,by rw[e];rfl,rfl⟩
 rintro σ H' ⟨v,rfl,rfl⟩;walk_at "W";exact q
theorem q46_(d:Dfn K mg "stretch_of" z59_ ["place","size"])(g:Gs K mg C CT cS PS)(q32_:Fn P w K mg base "point_of" 1 ["mark"] spPoint):Fn P w K mg base "stretch_of" 2 ["place","size"] spStretch:=by
 refine d.fn z120_ (fun vs H Q E h=>?_) (fun f cdv A outer s H vs Q E hr h=>?_)
 · obtain⟨p,z,rfl,_⟩:=h
   rfl
 obtain⟨p,z,rfl,hz,q⟩:=h;refine⟨_,(B.scons (B.set 2 z120_.nd (B.fn q32_ hr.up (B.cons (B.v 0) B.nil)))
  (B.sone (B.ret (B.tup (B.cons (B.v 2) (B.cons (B.op op_sub (B.op op_add (B.v 2) (B.op op_fdivL (B.gint g.c_MARKS) (B.v 1))) B.int) B.nil)))))),?_⟩
 walk_at "W";refine wPoint ?_;walk_at "W";exact⟨by show(2:Nat)<=sizeLine;decide,fun t ht=>q t ht⟩
theorem q49_(d:Dfn K mg "is_whole" z29_ ["thing"])(g:Gs K mg C CT cS PS):Fn P w K mg base "is_whole" 1 ["thing"] spWhole:=by
 refine d.fn z90_ (fun vs H Q E h=>?_) (fun f cdv A outer s H vs Q E hr h=>?_)
 · obtain⟨n,rfl,_⟩:=h
   rfl
 obtain⟨n,rfl,q⟩:=h;refine⟨_,(B.sone (B.ret (B.and (B.cB SW.call_isi g.b_isinstance SW.b_isinstance (B.cons (B.v 0) (B.cons (B.ty g.b_int SW.b_int) B.nil))) (B.one (B.not (B.cB SW.call_isi g.b_isinstance SW.b_isinstance (B.cons (B.v 0) (B.cons (B.ty g.b_bool SW.b_bool) B.nil)))))))),?_⟩;walk_at "W";refine SW.iIsi (.int n) isi_int_int ?_;walk_at "W";refine iteT ?_;walk_at "W";refine SW.iIsi (.int n) isi_int_bool ?_;walk_at "W";exact q
theorem q42_(d:Dfn K mg "is_size" z28_ ["thing"])(g:Gs K mg C CT cS PS)(q4_:Fn P w K mg base "is_whole" 1 ["thing"] spWhole):Fn P w K mg base "is_size" 2 ["thing"] spIsSize:=by
 refine d.fn z89_ (fun vs H Q E h=>?_) (fun f cdv A outer s H vs Q E hr h=>?_)
 · obtain⟨n,rfl,_⟩:=h
   rfl
 obtain⟨n,rfl,hn,q⟩:=h;obtain⟨aS,hS,tS⟩:=g.c_SIZES;refine⟨_,(B.sone (B.ret (B.and (B.fn q4_ hr.up (B.cons (B.v 0) B.nil)) (B.one (B.cmpI op_in_seq (B.v 0) (B.gref hS)))))),?_⟩;walk_at "W";refine⟨_,rfl,?_⟩;walk_at "W";refine iteT ?_;walk_at "W";refine⟨aS,_,rfl,.inr (tS _),rfl,by decide,?_⟩
 rw[if_neg Bool.false_ne_true,inSizes hn];exact q
theorem q63_(d:Dk K mg C "Shelf" "Shelf.__init__" z0_ ["self","size","mixer"])(g:Gs K mg C CT cS PS)(q3_:Fn P w K mg base "is_size" 2 ["thing"] spIsSize):Mkr P w K mg base C "Shelf" 3 ["self","size","mixer"] (spSInit C):=by
 refine d.mk' z61_ (fun vs H Q E h=>?_) (fun f cdv A outer s H vs Q E hr h=>?_)
 · obtain⟨x,t,dx,n,f,m,rfl,_⟩:=h
   rfl
 obtain⟨x,t,dx,n,f,m,rfl,hx,ht,bf,hn,q⟩:=h;have bn:=hn.bounds;refine⟨_,(B.scons (B.ifs (B.tnot (B.tval (B.fn q3_ hr.up (B.cons (B.v 1) B.nil)))) (B.sone B.never) B.snil)
  (B.scons (B.sfld (B.v 0) (B.v 2))
  (B.scons (B.sfld (B.v 0) (SW.B.comp [] ["place"] (SW.CompScope.of rfl rfl (by decide +kernel) (by decide +kernel) rfl trivial rfl rfl rfl) (by decide +kernel) (B.irange g.b_range (B.cons (B.v 1) B.nil)) (fun _ _ _ _=>B.dnew)))
  (B.sone (B.sfld (B.v 0) B.int))))),?_⟩
 walk_at "W";refine⟨n,rfl,hn,?_⟩;walk_at "W";refine iteF ?_;walk_at "W";refine SW.iSFld hx g.cl_Shelf g.n_Shelf_mixer (by show 0 < 1000;decide) ?_
 walk_at "W";refine⟨n,rfl,by omega,by omega,fun D hD=>?_⟩
 have nxt:x≠t:=ne_of hx ht (by intro z;cases z)
 have hD0:H D=none:=by
  by_cases e:D=x
  · subst e;rw[upd_same]at hD;cases hD
  rw[upd_ne e]at hD;exact hD
 have nxD:x≠D:=ne_of_none hx hD0;refine comp_rangeU (fun i σ' H'=>∃(ds:List Addr) (v:Option V),σ'=[v]/\ds.length=i/\H' D=some (.lst (ds.map V.ref))/\ds.Nodup/\(∀ y∈ds,H' y=some (.dK [])/\H y=none/\y≠D)/\H' x=some (.ins C dx (putF "mixer" (.ref t) [])) /\ ∀ b o,b≠x->H b=some o->H' b=some o)
  ?_ ?_ ?_
 · exact⟨[],none,rfl,rfl,upd_same,List.nodup_nil,fun y hy=>(List.not_mem_nil hy).elim,by rw[upd_ne nxD,upd_same],fun b o nb e=>by rw[upd_ne (ne_of_none e hD0),upd_ne nb];exact e⟩
 · rintro i σ' H' hi ⟨ds,v,rfl,hl,h1,nd,h2,h3,h4⟩
   intro y hy;have nyD:D≠y:=ne_of_none h1 hy;have nin:y∉ds:=fun z=>by
    have:=(h2 y z).1;rw[hy]at this;cases this
   have hy0:H y=none:=by
    by_cases e:y=x
    · subst e;rw[h3]at hy;cases hy
    cases e2:H y with
    | none=>rfl
    | some o=>rw[h4 y o e e2]at hy;cases hy
   refine CN.mk hi (ys:=ds.map V.ref) (by rw[upd_ne nyD];exact h1) (by rw[List.length_map];exact Nat.lt_of_le_of_lt (show ds.length<=4096 by omega) (by decide)) ⟨ds++[y],_,rfl,by rw[List.length_append,hl];rfl,?_,nd_snoc nd nin,?_,?_,?_⟩
   · rw[upd_same,List.map_append];rfl
   · intro z hz
     rcases List.mem_append.mp hz with hz | hz
     · obtain⟨a1,a2,a3⟩:=h2 z hz
       refine⟨?_,a2,a3⟩;rw[upd_ne a3,upd_ne (fun e:z=y=>nin (e ▸ hz))];exact a1
     rw[List.mem_singleton.mp hz];exact⟨by rw[upd_ne nyD.symm,upd_same],hy0,nyD.symm⟩
   · rw[upd_ne nxD,upd_ne (ne_of_none h3 hy)];exact h3
   intro b o nb e;rw[upd_ne (ne_of_none e hD0),upd_ne (ne_of_none (h4 b o nb e) hy)];exact h4 b o nb e
 rintro σ' H' ⟨ds,v,rfl,hl,h1,nd,h2,h3,h4⟩;walk_at "W";refine SW.iSFld h3 g.cl_Shelf g.n_Shelf_rows (by show 1 < 1000;decide) ?_
 walk_at "W";refine⟨x,C,dx,_,rfl,upd_same,g.cl_Shelf,g.n_Shelf_held,?_,?_⟩
 · have e1:=putF_len "rows" (V.ref D) (putF "mixer" (V.ref t) [])
   have e2:=putF_len "mixer" (V.ref t) [];have e3:([]:List (Str×V)).length=0:=rfl;omega
 have up:∀ b o o1 o2,b≠x->H' b=some o->upd (upd H' x o1) x o2 b=some o:=fun b o o1 o2 nb e=>by rw[upd_ne nb,upd_ne nb];exact e
 refine q _ (fun b=>b=x∨b=D∨b∈ds) ⟨t,D,ds,⟨⟨dx,?_⟩,up _ _ _ _ nxt.symm (h4 _ _ nxt.symm ht),bf,up _ _ _ _ nxD.symm h1,by rw[hl,List.length_replicate];rfl,nd,?_,?_,?_,?_⟩,fun b=>Iff.rfl⟩ ?_ ?_
 · rw[upd_same,sfl_mk,tot_rep];rfl
 · intro i y r e1 e2
   have hm:=List.mem_of_getElem? e1;have er:r=[]:=List.eq_of_mem_replicate (List.mem_of_getElem? e2);subst er;obtain⟨a1,a2,a3⟩:=h2 y hm;exact up _ _ _ _ (fun e=>by rw[e,hx]at a2;cases a2) a1
 · intro r hr
   rw[List.eq_of_mem_replicate hr];exact List.nodup_nil
 · rw[List.length_replicate];omega
 · rw[List.length_replicate];omega
 · intro b hb
   rcases hb with rfl | rfl | hb
   · exact .inl rfl
   · exact .inr hD0
   exact .inr (h2 b hb).2.1
 intro b o nb e;exact up _ _ _ _ nb (h4 b o nb e)
theorem q64_(d:Dm K C "place_with" "Shelf.place_with" z6_ ["self","key"])(g:Gs K mg C CT cS PS)(q21_:Fn P w K mg base "mark_of" 1 ["key","mixer"] spMark)(q28_:Fn P w K mg base "place_of" 1 ["mark","size"] spPlace):Mt P w K mg base C "place_with" 2 ["self","key"] (spSPlace C):=by
 refine d.mt z67_ (fun vs H Q E h=>?_) (fun f cdv A outer s H vs Q E hr h=>?_)
 · obtain⟨p,k,f,m,R,F,rfl,_⟩:=h
   rfl
 obtain⟨p,k,f,m,R,F,rfl,⟨t,L,ds,X,hF⟩,q⟩:=h;obtain⟨dx,hp⟩:=X.ob;have hb:=X.pos;refine⟨_,(B.sone (B.ret (B.fn q28_ hr.up (B.cons (B.fn q21_ hr.up (B.cons (B.v 1) (B.cons (B.fld (B.v 0)) B.nil))) (B.cons (B.cB call_len_seq g.b_len SW.b_len (B.cons (B.fld (B.v 0)) B.nil)) B.nil))))),?_⟩;walk_at "W";refine SW.iFld hp g.cl_Shelf g.n_Shelf_mixer (sfl_mixer _ _ _) ?_;walk_at "W";refine wMark X.mx X.bm ?_;walk_at "W";refine SW.iFld hp g.cl_Shelf g.n_Shelf_rows (sfl_rows _ _ _) ?_;walk_at "W";refine SW.iLen (.inl (SqL.of X.rw)) ?_;walk_at "W";rw[List.length_map,X.len];refine wPlace (by omega) ?_
 rw[← plc_int hb];exact q
theorem q67_(d:Dm K C "row_with" "Shelf.row_with" z9_ ["self","key"])(g:Gs K mg C CT cS PS)(q54_:Mt P w K mg base C "place_with" 2 ["self","key"] (spSPlace C)):Mt P w K mg base C "row_with" 3 ["self","key"] (spSRowW C):=by
 refine d.mt z70_ (fun vs H Q E h=>?_) (fun f cdv A outer s H vs Q E hr h=>?_)
 · obtain⟨p,k,f,m,R,t,L,ds,rfl,_⟩:=h
   rfl
 obtain⟨p,k,f,m,R,t,L,ds,rfl,X,q⟩:=h;obtain⟨dx,hp⟩:=X.ob;have hb:=X.pos;have S:Sh C H p f m R (fun b=>b=p∨b=L∨b∈ds):=⟨t,L,ds,X,fun b=>Iff.rfl⟩;obtain⟨y,hy,_⟩:=X.place k;refine⟨_,(B.sone (B.ret (B.ix ix_list (B.fld (B.v 0)) (B.meth (B.v 0) g.cl_Shelf q54_ hr.up (B.cons (B.v 1) B.nil))))),?_⟩;walk_at "W";refine SW.iFld hp g.cl_Shelf g.n_Shelf_rows (sfl_rows _ _ _) ?_;walk_at "W";refine wS S ⟨by decide +kernel,by decide +kernel,by decide +kernel⟩ ?_
 walk_at "W";refine wSPlace S ?_;refine wIxL X.rw (v:=.ref y) ?_ (q y hy);refine atI_nat ?_;rw[List.getElem?_map,hy]
 rfl
theorem q65_(d:Dm K C "put" "Shelf.put" z7_ ["self","key","worth"])(g:Gs K mg C CT cS PS)(q57_:Mt P w K mg base C "row_with" 3 ["self","key"] (spSRowW C)):Mt P w K mg base C "put" 4 ["self","key","worth"] (spSPut C):=by
 refine d.mt z68_ (fun vs H Q E h=>?_) (fun f cdv A outer s H vs Q E hr h=>?_)
 · obtain⟨p,k,v,f,m,R,F,rfl,_⟩:=h
   rfl
 obtain⟨p,k,v,f,m,R,F,rfl,S,hl,q⟩:=h;obtain⟨t,L,ds,X,hF⟩:=id S;obtain⟨dx,hp⟩:=X.ob;obtain⟨y,hy,hr0⟩:=X.place k;have npy:p≠y:=ne_of hp hr0 (by intro z;cases z)
 have Fp:F p:=(hF p).mpr (.inl rfl);have Fy:F y:=(hF y).mpr (.inr (.inr (List.mem_of_getElem? hy)));have hlen:(kvs (sRow f m R k)).length < sizeLine:=by
  rw[kvs_len];exact Nat.lt_of_le_of_lt (Nat.le_trans (len_le_tot R _) hl) (by decide)
 have hok:ROk (rPut (sRow f m R k) k v):=rPut_ok (X.ok _ (List.mem_of_getElem? (getD_get (plc_lt X.pos))));have ht:=sPut_tot (f:=f) (m:=m) (k:=k) (v:=v) X.pos;refine⟨_,(B.scons (B.set 3 z68_.nd (B.meth (B.v 0) g.cl_Shelf q57_ hr.up (B.cons (B.v 1) B.nil)))
  (B.scons (B.set 4 z68_.nd (B.dget1 (hu_of hr) (B.v 3) (B.v 1) (m:=B.m1)))
  (B.scons (B.ifs (B.tcmp op_isN (B.v 4) B.non) (B.sone (B.faug in_add (B.v 0) B.int)) B.snil)
  (B.scons (B.dput (hu_of hr) (B.v 3) (B.v 1) (B.v 2))
  (B.sone (B.ret (B.v 4))))))),?_⟩
 walk_at "W";refine wS S ⟨by decide +kernel,by decide +kernel,by decide +kernel⟩ ?_
 walk_at "W";refine SW.wSRowW X fun y' hy'=>?_;obtain rfl:y=y':=Option.some.inj (hy.symm.trans hy');walk_at "W";refine⟨y,rfl,.inl ⟨_,.inl hr0⟩,?_⟩;walk_at "W";refine⟨_,DGet.k (k:=Sum.inl k) hr0,?_⟩;rw[oV_getD];walk_at "W";refine⟨rfl,?_⟩;walk_at "W";refine ite2 (fun hc=>?_) (fun hc=>?_)
 · have e:sLook f m R k=none:=by
    unfold sLook;cases e:rLook (sRow f m R k) k with
    | none=>rfl
    | some z=>rw[e]at hc;exact absurd (of_decide_eq_true hc) (by intro z;cases z)
   rw[e,if_pos rfl]at ht;walk_at "W";refine SW.iFld hp g.cl_Shelf g.n_Shelf_held (sfl_held _ _ _) ?_;walk_at "W";refine⟨_,_,rfl,rfl,dx,_,hp,by show 3 < 1000;decide,?_⟩
   rw[sfl_put];walk_at "W";refine⟨y,_,rfl,DPut.k (k:=Sum.inl k) (by rw[upd_ne npy.symm];exact hr0) hlen,?_⟩
   walk_at "W";rw[putK_kvs];refine q _ ⟨t,L,ds,X.set hy hok ⟨dx,?_⟩ upd_same fun b o n1 n2 e=>?_,hF⟩ fun b o nb e=>?_
   · rw[upd_ne npy,upd_same]
     show _=some (HO.ins C dx (sfl t L (tot (sPut f m R k v))));rw[ht]
     rfl
   · rw[upd_ne n2,upd_ne n1];exact e
   rw[upd_ne (fun z:b=y=>nb (z ▸ Fy)),upd_ne (fun z:b=p=>nb (z ▸ Fp))];exact e
 have e:¬ sLook f m R k=none:=fun e=>hc (by
  unfold sLook at e;rw[e];exact decide_eq_true rfl)
 rw[if_neg e]at ht;walk_at "W";refine⟨y,_,rfl,DPut.k (k:=Sum.inl k) hr0 hlen,?_⟩;walk_at "W";rw[putK_kvs];refine q _ ⟨t,L,ds,X.set hy hok ⟨dx,?_⟩ upd_same fun b o n1 n2 e=>?_,hF⟩ fun b o nb e=>?_
 · rw[upd_ne npy]
   show _=some (HO.ins C dx (sfl t L (tot (sPut f m R k v))));rw[ht];exact hp
 · rw[upd_ne n2];exact e
 rw[upd_ne (fun z:b=y=>nb (z ▸ Fy))];exact e
theorem q68_(d:Dm K C "size" "Shelf.size" z10_ ["self"])(g:Gs K mg C CT cS PS):Mt P w K mg base C "size" 1 ["self"] (spSSize C):=by
 refine d.mt z71_ (fun vs H Q E h=>?_) (fun f cdv A outer s H vs Q E hr h=>?_)
 · obtain⟨p,f,m,R,F,rfl,_⟩:=h
   rfl
 obtain⟨p,f,m,R,F,rfl,⟨t,L,ds,X,hF⟩,q⟩:=h;obtain⟨dx,hp⟩:=X.ob;refine⟨_,(B.sone (B.ret (B.cB call_len_seq g.b_len SW.b_len (B.cons (B.fld (B.v 0)) B.nil)))),?_⟩;walk_at "W";refine SW.iFld hp g.cl_Shelf g.n_Shelf_rows (sfl_rows _ _ _) ?_;walk_at "W";refine SW.iLen (.inl (SqL.of X.rw)) ?_;rw[List.length_map,X.len];exact q
theorem q62_(d:Dm K C "check_place" "Shelf.check_place" z1_ ["self","place"])(g:Gs K mg C CT cS PS)(q4_:Fn P w K mg base "is_whole" 1 ["thing"] spWhole):Mt P w K mg base C "check_place" 2 ["self","place"] (spSCheck C):=by
 refine d.mt z62_ (fun vs H Q E h=>?_) (fun f cdv A outer s H vs Q E hr h=>?_)
 · obtain⟨p,i,f,m,R,F,rfl,_⟩:=h
   rfl
 obtain⟨p,i,f,m,R,F,rfl,⟨t,L,ds,X,hF⟩,i0,i1,q⟩:=h;obtain⟨dx,hp⟩:=X.ob;refine⟨_,(B.sone (B.ifs (B.tw (B.wor (B.tnot (B.tval (B.fn q4_ hr.up (B.cons (B.v 1) B.nil)))) (B.wor1 (B.tnot (B.tchain op_le op_lt B.int (B.v 1) (B.cB call_len_seq g.b_len SW.b_len (B.cons (B.fld (B.v 0)) B.nil))))))) (B.sone B.never) B.snil)),?_⟩;walk_at "W";refine⟨i,rfl,?_⟩;walk_at "W";refine iteF ?_;walk_at "W";refine iteY i0 ?_;walk_at "W";refine SW.iFld hp g.cl_Shelf g.n_Shelf_rows (sfl_rows _ _ _) ?_;walk_at "W";refine SW.iLen (.inl (SqL.of X.rw)) ?_;walk_at "W";rw[List.length_map,X.len];refine iteNS i1 ?_;walk_at "W";exact q
theorem q66_(d:Dm K C "row" "Shelf.row" z8_ ["self","place"])(g:Gs K mg C CT cS PS)(q53_:Mt P w K mg base C "check_place" 2 ["self","place"] (spSCheck C)):Mt P w K mg base C "row" 3 ["self","place"] (spSRow C):=by
 refine d.mt z69_ (fun vs H Q E h=>?_) (fun f cdv A outer s H vs Q E hr h=>?_)
 · obtain⟨p,i,f,m,R,F,rfl,_⟩:=h
   rfl
 obtain⟨p,i,f,m,R,F,rfl,S,hi,q⟩:=h;obtain⟨t,L,ds,X,hF⟩:=id S;obtain⟨dx,hp⟩:=X.ob;have hi':i < ds.length:=by rw[X.len];exact hi
 have hy:ds[i]?=some ds[i]:=List.getElem?_eq_getElem hi';have hr0:=X.at_ _ _ _ hy (getD_get hi);generalize ds[i]=y at hy hr0;refine⟨_,(B.scons (B.expr (B.meth (B.v 0) g.cl_Shelf q53_ hr.up (B.cons (B.v 1) B.nil)))
  (B.sone (B.ret (B.cT SW.call_list_items g.b_list SW.b_list (B.cons (B.items (B.ix ix_list (B.fld (B.v 0)) (B.v 1))) B.nil))))),?_⟩
 walk_at "W";refine wS S ⟨by decide +kernel,by decide +kernel,by decide +kernel⟩ ?_
 walk_at "W";refine⟨p,i,f,m,R,F,rfl,S,by omega,by omega,?_⟩
 walk_at "W";refine SW.iFld hp g.cl_Shelf g.n_Shelf_rows (sfl_rows _ _ _) ?_;walk_at "W";refine wIxL X.rw (v:=.ref y) ?_ ?_
 · refine atI_nat ?_
   rw[List.getElem?_map,hy]
   rfl
 refine⟨y,_,rfl,hr0,fun v hv=>?_⟩;walk_at "W";have s1:Same H (upd H v (ViewO v y)):=Same.new hv;refine⟨v,y,_,rfl,upd_same,s1 _ _ hr0,rfl,fun l as H' s2 hl hl' hlen hall=>?_⟩;refine q l _ H' (s1.trans s2) (s1.free hl) hl' (prs_of (by rw[hlen,kvs_len]) fun j a e=>?_)
 obtain⟨_,k,x,e1,e2⟩:=hall j a e;exact⟨k,x,e1,e2⟩
-- ThV LamH S75
theorem t_due{mv d:Nat}(h1:mv<=9000)(h2:d<=5000):(-(2 ^ 62)<=(mv:Int)/\(mv:Int) < 2 ^ 62 /\ -(2 ^ 62)<=(mv:Int)+(d:Int)/\(mv:Int)+(d:Int) < 2 ^ 62)/\(mv:Int)<=(mv:Int)+(d:Int)/\(mv:Int)+(d:Int) - (mv:Int)<=1000000:=by omega
theorem q70_(d:Dm K CT "shelves" "Table.shelves" z22_ ["self"])(g:Gs K mg C CT cS PS):Mt P w K mg base CT "shelves" 1 ["self"] (spTShelves C CT):=by
 refine d.mt z83_ (fun vs H Q E h=>?_) (fun f cdv A outer s H vs Q E hr h=>?_)
 · obtain⟨p,f,m,pc,M,tc,t,n,v,FN,FE,rfl,_⟩:=h
   rfl
 obtain⟨p,f,m,pc,M,tc,t,n,v,FN,FE,rfl,X,q⟩:=h;obtain⟨dx,hp⟩:=X.ob;have hel:=X.el;refine⟨_,(B.sone (B.ret (B.ifx (B.tcmp op_isN (B.fld (B.v 0)) B.non) (B.lst (B.cons (B.fld (B.v 0)) B.nil)) (B.lst (B.cons (B.fld (B.v 0)) (B.cons (B.fld (B.v 0)) B.nil)))))),?_⟩;walk_at "W";refine SW.iFld hp g.cl_Table g.n_Table_elder (tfl_elder ..) ?_;walk_at "W";refine⟨rfl,?_⟩;walk_at "W";cases e:M.el with
 | none=>
   rw[e]at hel q;obtain⟨rfl,_⟩:=hel;refine iteT ?_;walk_at "W";refine SW.iFld hp g.cl_Table g.n_Table_newer (tfl_newer ..) ?_;walk_at "W";exact⟨by show(1:Nat)<=sizeLine;decide,fun l hl=>q l hl⟩
 | some EE=>
   rw[e]at hel q;obtain⟨ea,rfl,SE⟩:=hel;refine iteF ?_;walk_at "W";refine SW.iFld hp g.cl_Table g.n_Table_elder (tfl_elder ..) ?_;walk_at "W";refine SW.iFld hp g.cl_Table g.n_Table_newer (tfl_newer ..) ?_;walk_at "W";exact⟨by show(2:Nat)<=sizeLine;decide,fun l hl=>q l hl⟩
theorem q41_(d:Dfn K mg "shelf_of" z57_ ["rows","mixer"])(g:Gs K mg C CT cS PS)(q51_:Mkr P w K mg base C "Shelf" 3 ["self","size","mixer"] (spSInit C))(q55_:Mt P w K mg base C "put" 4 ["self","key","worth"] (spSPut C)):Fn P w K mg base "shelf_of" 5 ["rows","mixer"] (spShelfOf K C):=by
 refine d.fn z118_ (fun vs H Q E h=>?_) (fun f cdv A outer s H vs Q E hr h=>?_)
 · obtain⟨a,t,f,m,R,rfl,_⟩:=h
   rfl
 obtain⟨a,t,f,m,R,rfl,⟨xs,hx,px⟩,hs,htot,ht,bf,q⟩:=h;have lx:xs.length=R.length:=Paired.length px;refine⟨_,(B.scons (B.set 2 z118_.nd (B.make q51_ hr.up (B.cons (B.cB call_len_seq g.b_len SW.b_len (B.cons (B.v 0) B.nil)) (B.cons (B.v 1) B.nil))))
  (B.scons (B.fors (B.itup (B.v 0)) (B.gname (i:=3) z118_.nd) (B.sone (B.fors (B.itup (B.v 3)) (B.gtup (B.gcons (B.gname (i:=4) z118_.nd) (B.gcons (B.gname (i:=5) z118_.nd) B.gnil))) (B.sone (B.expr (B.meth (B.v 2) g.cl_Shelf q55_ hr.up (B.cons (B.v 4) (B.cons (B.v 5) B.nil))))))))
  (B.sone (B.ret (B.v 2))))),?_⟩
 walk_at "W";refine SW.iLen (.inr hx) ?_;walk_at "W";rw[lx];refine wShelf (n:=((R.length:Nat):Int)) ht bf (by omega) (by simpa using hs) fun p H1 F1 S1 n1 s1=>?_
 have S1:Sh C H1 p f m (List.replicate R.length []) F1:=S1;have keepT:∀{H':Hp}{b:Addr}{ys:List V},(∀ c o,H c=some o->H' c=some o)->SqT K H b ys->SqT K H' b ys:=fun k hb=>by
  rcases hb with (z | ⟨o,z⟩) | z
  · exact .inl (.inl (k _ _ z))
  · exact .inl (.inr ⟨o,k _ _ z⟩)
  exact .inr z
 have old:∀{H':Hp},SW.Fr F1 H1 H' -> ∀ c o,H c=some o->H' c=some o:=fun k c o e=>k c o (fun z=>by rw[n1 c z]at e;cases e) (s1 c o e)
 walk_at "W";refine⟨a,rfl,⟨_,keepT s1 hx⟩,?_⟩;refine for_tup (xs:=xs) (fun i σ H'=>∃ v3 v4 v5,σ=[some (.ref a),some (.ref t),some (.ref p),v3,v4,v5]/\Sh C H' p f m ((R.take i).foldl (fun N r=>putAll f m N r) (List.replicate R.length [])) F1/\SW.Fr F1 H1 H'/\tot ((R.take i).foldl (fun N r=>putAll f m N r) (List.replicate R.length []))<=tot (R.take i)) ?_ (fun i σ H' _ z=>z.elim fun _ z=>z.elim fun _ z=>z.elim fun _ z=>keepT (old z.2.2.1) hx) ?_ ?_
 · exact⟨none,none,none,rfl,S1,Fr.refl _ _,by rw[List.take_zero];show tot (List.replicate R.length [])<=0;rw[tot_rep];exact Nat.le_refl _⟩
 · rintro i x σ H' hxi ⟨v3,v4,v5,rfl,S',k',ht'⟩
   have hi:i < R.length:=by
    have:=(List.getElem?_eq_some_iff.mp hxi).1;omega
   obtain⟨b,ys,rfl,hb,pb⟩:RowT K H x R[i]:=by
    have key:∀{xs:List V}{R:MRows}{i:Nat}{x:V} (hi:i < R.length),Paired (RowT K H) xs R->xs[i]?=some x->RowT K H x R[i]:=by
     intro xs R i x hi pp
     induction pp generalizing i with
     | nil=>intro h;simp at h
     | cons h t ih=>
       intro e;cases i with
       | zero=>simp at e;subst e;exact h
       | succ i=>exact ih (by simpa using hi) (by simpa using e)
    exact key hi px hxi
   have ly:ys.length=R[i].length:=Paired.length pb;have etk:R.take (i+1)=R.take i++[R[i]]:=by rw[List.take_add_one,List.getElem?_eq_getElem hi];rfl
   have ett:tot (R.take (i+1))=tot (R.take i)+R[i].length:=by
    rw[etk];unfold tot;rw[List.map_append,List.sum_append];simp
   have tle:tot (R.take (i+1))<=tot R:=by
    have:∀(l:MRows) (j:Nat),tot (l.take j)<=tot l:=by
     intro l
     induction l with
     | nil=>intro j;rw[List.take_nil];exact Nat.le_refl _
     | cons a l ih=>
       intro j;cases j with
       | zero=>exact Nat.zero_le _
       | succ j=>
         show a.length+tot (l.take j)<=a.length+tot l;have:=ih j;omega
    exact this R (i+1)
   walk_at "W";refine⟨b,rfl,⟨_,keepT (old k') hb⟩,?_⟩;refine for_tup (xs:=ys) (fun j σ H''=>∃ v4 v5,σ=[some (.ref a),some (.ref t),some (.ref p),some (.ref b),v4,v5]/\Sh C H'' p f m (putAll f m ((R.take i).foldl (fun N r=>putAll f m N r) (List.replicate R.length [])) (R[i].take j)) F1/\SW.Fr F1 H1 H'') ⟨v4,v5,rfl,S',k'⟩ (fun j σ H'' _ ⟨_,_,_,_,k''⟩=>keepT (old k'') hb) ?_ ?_
   · rintro j y σ H'' hyj ⟨v4,v5,rfl,S'',k''⟩
     have hj:j < R[i].length:=by
      have:=(List.getElem?_eq_some_iff.mp hyj).1;omega
     obtain⟨c,rfl,hc⟩:PrT K H y R[i][j]:=by
      have key:∀{xs:List V}{R:MRow}{i:Nat}{x:V} (hi:i < R.length),Paired (PrT K H) xs R->xs[i]?=some x->PrT K H x R[i]:=by
       intro xs R i x hi pp
       induction pp generalizing i with
       | nil=>intro h;simp at h
       | cons h t ih=>
         intro e;cases i with
         | zero=>simp at e;subst e;exact h
         | succ i=>exact ih (by simpa using hi) (by simpa using e)
      exact key hj pb hyj
     refine⟨c,_,rfl,keepT (old k'') hc,rfl,_,_,rfl,_,_,rfl,rfl,?_⟩;walk_at "W";refine wS S'' ⟨by decide +kernel,by decide +kernel,by decide +kernel⟩ ?_
     walk_at "W";refine wSPut S'' ?_ fun H3 S3 K3=>?_
     · have h1:=tot_putAll_le (f:=f) (m:=m) (r:=R[i].take j) S'.pos
       have h2:(R[i].take j).length<=R[i].length:=by rw[List.length_take];exact Nat.min_le_right _ _
       omega
     walk_at "W";refine⟨_,_,rfl,?_,k''.trans K3⟩;rw[putAll_take (List.getElem?_eq_getElem hj)];exact S3
   rintro σ H'' ⟨v4,v5,rfl,S'',k''⟩;have e9:R[i].take ys.length=R[i]:=List.take_of_length_le (by omega)
   rw[e9]at S'';have ef:(R.take (i+1)).foldl (fun N r=>putAll f m N r) (List.replicate R.length [])=putAll f m ((R.take i).foldl (fun N r=>putAll f m N r) (List.replicate R.length [])) R[i]:=by rw[etk,List.foldl_append];rfl
   refine⟨_,_,_,rfl,by rw[ef];exact S'',k'',?_⟩
   rw[ef];have h1:=tot_putAll_le (f:=f) (m:=m) (r:=R[i]) S'.pos;omega
 rintro σ H' ⟨v3,v4,v5,rfl,S',k',_⟩;rw[List.take_of_length_le (by omega)]at S'
 walk_at "W";exact q p H' F1 S' n1 (old k')
theorem q69_(d:Dk K mg CT "Table" "Table.__init__" z11_ ["self","mixer","pace","state"])(g:Gs K mg C CT cS PS)(q41_:Fn P w K mg base "shelf_of" 5 ["rows","mixer"] (spShelfOf K C)):Mkr P w K mg base CT "Table" 6 ["self","mixer","pace","state"] (spTInit C CT):=by
 refine d.mk' z72_ (fun vs H Q E h=>?_) (fun f cdv A outer s H vs Q E hr h=>?_)
 · obtain⟨x,t,dx,f,m,pc,v,M,rfl,_⟩:=h
   rfl
 obtain⟨x,t,dx,f,m,pc,v,M,rfl,hx,ht,bf,T,hcnt,hv,q⟩:=h;obtain⟨aE,bE,hE,tE,rE⟩:=g.c_EMPTY;have ntx:t≠x:=ne_of ht hx (by intro z;cases z)
 refine⟨_,(B.scons (B.set 4 z72_.nd (B.ifx (B.tcmp op_isN (B.v 3) B.non) (B.gref hE) (B.v 3)))
  (B.scons (B.sfld (B.v 0) (B.v 1))
  (B.scons (B.sfld (B.v 0) (B.v 2))
  (B.scons (B.sfld (B.v 0) (B.ifx (B.tcmp op_isN (B.ix ix_tup (B.v 4) B.int) B.non) B.non (B.fn q41_ hr.up (B.cons (B.ix ix_tup (B.v 4) B.int) (B.cons (B.v 1) B.nil)))))
  (B.scons (B.sfld (B.v 0) (B.ix ix_tup (B.v 4) B.int))
  (B.scons (B.sfld (B.v 0) (B.fn q41_ hr.up (B.cons (B.ix ix_tup (B.v 4) B.int) (B.cons (B.v 1) B.nil))))
  (B.sone (B.sfld (B.v 0) B.int)))))))),?_⟩
 walk_at "W";refine⟨rfl,?_⟩;walk_at "W";have key:∀ Q':VK,(∀(aL:Addr) (e:V) (b:Addr),SqT K H aL [e,.int (M.mv:Nat),.ref b]->ElT K H e M.el->RowsT K H b M.nw->Q' (.ref aL) H) ->
  (if decide (v=.non)=true then tC (.ref aE) [some (.ref x),some (.ref t),some (.int pc),some v,none] H Q' else tVar 3 [some (.ref x),some (.ref t),some (.int pc),some v,none] H Q'):=fun Q' h=>by
  rcases hv with ⟨rfl,rfl⟩ | ⟨a,e,w',rfl,ha,he,hw⟩
  · exact iteT (h aE .non bE (tE _) rfl (rE _))
  obtain⟨b,rfl,hb⟩:=hw.rowsT (K:=K);exact iteF (SW.wVar rfl (h a e b (SqT.of ha) he.elT hb))
 refine key _ fun aL e b hL hEl hN=>?_;clear key;have L0:(putF "mixer" (V.ref t) []).length<=1:=putF_len ..;have L1:(putF "pace" (V.int pc) (putF "mixer" (V.ref t) [])).length<=2:=Nat.le_trans (putF_len ..) (Nat.succ_le_succ L0);have L2:∀ ve,(putF "elder" ve (putF "pace" (V.int pc) (putF "mixer" (V.ref t) []))).length<=3:=fun ve=>Nat.le_trans (putF_len ..) (Nat.succ_le_succ L1);have L3:∀ ve z,(putF "moved" z (putF "elder" ve (putF "pace" (V.int pc) (putF "mixer" (V.ref t) [])))).length<=4:=fun ve z=>Nat.le_trans (putF_len ..) (Nat.succ_le_succ (L2 ve));have L4:∀ ve z y,(putF "newer" y (putF "moved" z (putF "elder" ve (putF "pace" (V.int pc) (putF "mixer" (V.ref t) []))))).length<=5:=fun ve z y=>Nat.le_trans (putF_len ..) (Nat.succ_le_succ (L3 ve z));walk_at "W";refine SW.iSFld hx g.cl_Table g.n_Table_mixer (by show 0 < 1000;decide) ?_
 walk_at "W";refine SW.iSFld upd_same g.cl_Table g.n_Table_pace (by omega) ?_
 rw[upd_upd];have fr0:∀ o b u,b≠x->H b=some u->upd H x o b=some u:=fun o b u nb e=>by rw[upd_ne nb];exact e
 walk_at "W";refine⟨aL,_,_,_,rfl,rfl,hL.but hx (fr0 _),rfl,?_⟩;walk_at "W";refine⟨rfl,?_⟩;walk_at "W";have totN:tot M.nw<=5000:=by unfold SW.cnt at hcnt;omega
 have key2:∀ Q':VK,(∀(ve:V) (H1:Hp) (FE:Addr->Prop),ElAt C H1 f m ve M.el FE->(∀ b,FE b->H b=none/\b≠x)->H1 x=some (.ins CT dx (putF "pace" (.int pc) (putF "mixer" (.ref t) [])))->(∀ b o,b≠x->H b=some o->H1 b=some o)->Q' ve H1) ->
  (if decide (e=.non)=true then tC .non [some (.ref x),some (.ref t),some (.int pc),some v,some (.ref aL)] (upd H x (.ins CT dx (putF "pace" (.int pc) (putF "mixer" (.ref t) [])))) Q'
   else tCall (spShelfOf K C) [] E0 (tCons (tOp (rIxT K) (tVar 4) (tC (.int 0))) (tCons (tVar 1) tNil)) [some (.ref x),some (.ref t),some (.int pc),some v,some (.ref aL)] (upd H x (.ins CT dx (putF "pace" (.int pc) (putF "mixer" (.ref t) [])))) Q'):=fun Q' h=>by
  cases z:M.el with
  | none=>
    rw[z]at hEl h;obtain rfl:e=.non:=hEl;exact iteT (h .non _ (fun _=>False) ⟨rfl,fun _ z=>z⟩ (fun _ z=>z.elim) upd_same (fr0 _))
  | some EE=>
    obtain⟨PE',sE,_,_,_⟩:=T.el EE z;have totE:tot EE<=5000:=by unfold SW.cnt at hcnt;rw[z]at hcnt;have h2:tot EE+tot M.nw<=5000:=hcnt;omega
    rw[z]at hEl h;obtain⟨ea,rfl,hr'⟩:=hEl;refine iteF ?_;walk_at "W";refine⟨aL,_,_,_,rfl,rfl,hL.but hx (fr0 _),rfl,?_⟩;walk_at "W";refine⟨ea,t,f,m,EE,rfl,hr'.but hx (fr0 _),sE,totE,fr0 _ _ _ ntx ht,bf,fun sp H1 F1 S1 n1 s1=>?_⟩;rw[laid_eq PE']at S1;refine h (.ref sp) H1 F1 ⟨sp,rfl,S1⟩ (fun b hb=>?_) (s1 _ _ upd_same) fun b o nb e=>s1 _ _ (fr0 _ _ _ nb e);have h1:=n1 b hb;by_cases z:b=x
    · subst z;rw[upd_same]at h1;cases h1
    rw[upd_ne z]at h1;exact⟨h1,z⟩
 refine key2 _ fun ve H1 FE hE1 nFE hx1 fr1=>?_;clear key2;have fr2:∀ o b u,b≠x->H b=some u->upd H1 x o b=some u:=fun o b u nb e=>by rw[upd_ne nb];exact fr1 b u nb e
 walk_at "W";refine SW.iSFld hx1 g.cl_Table g.n_Table_elder (by omega) ?_
 walk_at "W";refine⟨aL,_,_,_,rfl,rfl,hL.but hx (fr2 _),rfl,?_⟩;walk_at "W";refine SW.iSFld upd_same g.cl_Table g.n_Table_moved (by have:=L2 ve;omega) ?_
 rw[upd_upd];walk_at "W";refine⟨aL,_,_,_,rfl,rfl,hL.but hx (fr2 _),rfl,?_⟩;walk_at "W";refine⟨b,t,f,m,M.nw,rfl,hN.but hx (fr2 _),T.sz,totN,fr2 _ _ _ ntx ht,bf,fun sp H2 F2 S2 n2 s2=>?_⟩;rw[laid_eq T.nw]at S2;have hx2:=s2 _ _ (upd_same (H:=H1) (a:=x) (o:=.ins CT dx (putF "moved" (.int (M.mv:Nat)) (putF "elder" ve (putF "pace" (.int pc) (putF "mixer" (.ref t) []))))));have n2':∀ b,F2 b->H1 b=none/\b≠x:=fun b hb=>by
  have h1:=n2 b hb;by_cases z:b=x
  · subst z;rw[upd_same]at h1;cases h1
  rw[upd_ne z]at h1;exact⟨h1,z⟩
 have n2'':∀ b,F2 b->H b=none:=fun b hb=>by
  obtain⟨h1,nb⟩:=n2' b hb;cases e:H b with
  | none=>rfl
  | some o=>rw[fr1 b o nb e]at h1;cases h1
 walk_at "W";refine SW.iSFld hx2 g.cl_Table g.n_Table_newer (by have:=L3 ve (.int (M.mv:Nat));omega) ?_
 walk_at "W";refine SW.iSFld upd_same g.cl_Table g.n_Table_touches (by have:=L4 ve (.int (M.mv:Nat)) (.ref sp);omega) ?_
 rw[upd_upd,tfl_mk];have fr3:∀ o,SW.Fr (fun b=>b=x) H2 (upd H2 x o):=fun o b u nb e=>by rw[upd_ne nb];exact e
 have nt3:∀ b xs,H2 b=some (.tup xs) -> ¬ b=x:=fun b xs e=>ne_of e hx2 (by intro z;cases z)
 have fr4:∀ o,SW.Fr (fun b=>b=x) H1 (upd H2 x o):=fun o b u nb e=>by rw[upd_ne nb];exact s2 _ _ (by rw[upd_ne nb];exact e)
 have nt4:∀ b xs,H1 b=some (.tup xs) -> ¬ b=x:=fun b xs e=>ne_of e hx1 (by intro z;cases z)
 have fr5:∀ o b u,b≠x->H b=some u->upd H2 x o b=some u:=fun o b u nb e=>fr4 o b u nb (fr1 b u nb e);refine q _ (fun b=>b=x∨F2 b∨FE b) ⟨t,sp,ve,F2,FE,⟨⟨dx,upd_same⟩,fr5 _ _ _ ntx ht,bf,S2.keep (fr3 _) (fun b hb=>(n2' b hb).2) nt3,hE1.keep (fr4 _) (fun b hb=>(nFE b hb).2) nt4,fun b hb hf=>?_,⟨fun z=>(n2' x z).2 rfl,fun z=>(nFE x z).2 rfl⟩⟩,fun b=>Iff.rfl⟩ (fun b hb=>?_) (fr5 _)
 · obtain⟨o',e',_⟩:=hE1.live hb
   rw[(n2' b hf).1]at e';cases e'
 rcases hb with z | z | z
 · exact .inl z
 · exact .inr (n2'' b z)
 exact .inr (nFE b z).1
theorem q36_(d:Dfn K mg "rows_of" z56_ ["shelf"])(g:Gs K mg C CT cS PS)(q58_:Mt P w K mg base C "size" 1 ["self"] (spSSize C))(q56_:Mt P w K mg base C "row" 3 ["self","place"] (spSRow C)):Fn P w K mg base "rows_of" 4 ["shelf"] (spRowsOf C):=by
 refine d.fn z117_ (fun vs H Q E h=>?_) (fun f cdv A outer s H vs Q E hr h=>?_)
 · obtain⟨p,f,m,R,F,rfl,_⟩:=h
   rfl
 obtain⟨p,f,m,R,F,rfl,S,q⟩:=h;have htop:=S.top;refine⟨_,(B.sone (B.ret (B.cT call_tuple_of g.b_tuple SW.b_tuple (B.cons (SW.B.comp [0] ["place","shelf"] (SW.CompScope.of rfl rfl (by decide +kernel) (by decide +kernel) rfl ⟨rfl,trivial⟩ rfl rfl rfl) (by decide +kernel) (B.irange g.b_range (B.cons (B.meth0 (B.v 0) g.cl_Shelf q58_ hr.up) B.nil)) (fun _ _ _ _=>(B.cT (SW.call_tupleK K) g.b_tuple SW.b_tuple (B.cons (B.meth (B.v 1) g.cl_Shelf q56_ hr.up (B.cons (B.v 0) B.nil)) B.nil)))) B.nil)))),?_⟩
 walk_at "W";refine wS S ⟨by decide +kernel,by decide +kernel,by decide +kernel⟩ ?_
 walk_at "W";refine wSSize S ?_;walk_at "W";refine⟨R.length,rfl,by omega,by omega,fun D hD=>?_⟩
 refine comp_rangeU (fun i σ' H'=>∃(xs:List V) (v:Option V),Same H H' /\ σ'=[v,some (.ref p)]/\xs.length=i/\H' D=some (.lst xs)/\Paired (RowU H') xs (R.take i)) ⟨[],none,Same.new hD,rfl,rfl,upd_same,.nil⟩ ?_ ?_
 · rintro i σ' H' hi ⟨xs,v,s',rfl,hl,hD',pr⟩
   have S':=S.same s';walk_at "W";refine wS S' ⟨by decide +kernel,by decide +kernel,by decide +kernel⟩ ?_
   walk_at "W";refine wSRow S' (by omega) (by omega) fun l ys H2 s2 nl hl2 p2=>?_
   walk_at "W";refine⟨l,_,rfl,.inl ⟨SqL.of hl2,fun t ht=>?_⟩⟩;have hD2:=s2 _ _ hD';have s3:Same H2 (upd H2 t (.tup ys)):=Same.new ht;have hD3:=s3 _ _ hD2;have e0:(0+(i:Int)).toNat=i:=by omega
   rw[e0]at p2;refine CN.mk hi hD3 (by
    have:sizeLine=16777216:=sizeLine_eq
    omega) ⟨xs++[.ref t],_,fun b o e=>?_,rfl,by rw[List.length_append,hl];rfl,upd_same,?_⟩
   · rw[upd_ne (ne_of_none e hD)];exact s3 _ _ (s2 _ _ (s' _ _ e))
   have kt:KeepT (upd H2 t (.tup ys)) (upd (upd H2 t (.tup ys)) D (.lst (xs++[.ref t]))):=KeepT.upd fun zs e=>by rw[hD3]at e;cases e
   rw[List.take_add_one,getD_get hi];refine paired_snoc (Paired.mapP pr fun _ _ z=>z.keep (fun a xs e=>kt _ _ (s3 _ _ (s2 _ _ e)))) ?_;exact⟨t,ys,rfl,kt _ _ upd_same,p2.keep fun a xs e=>kt _ _ (s3 _ _ e)⟩
 rintro σ' H' ⟨xs,v,s',rfl,hl,hD',pr⟩;walk_at "W";refine⟨D,_,rfl,.inl ⟨SqL.of hD',fun l hl=>?_⟩⟩;have s2:Same H' (upd H' l (.tup xs)):=Same.new hl;rw[show((R.length:Nat):Int).toNat=R.length from rfl,List.take_length]at pr;exact q _ _ (s'.trans s2) ⟨l,xs,rfl,upd_same,Paired.mapP pr fun _ _ z=>z.keep (KeepT.same s2)⟩
theorem q72_(d:Dm K CT "state" "Table.state" z25_ ["self"])(g:Gs K mg C CT cS PS)(q36_:Fn P w K mg base "rows_of" 4 ["shelf"] (spRowsOf C)):Mt P w K mg base CT "state" 5 ["self"] (spTState C CT):=by
 refine d.mt z86_ (fun vs H Q E h=>?_) (fun f cdv A outer s H vs Q E hr h=>?_)
 · obtain⟨p,f,m,pc,M,tc,F,rfl,_⟩:=h
   rfl
 obtain⟨p,f,m,pc,M,tc,F,rfl,S,q⟩:=h;obtain⟨t,n,v,FN,FE,X,hF⟩:=id S;obtain⟨dx,hp⟩:=X.ob;have hel:=X.el;refine⟨_,(B.scons (B.set 1 z86_.nd (B.ifx (B.tcmp op_isN (B.fld (B.v 0)) B.non) B.non (B.fn q36_ hr.up (B.cons (B.fld (B.v 0)) B.nil))))
  (B.sone (B.ret (B.tup (B.cons (B.v 1) (B.cons (B.fld (B.v 0)) (B.cons (B.fn q36_ hr.up (B.cons (B.fld (B.v 0)) B.nil)) B.nil))))))),?_⟩
 walk_at "W";refine SW.iFld hp g.cl_Table g.n_Table_elder (tfl_elder ..) ?_;walk_at "W";refine⟨rfl,?_⟩;walk_at "W";have three:(3:Nat)<=sizeLine:=by decide
 cases e:M.el with
 | none=>
   rw[e]at hel;obtain⟨rfl,_⟩:=hel;refine iteT ?_;walk_at "W";refine SW.iFld hp g.cl_Table g.n_Table_moved (tfl_moved ..) ?_;walk_at "W";refine SW.iFld hp g.cl_Table g.n_Table_newer (tfl_newer ..) ?_;walk_at "W";refine wRowsOf X.nw fun v1 H1 s1 u1=>?_;walk_at "W";refine⟨three,fun a ha=>q _ _ (s1.trans (Same.new ha)) ⟨a,_,_,rfl,upd_same,by rw[e];rfl,u1.keep (KeepT.same (Same.new ha))⟩⟩
 | some EE=>
   rw[e]at hel;obtain⟨ea,rfl,SE⟩:=hel;refine iteF ?_;walk_at "W";refine SW.iFld hp g.cl_Table g.n_Table_elder (tfl_elder ..) ?_;walk_at "W";refine wRowsOf SE fun v0 H0 s0 u0=>?_;have hp0:=s0 _ _ hp;walk_at "W";refine SW.iFld hp0 g.cl_Table g.n_Table_moved (tfl_moved ..) ?_;walk_at "W";refine SW.iFld hp0 g.cl_Table g.n_Table_newer (tfl_newer ..) ?_;walk_at "W";refine wRowsOf (X.nw.same s0) fun v1 H1 s1 u1=>?_;walk_at "W";refine⟨three,fun a ha=>q _ _ ((s0.trans s1).trans (Same.new ha)) ⟨a,_,_,rfl,upd_same,by rw[e];exact u0.keep (KeepT.same (s1.trans (Same.new ha))),u1.keep (KeepT.same (Same.new ha))⟩⟩
theorem q71_(d:Dm K CT "sizes" "Table.sizes" z23_ ["self"])(g:Gs K mg C CT cS PS)(q58_:Mt P w K mg base C "size" 1 ["self"] (spSSize C)):Mt P w K mg base CT "sizes" 2 ["self"] (spTSizes C CT):=by
 refine d.mt z84_ (fun vs H Q E h=>?_) (fun f cdv A outer s H vs Q E hr h=>?_)
 · obtain⟨p,f,m,pc,M,tc,F,rfl,_⟩:=h
   rfl
 obtain⟨p,f,m,pc,M,tc,F,rfl,S,q⟩:=h;obtain⟨t,n,v,FN,FE,X,hF⟩:=id S;obtain⟨dx,hp⟩:=X.ob;have hel:=X.el;refine⟨_,(B.sone (B.ret (B.tup (B.cons (B.ifx (B.tcmp op_isN (B.fld (B.v 0)) B.non) B.non (B.meth0 (B.fld (B.v 0)) g.cl_Shelf q58_ hr.up)) (B.cons (B.meth0 (B.fld (B.v 0)) g.cl_Shelf q58_ hr.up) B.nil))))),?_⟩;walk_at "W";refine SW.iFld hp g.cl_Table g.n_Table_elder (tfl_elder ..) ?_;walk_at "W";refine⟨rfl,?_⟩;walk_at "W";have two:(2:Nat)<=sizeLine:=by decide
 cases e:M.el with
 | none=>
   rw[e]at hel q;obtain⟨rfl,_⟩:=hel;refine iteT ?_;walk_at "W";refine SW.iFld hp g.cl_Table g.n_Table_newer (tfl_newer ..) ?_;walk_at "W";refine wS X.nw ⟨by decide +kernel,by decide +kernel,by decide +kernel⟩ ?_
   walk_at "W";refine wSSize X.nw ?_;walk_at "W";exact⟨two,fun a ha=>q a ha⟩
 | some EE=>
   rw[e]at hel q;obtain⟨ea,rfl,SE⟩:=hel;refine iteF ?_;walk_at "W";refine SW.iFld hp g.cl_Table g.n_Table_elder (tfl_elder ..) ?_;walk_at "W";refine wS SE ⟨by decide +kernel,by decide +kernel,by decide +kernel⟩ ?_
   walk_at "W";refine wSSize SE ?_;walk_at "W";refine SW.iFld hp g.cl_Table g.n_Table_newer (tfl_newer ..) ?_;walk_at "W";refine wS X.nw ⟨by decide +kernel,by decide +kernel,by decide +kernel⟩ ?_
   walk_at "W";refine wSSize X.nw ?_;walk_at "W";exact⟨two,fun a ha=>q a ha⟩
def lamP:Pos:=⟨21,42,21,68⟩
def lamQ:Str:=("step":Str) ++ ".<locals>." ++ "<lambda>"
theorem q27_(d:Dfn K mg "place_at" z52_ ["cursor","size"])(g:Gs K mg C CT cS PS)(q32_:Fn P w K mg base "point_of" 1 ["mark"] spPoint)(q28_:Fn P w K mg base "place_of" 1 ["mark","size"] spPlace):Fn P w K mg base "place_at" 2 ["cursor","size"] spPlaceAt:=by
 refine d.fn z113_ (fun vs H Q E h=>?_) (fun f cdv A outer s H vs Q E hr h=>?_)
 · obtain⟨c,n,rfl,_⟩:=h
   rfl
 obtain⟨c,n,rfl,hn,q⟩:=h;refine⟨_,(B.sone (B.ret (B.fn q28_ hr.up (B.cons (B.fn q32_ hr.up (B.cons (B.v 0) B.nil)) (B.cons (B.v 1) B.nil))))),?_⟩;walk_at "W";refine wPoint ?_;walk_at "W";refine wPlace (by omega) ?_
 walk_at "W";exact q
theorem q0_(d:Dfn K mg "point_behind" z54_ ["place","size"])(g:Gs K mg C CT cS PS)(q47_:Fn P w K mg base "stretch_of" 2 ["place","size"] spStretch):Fn P w K mg base "point_behind" 3 ["place","size"] spBehind:=by
 refine d.fn z115_ (fun vs H Q E h=>?_) (fun f cdv A outer s H vs Q E hr h=>?_)
 · obtain⟨p,z,rfl,_⟩:=h
   rfl
 obtain⟨p,z,rfl,hz,q⟩:=h;refine⟨_,(B.sone (B.ret (B.op op_mod (B.op op_add (B.ix ix_tup (B.fn q47_ hr.up (B.cons (B.v 0) (B.cons (B.v 1) B.nil))) B.int) B.int) (B.gint g.c_MARKS)))),?_⟩;walk_at "W";refine wStretch ⟨hz.1,by omega⟩ fun t ht=>?_
 walk_at "W";exact q _ (Same.new ht)
theorem q24_(d:Dfn K mg "parts_left" z51_ ["place","size","cursor"])(g:Gs K mg C CT cS PS)(q47_:Fn P w K mg base "stretch_of" 2 ["place","size"] spStretch):Fn P w K mg base "parts_left" 3 ["place","size","cursor"] spParts:=by
 refine d.fn z112_ (fun vs H Q E h=>?_) (fun f cdv A outer s H vs Q E hr h=>?_)
 · obtain⟨p,z,c,rfl,_⟩:=h
   rfl
 obtain⟨p,z,c,rfl,hz,q⟩:=h;have lim:sizeLine=16777216:=sizeLine_eq;refine⟨_,(B.sone (B.ret (SW.B.compIf [1,2] ["part","size","cursor"] (SW.CompScope.of rfl rfl (by decide +kernel) (by decide +kernel) rfl ⟨rfl,rfl,trivial⟩ rfl rfl rfl) (by decide +kernel) (B.itup (B.tup (B.cons (B.v 0) (B.cons (B.op op_add (B.v 0) (B.v 1)) B.nil)))) (fun _ _ _ _=>(B.tcmp op_ge (B.ix (SW.ix_tupK K) (B.fn q47_ hr.up (B.cons (B.v 0) (B.cons (B.op op_mul (B.v 1) B.int) B.nil))) B.int) (B.v 2))) (fun _ _ _ _=>(B.v 0))))),?_⟩
 walk_at "W";refine⟨by show(2:Nat)<=sizeLine;decide,fun t ht=>?_⟩
 refine⟨t,rfl,⟨_,SqT.of upd_same⟩,fun D hD=>?_⟩;have s1:Same H (upd H t (.tup [.int p,.int (p+z)])):=Same.new ht;have hDn:∀ b o,H b=some o->b≠D:=fun b o e=>ne_of_none e (s1.free hD);have et:upd H t (.tup [.int p,.int (p+z)]) t=some (.tup [.int p,.int (p+z)]):=upd_same;have htD:t≠D:=ne_of_none et hD;have hD0:=s1.free hD;generalize upd H t (.tup [.int p,.int (p+z)])=H1 at *;refine comp_tup (xs:=[p,p+z].map V.int) (fun i σ' H'=>(∃ v:Option V,σ'=[v,some (.int z),some (.int c)])/\Same H1 H'/\H' D=some (.lst ((([p,p+z].take i).filter fun x=>decide (c<=pt x 16+65536 / (z*2) - 1)).map V.int))) ⟨⟨none,rfl⟩,Same.new hD,upd_same⟩ (fun i σ' H' _ ⟨_,s',_⟩=>SqT.of (s' _ _ et)) ?_ ?_
 · rintro i x σ' H' hx hi ⟨⟨v,rfl⟩,s',hD'⟩
   obtain⟨y,rfl⟩:=getInt hx;have hy:[p,p+z][i]?=some y:=by
    rw[List.getElem?_map]at hx;obtain⟨y',e1,e2⟩:=Option.map_eq_some_iff.mp hx;cases e2;exact e1
   have hDn1:∀ b o,H1 b=some o->b≠D:=fun b o e=>ne_of_none e hD;walk_at "W";refine wStretch ⟨by omega,by omega⟩ fun u hu=>?_
   have s2:=Same.new (o:=.tup [.int (pt y 16),.int (pt y 16+65536 / (z*2) - 1)]) hu;walk_at "W";refine ite2 (fun hc=>?_) (fun hc=>?_)
   · walk_at "W"
     refine CN.mk hi (s2 _ _ hD') (by rw[List.length_map];exact Nat.lt_of_le_of_lt (Nat.le_trans (List.length_filter_le ..) (List.length_take_le ..)) (by have:i < 2:=hi;omega)) ⟨⟨_,rfl⟩,fun b o e=>by rw[upd_ne (hDn1 b o e)];exact s2 _ _ (s' _ _ e),?_⟩
     rw[upd_same,take_snocF hy,List.filter_append,List.filter_cons_of_pos (by simpa using hc),List.map_append]
     rfl
   refine CO.mk hi ⟨⟨_,rfl⟩,s'.trans s2,?_⟩;rw[s2 _ _ hD',take_snocF hy,List.filter_append,List.filter_cons_of_neg (by simpa using hc),List.filter_nil,List.append_nil]
 rintro σ' H' ⟨_,s',hD'⟩;walk_at "W";exact q D H' (s1.trans s') hD0 hD'
theorem q45_(d:DfnC K mg "step" z58_ ["table","cursor"] cS)(g:Gs K mg C CT cS PS)(q59_:Mt P w K mg base CT "shelves" 1 ["self"] (spTShelves C CT))(q58_:Mt P w K mg base C "size" 1 ["self"] (spSSize C))(q56_:Mt P w K mg base C "row" 3 ["self","place"] (spSRow C))
 (q27_:Fn P w K mg base "place_at" 2 ["cursor","size"] spPlaceAt) (q25_:Fn P w K mg base "parts_left" 3 ["place","size","cursor"] spParts) (q31_:Fn P w K mg base "point_behind" 3 ["place","size"] spBehind):Fn P w K mg base "step" 5 ["table","cursor"] (spStep C CT PS lamP lamQ):=by
 refine d.fn z119_ (fun vs H Q E h=>?_) (fun f A outer s H vs Q E hr h=>?_)
 · obtain⟨p,cur,f,m,pc,M,tc,F,rfl,_⟩:=h
   rfl
 obtain⟨p,cur,f,m,pc,M,tc,F,rfl,S,T,R,hcn,L,q⟩:=h;have lim:sizeLine=16777216:=sizeLine_eq;have hz:=lessR_size T;have hzb:=hz.bounds;obtain⟨pl0,pl1⟩:=placeA_lt hz.pos cur;have r0le:((lessR M).getD (placeA (lessR M).length cur).toNat []).length<=100000:=Nat.le_trans (Nat.le_trans (len_le_tot _ _) lessR_le) hcn;refine⟨_,(B.scons (B.set 2 z119_.nd (SW.B.sortK (x:="shelf") (k:=1) g.b_sorted g.lam (hr.mono (by decide)) SW.fs (B.meth0 (B.v 0) g.cl_Table q59_ (hr.mono (by decide))) (fun _ _ _ _ _ _ _ hr2=>(B.meth0 (B.v 0) g.cl_Shelf q58_ (hr2.mono (by decide))))))
  (B.scons (B.set 3 z119_.nd (B.meth0 (B.ix ix_list (B.v 2) B.int) g.cl_Shelf q58_ hr.up))
  (B.scons (B.set 4 z119_.nd (B.fn q27_ hr.up (B.cons (B.v 1) (B.cons (B.v 3) B.nil))))
  (B.scons (B.set 5 z119_.nd (B.meth (B.ix ix_list (B.v 2) B.int) g.cl_Shelf q56_ hr.up (B.cons (B.v 4) B.nil)))
  (B.scons (B.fors (B.ilist (B.slice sl_list (B.v 2) (B.part B.int) B.nopart)) (B.gname (i:=6) z119_.nd) (B.sone (B.fors (B.ilist (B.fn q25_ hr.up (B.cons (B.v 4) (B.cons (B.v 3) (B.cons (B.v 1) B.nil))))) (B.gname (i:=7) z119_.nd) (B.sone (B.expr (B.m PySem.F.plainAttrs_list PySem.F.slot_list_extend PySem.F.type_list_extend mt_extend (B.v 5) (B.cons (B.meth (B.v 6) g.cl_Shelf q56_ hr.up (B.cons (B.v 7) B.nil)) B.nil)))))))
  (B.sone (B.ret (B.tup (B.cons (B.fn q31_ hr.up (B.cons (B.v 4) (B.cons (B.v 3) B.nil))) (B.cons (B.v 5) B.nil)))))))))),?_⟩
 walk_at "W";rename_i N hN;have rest:∀(D a:Addr) (gs:List Addr) (FA:Addr->Prop) (H3:Hp),H3 D=some (.lst (.ref a::gs.map V.ref))->Sh C H3 a f m (lessR M) FA->(gs=[]/\moreR M=none ∨ ∃ b G FB,gs=[b]/\moreR M=some G/\Sh C H3 b f m G FB/\G.length=2*(lessR M).length) ->
  LamH lamP lamQ H3 PS->KeepBut PS H H3->(∀ b,H3 b=none->H b=none)->N [some (.ref p),some (.int cur),some (.ref D),none,none,none,none,none] H3:=by
  intro D a gs FA H3 hD SA hg L3 k3 fr3;refine wGo hN ?_;clear hN;have hat:atI (V.ref a::gs.map V.ref) 0=some (V.ref a):=by unfold atI ixN;rw[if_pos (by decide),if_pos (by simp)];rfl
  walk_at "W";refine wIxL hD hat ?_;refine wS SA ⟨by decide +kernel,by decide +kernel,by decide +kernel⟩ ?_
  walk_at "W";refine wSSize SA ?_;walk_at "W";refine wPlaceAt ⟨by omega,by omega⟩ ?_
  walk_at "W";refine wIxL hD hat ?_;refine wS SA ⟨by decide +kernel,by decide +kernel,by decide +kernel⟩ ?_
  walk_at "W";refine wSRow SA pl0 pl1 fun lp xs0 H4 s4 hlp elp ps4=>?_;walk_at "W";refine⟨1,rfl,D,_,rfl,SqL.of (s4 _ _ hD),fun l2 hl2=>?_⟩;have ecut:cutV (V.ref a::gs.map V.ref) (some 1) none=gs.map V.ref:=by
   rcases hg with ⟨rfl,_⟩ | ⟨b,G,FB,rfl,_⟩ <;> rfl
  rw[ecut];have s5:=Same.new (o:=.lst (gs.map V.ref)) hl2;have e5:upd H4 l2 (.lst (gs.map V.ref)) l2=some (.lst (gs.map V.ref)):=upd_same;have nlp2:lp≠l2:=ne_of_none elp hl2;have elp5:=s5 _ _ elp;have s35:=s4.trans s5;have ps5:=ps4.keep fun a xs e=>s5 _ _ e;generalize upd H4 l2 (.lst (gs.map V.ref))=H5 at *;generalize er0:(lessR M).getD (placeA (lessR M).length cur).toNat []=r0 at *;refine⟨l2,rfl,⟨_,SqL.of e5⟩,?_⟩;refine SW.forListC (xs:=gs.map V.ref) (fun i σ H'=>∃(v6 v7:Option V) (xs:List V),σ=[some (.ref p),some (.int cur),some (.ref D),some (.int ((lessR M).length:Nat)),some (.int (placeA (lessR M).length cur)),some (.ref lp),v6,v7]/\KeepBut lp H5 H'/\H' lp=some (.lst xs) /\
   Prs H' xs (r0++(if i=0 then[]else((moreR M).map fun G=>(partsL (placeA (lessR M).length cur) (lessR M).length cur).flatMap fun x=>G.getD x.toNat []).getD []))) ⟨none,none,xs0,rfl,KeepBut.refl _ _,elp5,by rw[if_pos rfl,List.append_nil];exact ps5⟩ ?_ ?_ ?_
  · rintro i σ H' _ ⟨v6,v7,xs,rfl,k',_⟩
    exact SqL.of (k' _ _ nlp2.symm e5)
  · rintro i x σ H6 hx ⟨v6,v7,xs,rfl,k6,elp6,ps6⟩
    rcases hg with ⟨rfl,_⟩ | ⟨b,G,FB,rfl,eG,SB,lG⟩
    · simp at hx
    obtain rfl:i=0:=by
     have:=(List.getElem?_eq_some_iff.mp hx).1;simp at this;exact this
    obtain rfl:V.ref b=x:=by simpa using hx
    have gle:∀ j:Nat,(G.getD j []).length<=100000:=fun j=>Nat.le_trans (Nat.le_trans (len_le_tot _ _) (moreR_le eG)) hcn;rw[if_pos rfl,List.append_nil]at ps6;have np:∀ b,Own3 H3 b->b≠lp:=fun b z y=>by
     subst y;rcases z with ⟨_,_,_,e⟩ | ⟨_,e⟩ | ⟨_,e⟩ <;> rw[hlp]at e <;> cases e
    have SB6:Sh C H6 b f m G FB:=(SB.same s35).keep k6.fr' (fun c hc z=>np c (SB.own3 hc) z) fun c xs e z=>by rw[z,elp5]at e;cases e
    walk_at "W";refine wParts ⟨by omega,by omega⟩ fun l7 H7 s7 hl7 el7=>?_
    have nlp7:lp≠l7:=ne_of_none elp6 hl7;have SB7:=SB6.same s7;have elp7:=s7 _ _ elp6;have ps7:=ps6.keep fun a xs e=>s7 _ _ e;have k7:KeepBut lp H5 H7:=k6.trans (Same.but s7);walk_at "W";refine⟨l7,rfl,⟨_,SqL.of el7⟩,?_⟩;refine SW.forListC (xs:=(partsL (placeA (lessR M).length cur) (lessR M).length cur).map V.int) (fun j σ H'=>∃(v7:Option V) (ys:List V),σ=[some (.ref p),some (.int cur),some (.ref D),some (.int ((lessR M).length:Nat)),some (.int (placeA (lessR M).length cur)),some (.ref lp),some (.ref b),v7]/\KeepBut lp H7 H'/\H' lp=some (.lst ys) /\
     Prs H' ys (r0++((partsL (placeA (lessR M).length cur) (lessR M).length cur).take j).flatMap fun x=>G.getD x.toNat [])/\ys.length<=100000*(1+j)) ⟨_,xs,rfl,KeepBut.refl _ _,elp7,by simpa using ps7,by rw[ps7.len];omega⟩ ?_ ?_ ?_
    · rintro j σ H' _ ⟨v7,ys,rfl,k',_⟩
      exact SqL.of (k' _ _ nlp7.symm el7)
    · rintro j y σ H8 hy ⟨v7,ys,rfl,k8,elp8,ps8,ly⟩
      obtain⟨z,rfl⟩:=getInt hy;have hz8:(partsL (placeA (lessR M).length cur) (lessR M).length cur)[j]?=some z:=by
       rw[List.getElem?_map]at hy;obtain⟨y',e1,e2⟩:=Option.map_eq_some_iff.mp hy;cases e2;exact e1
      have hzm:=partsL_mem (List.mem_of_getElem? hz8);have hj2:j < 2:=Nat.lt_of_lt_of_le (List.getElem?_eq_some_iff.mp hz8).1 (partsL_len _ _ _);have z0:0<=z:=by omega
      have z1:z < G.length:=by omega
      have SB8:Sh C H8 b f m G FB:=SB7.keep k8.fr' (fun c hc y=>np c (SB.own3 hc) y) fun c xs e y=>by rw[y,elp7]at e;cases e
      walk_at "W";refine wBM ?_;walk_at "W";refine⟨.inl ⟨rfl,_,SqL.of elp8⟩,?_⟩;walk_at "W";refine wS SB8 ⟨by decide +kernel,by decide +kernel,by decide +kernel⟩ ?_
      walk_at "W";refine wSRow SB8 z0 z1 fun l9 zs H9 s9 hl9 el9 ps9=>?_;have elp9:=s9 _ _ elp8;have gl:=gle z.toNat;have lz:=ps9.len;walk_at "W";refine⟨lp,l9,ys,zs,rfl,rfl,elp9,el9,by omega,?_⟩
      have ktp:∀ c xs,H9 c=some (.tup xs)->upd H9 lp (.lst (ys++zs)) c=some (.tup xs):=fun c xs e=>by
       rw[upd_ne (fun y=>by rw[y,elp9]at e;cases e)];exact e
      walk_at "W";refine⟨_,ys++zs,rfl,(k8.trans (Same.but s9)).trans KeepBut.at,upd_same,?_,by rw[List.length_append];omega⟩
      rw[flat_snoc hz8,← List.append_assoc];exact paired_append (ps9.keep ktp) ((ps8.keep fun a xs e=>s9 _ _ e).keep ktp)
    rintro σ H8 ⟨v7,ys,rfl,k8,elp8,ps8,ly⟩;walk_at "W";refine⟨_,_,ys,rfl,k7.trans k8,elp8,?_⟩;rw[if_neg (by omega),eG]
    rw[List.length_map,List.take_of_length_le (Nat.le_refl _)]at ps8;exact ps8
  rintro σ H6 ⟨v6,v7,xs,rfl,k6,elp6,ps6⟩;have hfin:r0++(if gs.length=0 then[]else((moreR M).map fun G=>(partsL (placeA (lessR M).length cur) (lessR M).length cur).flatMap fun x=>G.getD x.toNat []).getD [])=r0++((moreR M).map fun G=>(partsL (placeA (lessR M).length cur) (lessR M).length cur).flatMap fun x=>G.getD x.toNat []).getD []:=by
   rcases hg with ⟨rfl,e⟩ | ⟨b,G,FB,rfl,_⟩
   · rw[e];rfl
   rfl
  rw[List.length_map,hfin]at ps6;walk_at "W";refine wBehind ⟨by omega,by omega⟩ fun H7 s7=>?_
  walk_at "W";refine⟨by show(2:Nat)<=sizeLine;decide,fun t ht=>?_⟩
  have s8:=Same.new (o:=.tup [.int (behindA (placeA (lessR M).length cur) (lessR M).length),.ref lp]) ht;have s78:=s7.trans s8;have h6t:=s7.free ht;have h5t:H5 t=none:=by
   cases e:H5 t with
   | none=>rfl
   | some o=>
     by_cases y:t=lp
     · rw[y,elp6]at h6t;cases h6t
     rw[k6 _ _ y e]at h6t;cases h6t
  exact q t lp xs _ (((L3.same s35).but elp5 k6).same s78) (fun b o n e=>s78 _ _ (k6 b o (ne_of_none (k3 b o n e) hlp) (s35 _ _ (k3 b o n e)))) (fr3 _ hlp) (fr3 _ (s35.free h5t)) upd_same (s78 _ _ elp6) (by unfold stepR;rw[er0];exact ps6.keep fun a xs e=>s78 _ _ e)
 clear hN;have fr:∀ H3:Hp,LamH lamP lamQ H3 PS->KeepBut PS H H3 -> ∀ b,H3 b=none->H b=none:=fun H3 L3 k3 b hb=>by
  cases e:H b with
  | none=>rfl
  | some o=>
    by_cases y:b=PS
    · exact absurd (y ▸ hb) L3.live
    rw[k3 b o y e]at hb;cases hb
 obtain⟨t0,n,v,FN,FE,X,hF⟩:=id S;have hel:=X.el;refine wSortK ?_;walk_at "W";refine wT S nt_shelves ?_;walk_at "W";refine wTShelves X fun l hl=>?_;cases e:M.el with
 | none=>
   have e1:lessR M=M.nw:=by unfold lessR;rw[e]
   have e2:moreR M=none:=by unfold moreR;rw[e];rfl
   have s1:=Same.new (o:=.lst [.ref n]) hl;have L1:=L.same s1;refine⟨l,[.ref n],[((M.nw.length:Nat):Int)],rfl,upd_same,rfl,by show(1:Nat) < 64;decide,L1,fun H2 L2 k2=>?_⟩
   have SN2:=(X.nw.same s1).lam L1 k2;refine⟨fun i u k hu hk=>?_,fun D out hD hs=>?_⟩
   · match i,hu,hk with
     | 0,hu,hk=>
       obtain rfl:V.ref n=u:=Option.some.inj hu;obtain rfl:((M.nw.length:Nat):Int)=k:=Option.some.inj hk;walk_at "W";refine wS SN2 ⟨by decide +kernel,by decide +kernel,by decide +kernel⟩ ?_
       walk_at "W";exact wSSize SN2 ⟨rfl,rfl⟩
   obtain rfl:=hs.one;have s3:=Same.new (o:=.lst [.ref n]) hD;have L3:=L2.same s3;have k3:KeepBut PS H _:=fun b o nb eb=>s3 _ _ (k2 b o nb (s1 _ _ eb));walk_at "W";exact rest D n [] FN _ upd_same (e1 ▸ SN2.same s3) (.inl ⟨rfl,e2⟩) L3 k3 (fr _ L3 k3)
 | some E=>
   rw[e]at hel;obtain⟨a,rfl,SE⟩:=hel;have hE:=Rat.two T R e;have s1:=Same.new (o:=.lst [.ref a,.ref n]) hl;have L1:=L.same s1;refine⟨l,[.ref a,.ref n],[((E.length:Nat):Int),((M.nw.length:Nat):Int)],rfl,upd_same,rfl,by show(2:Nat) < 64;decide,L1,fun H2 L2 k2=>?_⟩
   have SN2:=(X.nw.same s1).lam L1 k2;have SE2:=(SE.same s1).lam L1 k2;refine⟨fun i u k hu hk=>?_,fun D out hD hs=>?_⟩
   · match i,hu,hk with
     | 0,hu,hk=>
       obtain rfl:V.ref a=u:=Option.some.inj hu;obtain rfl:((E.length:Nat):Int)=k:=Option.some.inj hk;walk_at "W";refine wS SE2 ⟨by decide +kernel,by decide +kernel,by decide +kernel⟩ ?_
       walk_at "W";exact wSSize SE2 ⟨rfl,rfl⟩
     | 1,hu,hk=>
       obtain rfl:V.ref n=u:=Option.some.inj hu;obtain rfl:((M.nw.length:Nat):Int)=k:=Option.some.inj hk;walk_at "W";refine wS SN2 ⟨by decide +kernel,by decide +kernel,by decide +kernel⟩ ?_
       walk_at "W";exact wSSize SN2 ⟨rfl,rfl⟩
   rcases hE with ⟨h1,h2,h3,h4⟩ | ⟨h1,h2,h3,h4⟩
   · rcases hs.two (by omega)with ⟨y,rfl⟩ | ⟨y,rfl⟩
     · have s3:=Same.new (o:=.lst [.ref a,.ref n]) hD
       have L3:=L2.same s3;have k3:KeepBut PS H _:=fun b o nb eb=>s3 _ _ (k2 b o nb (s1 _ _ eb));walk_at "W";exact rest D a [n] FE _ upd_same (h2 ▸ SE2.same s3) (.inr ⟨n,M.nw,FN,rfl,h3,SN2.same s3,by rw[h2];exact h4⟩) L3 k3 (fr _ L3 k3)
     omega
   rcases hs.two (by omega)with ⟨y,rfl⟩ | ⟨y,rfl⟩
   · omega
   have s3:=Same.new (o:=.lst [.ref n,.ref a]) hD;have L3:=L2.same s3;have k3:KeepBut PS H _:=fun b o nb eb=>s3 _ _ (k2 b o nb (s1 _ _ eb));walk_at "W";exact rest D n [a] FN _ upd_same (h2 ▸ SN2.same s3) (.inr ⟨a,E,FE,rfl,h3,SE2.same s3,by rw[h2];exact h4⟩) L3 k3 (fr _ L3 k3)
theorem q22_(d:Dfn K mg "_law_mixed" z38_ ["cell","k"]):Fn P w K mg base "_law_mixed" 1 ["cell","k"] spMixedP:=by
 refine d.fn z99_ (fun vs H Q E h=>?_) (fun f cdv A outer s H vs Q E hr h=>?_)
 · obtain⟨c,k,rfl,_⟩:=h
   rfl
 obtain⟨c,k,rfl,q⟩:=h;refine⟨_,(B.scons (B.set 2 z99_.nd (B.op op_mod (B.op op_mul (B.op op_add (B.op op_add (B.op op_mod (B.v 0) B.int) (B.op op_mul B.int (B.v 1))) B.int) B.int) B.int))
  (B.scons (B.set 2 z99_.nd (B.op op_mod (B.op op_mul (B.v 2) (B.v 2)) B.int))
  (B.sone (B.ret (B.op op_fdivL (B.op op_mod (B.op op_mul (B.op op_add (B.v 2) (B.op op_mul B.int (B.op op_add (B.v 1) B.int))) B.int) B.int) B.int))))),?_⟩
 walk_at "W";exact q _
theorem q33_(d:Dfn K mg "_law_pot" z42_ ["cell"])(g:Gs K mg C CT cS PS):Fn P w K mg base "_law_pot" 1 ["cell"] spPotP:=by
 refine d.fn z103_ (fun vs H Q E h=>?_) (fun f cdv A outer s H vs Q E hr h=>?_)
 · obtain⟨c,rfl,_⟩:=h
   rfl
 obtain⟨c,rfl,q⟩:=h;refine⟨_,(B.sone (B.ret (B.lst (B.cons (B.op op_mul (B.op op_mod (B.v 0) (B.op op_mulB (B.op op_mulB (B.op op_pow B.int B.int) (B.op op_pow B.int B.int)) (B.op op_pow B.int B.int))) (B.cT call_int1 g.b_int SW.b_int (B.cons (B.cmp op_ge (B.v 0) (B.op op_pow B.int B.int)) B.nil))) (B.cons (B.v 0) (B.cons B.int B.nil)))))),?_⟩;walk_at "W";refine⟨_,_,rfl,rfl,mul_lit,?_⟩;walk_at "W";refine⟨_,_,rfl,rfl,mul_lit2,?_⟩;refine wMod (by decide +kernel) ?_
 walk_at "W";exact⟨by show(3:Nat)<=sizeLine;decide,fun p hp=>q p _ hp (Same.new hp) ⟨_,_,_,upd_same⟩⟩
theorem q48_(d:Dfn K mg "_law_take" z48_ ["pot","many"])(q9_:Fn P w K mg base "_law_mixed" 1 ["cell","k"] spMixedP):Fn P w K mg base "_law_take" 2 ["pot","many"] spTakeP:=by
 refine d.fn z109_ (fun vs H Q E h=>?_) (fun f cdv A outer s H vs Q E hr h=>?_)
 · obtain⟨p,m,rfl,_⟩:=h
   rfl
 obtain⟨p,m,rfl,hm0,hm1,⟨a,b,c,hp⟩,k⟩:=h;refine⟨_,(B.scons (B.asg (B.op op_add (B.ix ix_list (B.v 0) B.int) B.int) (B.gsub (B.v 0) B.int set_list))
  (B.scons (B.ifs (B.tcmp op_gt (B.ix ix_list (B.v 0) B.int) B.int) (B.scons (B.set 2 z109_.nd (B.op op_mod (B.ix ix_list (B.v 0) B.int) (B.v 1)))
  (B.scons (B.asg (B.op op_fdivL (B.ix ix_list (B.v 0) B.int) (B.v 1)) (B.gsub (B.v 0) B.int set_list))
  (B.sone (B.ret (B.v 2))))) B.snil)
  (B.sone (B.ret (B.op op_mod (B.fn q9_ hr.up (B.cons (B.ix ix_list (B.v 0) B.int) (B.cons (B.ix ix_list (B.v 0) B.int) B.nil))) (B.v 1)))))),?_⟩
 walk_at "W";refine ite2 (fun _=>?_) (fun _=>?_)
 · walk_at "W"
   refine k _ _ (Int.emod_nonneg _ (by omega)) (Int.emod_lt_of_pos _ hm0) ⟨_,_,_,upd_same⟩ fun b o n e=>?_
   rw[upd_ne n,upd_ne n];exact e
 walk_at "W";refine wMixedP fun r=>?_;walk_at "W";exact k _ _ (Int.emod_nonneg _ (by omega)) (Int.emod_lt_of_pos _ hm0) ⟨_,_,_,upd_same⟩ KeepBut.at
theorem q50_(d:Dfn K mg "_law_worth" z49_ ["pot"])(q18_:Fn P w K mg base "_law_take" 2 ["pot","many"] spTakeP):Fn P w K mg base "_law_worth" 3 ["pot"] spWorthP:=by
 refine d.fn z110_ (fun vs H Q E h=>?_) (fun f cdv A outer s H vs Q E hr h=>?_)
 · obtain⟨p,rfl,_⟩:=h
   rfl
 obtain⟨p,rfl,hp,k⟩:=h;refine⟨_,(B.sone (B.ret (B.ix ix_list (B.lst (B.cons (B.op op_sub (B.fn q18_ hr.up (B.cons (B.v 0) (B.cons B.int B.nil))) B.int) (B.cons (B.op op_sub (B.op op_pow B.int B.int) (B.fn q18_ hr.up (B.cons (B.v 0) (B.cons (B.op op_add (B.op op_mul B.int (B.op op_pow B.int B.int)) B.int) B.nil)))) (B.cons (B.un un_neg (B.op op_pow B.int B.int)) B.nil)))) (B.fn q18_ hr.up (B.cons (B.v 0) (B.cons B.int B.nil)))))),?_⟩;walk_at "W";refine wTakeP hp (by decide) (by decide) fun r1 H1 a1 b1 R1 K1=>?_
 walk_at "W";refine wTakeP R1 (by decide) (by decide) fun r2 H2 a2 b2 R2 K2=>?_
 walk_at "W";refine⟨by show(3:Nat)<=sizeLine;decide,fun q hq=>?_⟩
 walk_at "W";refine wTakeP (R2.new hq) (by decide) (by decide) fun r5 H5 a5 b5 R5 K5=>?_
 have e5:=K5 q _ (R2.ne0 hq).symm upd_same;obtain⟨v,hv,hm⟩:=atI_in (xs:=[V.int (r1 - 4),V.int (10 ^ (Int.toNat 9) - r2),V.int (-(10 ^ (Int.toNat 9)))]) a5 b5;refine wIxL e5 hv ?_;obtain⟨z,rfl⟩:∃ z,v=V.int z:=by
  simp only[List.mem_cons,List.not_mem_nil,or_false]at hm;rcases hm with rfl | rfl | rfl <;> exact⟨_,rfl⟩
 exact k z H5 R5 ((K1.trans K2).trans ((KeepBut.new hq).trans K5))
theorem q23_(d:Dfn K mg "_law_mixer" z39_ ["pot"])(q18_:Fn P w K mg base "_law_take" 2 ["pot","many"] spTakeP):Fn P w K mg base "_law_mixer" 3 ["pot"] spMixerP:=by
 refine d.fn z100_ (fun vs H Q E h=>?_) (fun f cdv A outer s H vs Q E hr h=>?_)
 · obtain⟨p,rfl,_⟩:=h
   rfl
 obtain⟨p,rfl,hp,k⟩:=h;refine⟨_,(B.scons (B.set 1 z100_.nd (B.lst (B.cons (B.fn q18_ hr.up (B.cons (B.v 0) (B.cons B.int B.nil))) (B.cons (B.fn q18_ hr.up (B.cons (B.v 0) (B.cons B.int B.nil))) B.nil))))
  (B.sone (B.ret (B.ix ix_list (B.lst (B.cons (B.tup (B.cons B.int (B.cons (B.ix ix_list (B.v 1) B.int) B.nil))) (B.cons (B.tup (B.cons B.int (B.cons B.int B.nil))) (B.cons (B.tup (B.cons (B.ix ix_list (B.v 1) B.int) (B.cons (B.ix ix_list (B.v 1) B.int) B.nil))) (B.cons (B.tup (B.cons (B.op op_mul B.int (B.op op_mod (B.ix ix_list (B.v 1) B.int) B.int)) (B.cons (B.ix ix_list (B.v 1) B.int) B.nil))) B.nil))))) (B.fn q18_ hr.up (B.cons (B.v 0) (B.cons B.int B.nil))))))),?_⟩
 walk_at "W";refine wTakeP hp (by decide) (by decide) fun r1 H1 a1 b1 R1 K1=>?_
 walk_at "W";refine wTakeP R1 (by decide) (by decide) fun r2 H2 a2 b2 R2 K2=>?_
 walk_at "W";refine⟨by show(2:Nat)<=sizeLine;decide,fun l hl=>?_⟩
 have k3:KeepBut p H (upd H2 l (.lst [.int r1,.int r2])):=(K1.trans K2).trans (KeepBut.new hl);have e3:upd H2 l (.lst [.int r1,.int r2]) l=some (.lst [.int r1,.int r2]):=upd_same;have R3:=R2.new (o:=.lst [.int r1,.int r2]) hl;generalize upd H2 l (.lst [.int r1,.int r2])=H3 at *;walk_at "W";refine⟨by show(2:Nat)<=sizeLine;decide,fun t1 ht1=>?_⟩
 have s4:=Same.new (o:=.tup [.int 0,.int r2]) ht1;have m4:Mix (upd H3 t1 (.tup [.int 0,.int r2])) t1:=⟨0,r2,upd_same,by decide,by decide,a2,by omega⟩
 have R4:=R3.same s4;have e4:=s4 _ _ e3;have k4:=k3.trans (Same.but s4);generalize upd H3 t1 (.tup [.int 0,.int r2])=H4 at *;walk_at "W";refine⟨by show(2:Nat)<=sizeLine;decide,fun t2 ht2=>?_⟩
 have s5:=Same.new (o:=.tup [.int 1,.int 0]) ht2;have m5:Mix (upd H4 t2 (.tup [.int 1,.int 0])) t2:=⟨1,0,upd_same,by decide,by decide,by decide,by decide⟩
 have R5:=R4.same s5;have e5:=s5 _ _ e4;have k5:=k4.trans (Same.but s5);generalize upd H4 t2 (.tup [.int 1,.int 0])=H5 at *;walk_at "W";refine⟨by show(2:Nat)<=sizeLine;decide,fun t3 ht3=>?_⟩
 have s6:=Same.new (o:=.tup [.int r1,.int r2]) ht3;have m6:Mix (upd H5 t3 (.tup [.int r1,.int r2])) t3:=⟨r1,r2,upd_same,a1,by omega,a2,by omega⟩
 have R6:=R5.same s6;have e6:=s6 _ _ e5;have k6:=k5.trans (Same.but s6);generalize upd H5 t3 (.tup [.int r1,.int r2])=H6 at *;walk_at "W";refine⟨by show(2:Nat)<=sizeLine;decide,fun t4 ht4=>?_⟩
 have s7:=Same.new (o:=.tup [.int (4096*(r1 % 16)),.int r2]) ht4;have m7:Mix (upd H6 t4 (.tup [.int (4096*(r1 % 16)),.int r2])) t4:=⟨_,r2,upd_same,by omega,by omega,a2,by omega⟩
 have R7:=R6.same s7;have k7:=k6.trans (Same.but s7);generalize upd H6 t4 (.tup [.int (4096*(r1 % 16)),.int r2])=H7 at *;walk_at "W";refine⟨by show(4:Nat)<=sizeLine;decide,fun q hq=>?_⟩
 have s8:=Same.new (o:=.lst [.ref t1,.ref t2,.ref t3,.ref t4]) hq;have R8:=R7.same s8;have nq:=(R7.ne0 hq).symm;have e8:upd H7 q (.lst [.ref t1,.ref t2,.ref t3,.ref t4]) q=some (.lst [.ref t1,.ref t2,.ref t3,.ref t4]):=upd_same;have k8:=k7.trans (Same.but s8);generalize upd H7 q (.lst [.ref t1,.ref t2,.ref t3,.ref t4])=H8 at *;walk_at "W";refine wTakeP R8 (by decide) (by decide) fun r9 H9 a9 b9 R9 K9=>?_
 have e9:=K9 _ _ nq e8;obtain⟨v,hv,hm⟩:=atI_in (xs:=[V.ref t1,V.ref t2,V.ref t3,V.ref t4]) a9 b9;refine wIxL e9 hv ?_;have km:∀{t},Mix H8 t->Mix H9 t:=fun {t} ⟨f,m,e,r⟩=>⟨f,m,K9 _ _ (R8.neT e) e,r⟩;simp only[List.mem_cons,List.not_mem_nil,or_false]at hm;have sm:∀{A B:Hp}{t},Same A B->Mix A t->Mix B t:=fun {A B t} s ⟨f,m,e,r⟩=>⟨f,m,s _ _ e,r⟩;rcases hm with rfl | rfl | rfl | rfl
 · exact k t1 H9 (km (sm s8 (sm s7 (sm s6 (sm s5 m4))))) R9 (k8.trans K9)
 · exact k t2 H9 (km (sm s8 (sm s7 (sm s6 m5)))) R9 (k8.trans K9)
 · exact k t3 H9 (km (sm s8 (sm s7 m6))) R9 (k8.trans K9)
 exact k t4 H9 (km (sm s8 m7)) R9 (k8.trans K9)
theorem q5_(d:Dfn K mg "_law_keys" z37_ ["pot","many"])(g:Gs K mg C CT cS PS)(q18_:Fn P w K mg base "_law_take" 2 ["pot","many"] spTakeP):Fn P w K mg base "_law_keys" 3 ["pot","many"] spKeysP:=by
 refine d.fn z98_ (fun vs H Q E h=>?_) (fun f cdv A outer s H vs Q E hr h=>?_)
 · obtain⟨p,n,rfl,_⟩:=h
   rfl
 obtain⟨p,n,rfl,hp,n0,n1,k⟩:=h;have lim:sizeLine=16777216:=sizeLine_eq;refine⟨_,(B.scons (B.set 2 z98_.nd (B.ix ix_list (B.lst (B.cons (B.fn q18_ hr.up (B.cons (B.v 0) (B.cons B.int B.nil))) (B.cons (B.op op_sub (B.op op_pow B.int B.int) (B.fn q18_ hr.up (B.cons (B.v 0) (B.cons B.int B.nil)))) (B.cons (B.fn q18_ hr.up (B.cons (B.v 0) (B.cons (B.op op_add (B.op op_pow B.int B.int) B.int) B.nil))) B.nil)))) (B.fn q18_ hr.up (B.cons (B.v 0) (B.cons B.int B.nil)))))
  (B.scons (B.set 3 z98_.nd (B.ix ix_list (B.lst (B.cons B.int (B.cons B.int (B.cons B.int (B.cons (B.op op_add B.int (B.fn q18_ hr.up (B.cons (B.v 0) (B.cons (B.op op_pow B.int B.int) B.nil)))) B.nil))))) (B.fn q18_ hr.up (B.cons (B.v 0) (B.cons B.int B.nil)))))
  (B.sone (B.ret (SW.B.comp [2,3] ["k","start","by"] (SW.CompScope.of rfl rfl (by decide +kernel) (by decide +kernel) rfl ⟨rfl,rfl,trivial⟩ rfl rfl rfl) (by decide +kernel) (B.irange g.b_range (B.cons (B.v 1) B.nil)) (fun _ _ _ _=>(B.op op_mod (B.op op_add (B.v 1) (B.op op_mul (B.v 2) (B.v 0))) (B.op op_add (B.op op_pow B.int B.int) B.int)))))))),?_⟩
 walk_at "W";refine wTakeP hp (by decide) (by decide) fun r1 H1 a1 b1 R1 K1=>?_
 walk_at "W";refine wTakeP R1 (by decide) (by decide) fun r2 H2 a2 b2 R2 K2=>?_
 walk_at "W";refine wTakeP R2 (by decide) (by decide) fun r3 H3 a3 b3 R3 K3=>?_
 have k3:=(K1.trans K2).trans K3;walk_at "W";refine⟨by show(3:Nat)<=sizeLine;decide,fun q hq=>?_⟩
 walk_at "W";refine wTakeP (R3.new hq) (by decide) (by decide) fun r4 H4 a4 b4 R4 K4=>?_
 have e4:=K4 q _ (R3.ne0 hq).symm upd_same;have k4:=k3.trans ((KeepBut.new hq).trans K4);obtain⟨v,hv,hm⟩:=atI_in (xs:=[V.int r1,V.int (10 ^ (Int.toNat 9) - r2),V.int r3]) a4 b4;refine wIxL e4 hv ?_;obtain⟨z,rfl⟩:∃ z,v=V.int z:=by
  simp only[List.mem_cons,List.not_mem_nil,or_false]at hm;rcases hm with rfl | rfl | rfl <;> exact⟨_,rfl⟩
 clear hv hm e4 K1 K2 K3 K4 R1 R2 R3 k3;walk_at "W";refine wTakeP R4 (by decide) (by decide) fun r5 H5 a5 b5 R5 K5=>?_
 walk_at "W";refine⟨by show(4:Nat)<=sizeLine;decide,fun q2 hq2=>?_⟩
 walk_at "W";refine wTakeP (R5.new hq2) (by decide) (by decide) fun r6 H6 a6 b6 R6 K6=>?_
 have e6:=K6 q2 _ (R5.ne0 hq2).symm upd_same;have k6:=(k4.trans K5).trans ((KeepBut.new hq2).trans K6);obtain⟨v,hv,hm⟩:=atI_in (xs:=[V.int 1,V.int 1,V.int 65536,V.int (1+r5)]) a6 b6;refine wIxL e6 hv ?_;obtain⟨y,rfl,y0,y1⟩:∃ y,v=V.int y/\0<=y/\y<=1000000:=by
  simp only[List.mem_cons,List.not_mem_nil,or_false]at hm;rcases hm with rfl | rfl | rfl | rfl
  · exact⟨_,rfl,by decide,by decide⟩
  · exact⟨_,rfl,by decide,by decide⟩
  · exact⟨_,rfl,by decide,by decide⟩
  exact⟨_,rfl,by omega,by have:r5 < 1000000:=b5;omega⟩
 clear hv hm e6 K5 K6 R5 R4 k4;walk_at "W";refine⟨n,rfl,by omega,by omega,fun D hD=>?_⟩
 have hD0:H D=none:=by
  cases e:H D with
  | none=>rfl
  | some o=>
    by_cases z:D=p
    · exact absurd (z ▸ hD) (by obtain⟨a,b,c,e⟩:=R6;rw[e];simp)
    rw[k6 _ _ z e]at hD;cases hD
 have npD:=(R6.ne0 hD);refine comp_rangeU (fun i σ' H'=>∃(v:Option V) (ks:List Int),σ'=[v,some (.int z),some (.int y)]/\Same H6 H'/\H' D=some (.lst (ks.map V.int))/\ks.length=i) ⟨none,[],rfl,Same.new hD,upd_same,rfl⟩ ?_ ?_
 · rintro i σ' H' hi ⟨v,ks,rfl,s',hD',hl⟩
   walk_at "W";refine CN.mk hi hD' (by rw[List.length_map];omega) ⟨_,ks++[(z+y*(0+(i:Int))) % (10 ^ (Int.toNat 9)+1)],rfl,fun b o e=>by rw[upd_ne (ne_of_none e hD)];exact s' _ _ e,by rw[upd_same,List.map_append];rfl,by rw[List.length_append,hl];rfl⟩
 rintro σ' H' ⟨v,ks,_,s',hD',hl⟩;walk_at "W";exact k D ks H' (R6.same s') (k6.trans (Same.but s')) hD0 hD' (by omega)
theorem band1{x:Int}(h:0<=x):Builtin.bitAnd x 1=x % 2:=by
 have e:Builtin.bitAnd x 1=((x.toNat &&& 1:Nat):Int):=by simp[Builtin.bitAnd,h]
 rw[e,Nat.and_one_is_mod];omega
def spPointL:Sp:=fun vs H Q _=>∃ m:Int,vs=[.int m]/\0<=m/\Q (.int (pt m 16)) H
theorem wPointL{m:Int}{H:Hp}{Q:VK}{E:XK}(h:0<=m)(q:Q (.int (pt m 16)) H):spPointL ([.int m]++[]) H Q E:=⟨m,rfl,h,q⟩
theorem shr_pow{i:Nat}(h:i < 16):(32768:Int) / 2 ^ i=2 ^ (15 - i):=by
 have e:(32768:Int)=2 ^ (15 - i)*2 ^ i:=by rw[← Int.pow_add,Nat.sub_add_cancel (by omega)];rfl
 rw[e];exact Int.mul_ediv_cancel _ (Int.ne_of_gt (two_pos i))
theorem ptl_step{m:Int}{i:Nat}(h:i < 16):pt m i*2 ^ (16 - i)+m / 2 ^ i % 2*2 ^ (15 - i)=pt m (i+1)*2 ^ (16 - (i+1)):=by
 have e1:16 - i=(15 - i)+1:=by omega
 have e2:16 - (i+1)=15 - i:=by omega
 rw[e1,e2,Int.pow_succ];show _=(pt m i*2+m / 2 ^ i % 2)*2 ^ (15 - i);rw[Int.add_mul,Int.mul_assoc (pt m i) 2,Int.mul_comm 2 (2 ^ (15 - i))]
def spDueT:Sp:=fun vs H Q _=>∃(v:V) (cur f m:Int) (M:MT),vs=[v,.int cur]/\StU H v M/\TOk f m M/\SW.Rat M/\SW.cnt M<=100000/\0<=cur/\cur < 65536 /\
 ∀ t l xs H',Same H H'->H l=none->H t=none->H' t=some (.tup [.int (bhd M cur),.ref l])->H' l=some (.lst xs)->Prs H' xs (stepR M cur)->Q (.ref t) H'
theorem wDueT{v:V}{cur f m:Int}{M:MT}{H:Hp}{Q:VK}{E:XK}(u:StU H v M)(T:TOk f m M)(R:SW.Rat M)(hc:SW.cnt M<=100000)(c0:0<=cur)(c1:cur < 65536)
 (k:∀ t l xs H',Same H H'->H l=none->H t=none->H' t=some (.tup [.int (bhd M cur),.ref l])->H' l=some (.lst xs)->Prs H' xs (stepR M cur)->Q (.ref t) H'):spDueT ([v,.int cur]++[]) H Q E:=⟨v,cur,f,m,M,rfl,u,T,R,hc,c0,c1,k⟩
def spCursorP:Sp:=fun vs H Q _=>∃ p:Addr,vs=[.ref p]/\Pot H p /\ ∀ c H',0<=c->c < 65536->Pot H' p->KeepBut p H H'->Q (.int c) H'
theorem wCursorP{p:Addr}{H:Hp}{Q:VK}{E:XK}(hp:Pot H p)(k:∀ c H',0<=c->c < 65536->Pot H' p->KeepBut p H H'->Q (.int c) H'):spCursorP ([.ref p]++[]) H Q E:=⟨p,rfl,hp,k⟩
theorem rows_at{H:Hp}{v:V}{R:MRows}{i:Int}(h:RowsU H v R)(h0:0<=i)(h1:i < R.length):∃ b ys c zs,v=.ref b/\H b=some (.tup ys)/\atI ys i=some (.ref c)/\H c=some (.tup zs)/\Prs H zs (R.getD i.toNat []):=by
 obtain⟨b,ys,rfl,hb,hp⟩:=h;have hl:=paired_len hp;have hi:i.toNat < ys.length:=by omega
 have ex:ys[i.toNat]?=some ys[i.toNat]:=List.getElem?_eq_getElem hi;obtain⟨r,hr,c,zs,ec,hc,hz⟩:=paired_get hp ex;refine⟨b,ys,c,zs,rfl,hb,?_,hc,?_⟩
 · have:=atI_nat ex
   rw[Int.toNat_of_nonneg h0]at this;rw[this,ec]
 rw[List.getD_eq_getElem?_getD,hr];exact hz
theorem rows_all{H:Hp}{v:V}{R:MRows}(h:RowsU H v R):∃ b ys,v=.ref b/\H b=some (.tup ys)/\ys.length=R.length /\ ∀ i:Int,0<=i->i < R.length -> ∃ c zs,atI ys i=some (.ref c)/\H c=some (.tup zs)/\Prs H zs (R.getD i.toNat []):=by
 obtain⟨b,ys,rfl,hb,hp⟩:=h;have hl:=paired_len hp;refine⟨b,ys,rfl,hb,hl,fun i h0 h1=>?_⟩;have hi:i.toNat < ys.length:=by omega
 have ex:ys[i.toNat]?=some ys[i.toNat]:=List.getElem?_eq_getElem hi;obtain⟨r,hr,c,zs,ec,hc,hz⟩:=paired_get hp ex;refine⟨c,zs,?_,hc,?_⟩
 · have:=atI_nat ex
   rw[Int.toNat_of_nonneg h0]at this;rw[this,ec]
 rw[List.getD_eq_getElem?_getD,hr];exact hz
theorem rows_len{H:Hp}{v:V}{R:MRows}(h:RowsU H v R):∃ b ys,v=.ref b/\H b=some (.tup ys)/\ys.length=R.length:=by
 obtain⟨b,ys,rfl,hb,hp⟩:=h;exact⟨b,ys,rfl,hb,paired_len hp⟩
theorem q30_(d:Dfn K mg "_law_point" z41_ ["mark"])(g:Gs K mg C CT cS PS):Fn P w K mg base "_law_point" 1 ["mark"] spPointL:=by
 refine d.fn z102_ (fun vs H Q E h=>?_) (fun f cdv A outer s H vs Q E hr h=>?_)
 · obtain⟨k,rfl,_⟩:=h
   rfl
 obtain⟨m,rfl,h0,q⟩:=h;refine⟨_,(B.scons (B.set 1 z102_.nd B.int)
  (B.scons (B.fors (B.irange g.b_range (B.cons B.int B.nil)) (B.gname (i:=2) z102_.nd) (B.sone (B.set 1 z102_.nd (B.op op_add (B.v 1) (B.op op_mul (B.op op_and (B.op op_shr (B.v 0) (B.v 2)) B.int) (B.op op_shr B.int (B.v 2)))))))
  (B.sone (B.ret (B.v 1))))),?_⟩
 walk_at "W";refine⟨16,rfl,by decide,by decide,for_range (n:=16) (fun i σ H'=>∃ v,σ=[some (.int m),some (.int (pt m i*2 ^ (16 - i))),v]/\H'=H) ⟨none,rfl,rfl⟩ ?_ ?_⟩
 · rintro i σ H' hi ⟨v,rfl,rfl⟩
   have e:(0+(i:Int)).toNat=i:=by omega
   have hm:0<=m / 2 ^ i:=Int.ediv_nonneg h0 (Int.le_of_lt (two_pos i));walk_at "W";rw[e,band1 hm,shr_pow hi];have hb:=bit01 (m / 2 ^ i);refine⟨_,_,rfl,rfl,.inl ⟨by omega,by omega⟩,?_⟩
   walk_at "W";exact⟨_,by rw[ptl_step hi];rfl,rfl⟩
 rintro σ H' ⟨v,rfl,rfl⟩;walk_at "W";have e:pt m 16*2 ^ (16 - 16)=pt m 16:=by rw[Nat.sub_self,Int.pow_zero,Int.mul_one]
 rw[e];exact q
theorem q1_(d:Dfn K mg "_law_cursor" z33_ ["pot"])(g:Gs K mg C CT cS PS)(q18_:Fn P w K mg base "_law_take" 2 ["pot","many"] spTakeP):Fn P w K mg base "_law_cursor" 3 ["pot"] spCursorP:=by
 refine d.fn z94_ (fun vs H Q E h=>?_) (fun f cdv A outer s H vs Q E hr h=>?_)
 · obtain⟨p,rfl,_⟩:=h
   rfl
 obtain⟨p,rfl,hp,k⟩:=h;refine⟨_,(B.scons (B.set 1 z94_.nd (B.op op_mul B.int (B.fn q18_ hr.up (B.cons (B.v 0) (B.cons B.int B.nil)))))
  (B.scons (B.set 2 z94_.nd (B.lst (B.cons B.int (B.cons (B.fn q18_ hr.up (B.cons (B.v 0) (B.cons B.int B.nil))) (B.cons (B.v 1) (B.cons (B.op op_mod (B.op op_add (B.v 1) B.int) B.int) (B.cons (B.op op_add (B.v 1) B.int) (B.cons B.int B.nil))))))))
  (B.sone (B.ret (B.ix ix_list (B.v 2) (B.fn q18_ hr.up (B.cons (B.v 0) (B.cons B.int B.nil)))))))),?_⟩
 walk_at "W";refine wTakeP hp (by decide) (by decide) fun r1 H1 a1 b1 R1 K1=>?_
 walk_at "W";refine wTakeP R1 (by decide) (by decide) fun r2 H2 a2 b2 R2 K2=>?_
 walk_at "W";refine⟨by show(6:Nat)<=sizeLine;decide,fun q hq=>?_⟩
 have nq:=(R2.ne0 hq).symm;have R3:=R2.new (o:=.lst [.int 0,.int r2,.int (4096*r1),.int ((4096*r1+65535) % 65536),.int (4096*r1+1),.int 65535]) hq;have K3:=KeepBut.new (p:=p) (o:=.lst [.int 0,.int r2,.int (4096*r1),.int ((4096*r1+65535) % 65536),.int (4096*r1+1),.int 65535]) hq;have e3:upd H2 q (.lst [.int 0,.int r2,.int (4096*r1),.int ((4096*r1+65535) % 65536),.int (4096*r1+1),.int 65535]) q=some (.lst [.int 0,.int r2,.int (4096*r1),.int ((4096*r1+65535) % 65536),.int (4096*r1+1),.int 65535]):=upd_same;generalize upd H2 q (.lst [.int 0,.int r2,.int (4096*r1),.int ((4096*r1+65535) % 65536),.int (4096*r1+1),.int 65535])=H3 at *;walk_at "W";refine wTakeP R3 (by decide) (by decide) fun r4 H4 a4 b4 R4 K4=>?_
 obtain⟨v,hv,hm⟩:=atI_in (xs:=[V.int 0,V.int r2,V.int (4096*r1),V.int ((4096*r1+65535) % 65536),V.int (4096*r1+1),V.int 65535]) a4 b4;refine wIxL (K4 _ _ nq e3) hv ?_;obtain⟨z,rfl,z0,z1⟩:∃ z,v=V.int z/\0<=z/\z < 65536:=by
  simp only[List.mem_cons,List.not_mem_nil,or_false]at hm;rcases hm with rfl | rfl | rfl | rfl | rfl | rfl <;> exact⟨_,rfl,by omega,by omega⟩
 exact k z H4 z0 z1 R4 ((K1.trans K2).trans (K3.trans K4))
theorem q2_(d:Dfn K mg "_law_due" z36_ ["state","cursor"])(g:Gs K mg C CT cS PS)(q11_:Fn P w K mg base "_law_point" 1 ["mark"] spPointL):Fn P w K mg base "_law_due" 2 ["state","cursor"] spDueT:=by
 refine d.fn z97_ (fun vs H Q E h=>?_) (fun f cdv A outer s H vs Q E hr h=>?_)
 · obtain⟨v,cur,f,m,M,rfl,_⟩:=h
   rfl
 obtain⟨v,cur,f,m,M,rfl,⟨st,ev,nv,rfl,hst,he,hn⟩,T,R,hc,c0,c1,k⟩:=h;have lim:sizeLine=16777216:=sizeLine_eq;have hz:=lessR_size T;have hzb:=hz.bounds;have BB:=Bits.of hz c0 c1;obtain⟨pl0,pl1⟩:=placeA_lt hz.pos cur;have r0le:((lessR M).getD (placeA (lessR M).length cur).toNat []).length<=100000:=Nat.le_trans (Nat.le_trans (len_le_tot _ _) lessR_le) hc;obtain⟨nb,ny,rfl,hnb,hnl⟩:=rows_len hn;refine⟨_,(B.scons (B.asg (B.v 0) (B.gtup (B.gcons (B.gname (i:=2) z97_.nd) (B.gcons (B.gname (i:=3) z97_.nd) (B.gcons (B.gname (i:=4) z97_.nd) B.gnil)))))
  (B.scons (SW.B.par (i:=5) (j:=6) z97_.nd (B.cons (B.v 4) (B.cons (B.v 2) B.nil)))
  (B.scons (B.ifs (B.tw (B.wand (B.tcmp op_notN (B.v 2) B.non) (B.wand1 (B.tcmp op_lt (B.cB call_len_seq g.b_len SW.b_len (B.cons (B.v 2) B.nil)) (B.cB call_len_seq g.b_len SW.b_len (B.cons (B.v 4) B.nil)))))) (B.sone (SW.B.par (i:=5) (j:=6) z97_.nd (B.cons (B.v 2) (B.cons (B.v 4) B.nil)))) B.snil)
  (B.scons (B.set 7 z97_.nd (B.cB call_len_seq g.b_len SW.b_len (B.cons (B.v 5) B.nil)))
  (B.scons (B.set 8 z97_.nd (B.op op_fdivL B.int (B.v 7)))
  (B.scons (B.set 9 z97_.nd (B.op op_sub (B.v 1) (B.op op_mod (B.v 1) (B.v 8))))
  (B.scons (B.set 10 z97_.nd (B.cT call_list_of g.b_list SW.b_list (B.cons (B.ix ix_tup (B.v 5) (B.op op_mod (B.fn q11_ hr.up (B.cons (B.v 9) B.nil)) (B.v 7))) B.nil)))
  (B.scons (B.fors (B.irange g.b_range (B.cons (B.op op_mul B.int (B.cT call_int1 g.b_int SW.b_int (B.cons (B.cmp op_notN (B.v 6) B.non) B.nil))) B.nil)) (B.gname (i:=11) z97_.nd) (B.scons (B.set 12 z97_.nd (B.op op_add (B.v 9) (B.op op_mul (B.v 11) (B.op op_fdivL (B.v 8) B.int))))
  (B.sone (B.ifs (B.tcmp op_gt (B.op op_add (B.v 12) (B.op op_fdivL (B.v 8) B.int)) (B.v 1)) (B.sone (B.set 10 z97_.nd (B.op op_cat (B.v 10) (B.cT call_list_of g.b_list SW.b_list (B.cons (B.ix ix_tup (B.v 6) (B.op op_mod (B.fn q11_ hr.up (B.cons (B.v 12) B.nil)) (B.op op_mul B.int (B.v 7)))) B.nil))))) B.snil))))
  (B.sone (B.ret (B.tup (B.cons (B.op op_mod (B.op op_add (B.v 9) (B.v 8)) B.int) (B.cons (B.v 10) B.nil))))))))))))),?_⟩
 walk_at "W";refine⟨st,_,rfl,SqT.of hst,rfl,_,_,rfl,_,_,rfl,_,_,rfl,rfl,?_⟩;walk_at "W";refine⟨_,rfl,_,rfl,_,_,rfl,?_⟩;walk_at "W1";refine wSeqC fun N hN=>?_;have rest:∀(H2:Hp) (lv gv:V),Same H H2->RowsU H2 lv (lessR M)->(gv=.non/\moreR M=none ∨ ∃ G,gv ≠ .non/\moreR M=some G/\RowsU H2 gv G/\G.length=2*(lessR M).length) ->
  N [some (.ref st),some (.int cur),some ev,some (.int (M.mv:Nat)),some (.ref nb),some lv,some gv,none,none,none,none,none,none] H2:=by
  intro H2 lv gv s2 hlv hgv;refine wGo hN ?_;clear hN;obtain⟨lb,ly,rfl,hlb,hll,hlat⟩:=rows_all hlv;have hw:(0:Int) < 65536 / ((lessR M).length:Nat):=by have:=BB.w0;omega
  walk_at "W";refine SW.iLen (.inr (SqT.of hlb)) ?_;rw[hll];walk_at "W";refine wPointL BB.f0.1 ?_;walk_at "W";obtain⟨c3,zs3,at3,hc3,hz3⟩:=hlat _ pl0 pl1;rw[← BB.p1]at at3;refine⟨lb,_,_,_,rfl,rfl,SqT.of hlb,at3,?_⟩;walk_at "W";refine⟨c3,zs3,rfl,.inr (SqT.of hc3),fun lp hlp=>?_⟩;have s4:=Same.new (o:=.lst zs3) hlp;have e4:upd H2 lp (.lst zs3) lp=some (.lst zs3):=upd_same;have z4:=hz3.keep (SW.Same.tk s4);have hlp0:=s2.free hlp;have s24:=s2.trans s4;have hgv4:gv=.non/\moreR M=none ∨ ∃ G,gv ≠ .non/\moreR M=some G/\RowsU (upd H2 lp (.lst zs3)) gv G/\G.length=2*(lessR M).length:=by
   rcases hgv with z | ⟨G,z1,z2,⟨b,ys,e,hb,hp⟩,z4⟩
   · exact .inl z
   exact .inr ⟨G,z1,z2,⟨b,ys,e,s4 _ _ hb,Paired.mapP hp fun _ _ y=>RowU.keep y (KeepT.same s4)⟩,z4⟩
  generalize upd H2 lp (.lst zs3)=H4 at *;clear hgv hlat hlb hlv;obtain⟨nn,enn,hgn⟩:∃ nn:Nat,(2*(if(!decide (gv=V.non))=true then(1:Int)else 0))=(nn:Int)/\((nn=0/\moreR M=none)∨(nn=2 /\ ∃ G,moreR M=some G/\RowsU H4 gv G/\G.length=2*(lessR M).length)):=by
   rcases hgv4 with ⟨z1,z2⟩ | ⟨G,z1,z2,z3,z4⟩
   · exact⟨0,by rw[z1];rfl,.inl ⟨rfl,z2⟩⟩
   exact⟨2,by rw[decide_eq_false z1];rfl,.inr ⟨rfl,G,z2,z3,z4⟩⟩
  walk_at "W";refine⟨rfl,?_⟩;walk_at "W";refine⟨(nn:Int),by rw[enn],by omega,by omega,?_⟩
  generalize er0:(lessR M).getD (placeA (lessR M).length cur).toNat []=r0 at *;refine SW.forRangeC (fun j σ H'=>∃(lq:Addr) (xs:List V) (v11 v12:Option V),σ=[some (.ref st),some (.int cur),some ev,some (.int (M.mv:Nat)),some (.ref nb),some (.ref lb),some gv,some (.int ((lessR M).length:Nat)),some (.int (65536 / ((lessR M).length:Nat))),some (.int (cur - cur % (65536 / ((lessR M).length:Nat)))),some (.ref lq),v11,v12]/\Same H4 H'/\H lq=none/\H' lq=some (.lst xs) /\
   Prs H' xs (r0++((moreR M).map fun G=>(([placeA (lessR M).length cur,placeA (lessR M).length cur+((lessR M).length:Nat)].take j).filter fun x=>decide (cur<=pt x 16+65536 / (((lessR M).length:Nat)*2) - 1)).flatMap fun x=>G.getD x.toNat []).getD [])/\xs.length<=100000*(1+j)) ⟨lp,zs3,none,none,rfl,Same.refl _,hlp0,e4,?_,?_⟩ ?_ ?_
  · rw[show((moreR M).map fun G=>(([placeA (lessR M).length cur,placeA (lessR M).length cur+((lessR M).length:Nat)].take 0).filter fun x=>decide (cur<=pt x 16+65536 / (((lessR M).length:Nat)*2) - 1)).flatMap fun x=>G.getD x.toNat []).getD []=[] by cases moreR M <;> rfl,List.append_nil]
    exact z4
  · rw[z4.len];omega
  · rintro j σ H5 hj ⟨lq,xs,v11,v12,rfl,s5,hlq,e5,z5,l5⟩
    rcases hgn with ⟨rfl,_⟩ | ⟨rfl,G,eG,hG,lG⟩
    · omega
    have hj2:j < 2:=hj;have hG5:RowsU H5 gv G:=by
     obtain⟨b,ys,e,hb,hp⟩:=hG;exact⟨b,ys,e,s5 _ _ hb,Paired.mapP hp fun _ _ y=>RowU.keep y (KeepT.same s5)⟩
    obtain⟨gb,gy,rfl,hgb,hgl,hgat⟩:=rows_all hG5;have gle:∀ j:Nat,(G.getD j []).length<=100000:=fun j=>Nat.le_trans (Nat.le_trans (len_le_tot _ _) (moreR_le eG)) hc;have w0:=BB.w0;have f0:=BB.f0;obtain⟨x,ex,x0,x1,px,qx⟩:∃ x:Int,[placeA (lessR M).length cur,placeA (lessR M).length cur+((lessR M).length:Nat)][j]?=some x/\0<=x/\x < G.length/\pt (cur - cur % (65536 / ((lessR M).length:Nat))+(0+(j:Int))*(65536 / ((lessR M).length:Nat) / 2)) 16 % (2*((lessR M).length:Nat))=x/\pt x 16=cur - cur % (65536 / ((lessR M).length:Nat))+(0+(j:Int))*(65536 / ((lessR M).length:Nat) / 2):=by
     match j,hj2 with
     | 0,_=>exact⟨_,rfl,pl0,by omega,by rw[show(0+((0:Nat):Int))=0 from rfl,Int.zero_mul,Int.add_zero];exact BB.p2,by rw[show(0+((0:Nat):Int))=0 from rfl,Int.zero_mul,Int.add_zero];exact BB.p4⟩
     | 1,_=>exact⟨_,rfl,by omega,by omega,by rw[show(0+((1:Nat):Int))=1 from rfl,Int.one_mul];exact BB.p3,by rw[show(0+((1:Nat):Int))=1 from rfl,Int.one_mul];exact BB.p5⟩
    have b0:0<=cur - cur % (65536 / ((lessR M).length:Nat))+(0+(j:Int))*(65536 / ((lessR M).length:Nat) / 2):=by
     rw[← qx];exact(pt_range x 16).1
    have etk:(([placeA (lessR M).length cur,placeA (lessR M).length cur+((lessR M).length:Nat)].take (j+1)).filter fun x=>decide (cur<=pt x 16+65536 / (((lessR M).length:Nat)*2) - 1))=(([placeA (lessR M).length cur,placeA (lessR M).length cur+((lessR M).length:Nat)].take j).filter fun x=>decide (cur<=pt x 16+65536 / (((lessR M).length:Nat)*2) - 1))++[x].filter fun x=>decide (cur<=pt x 16+65536 / (((lessR M).length:Nat)*2) - 1):=by
     rw[take_snocF ex,List.filter_append]
    rw[BB.w3]at etk;rw[BB.w3]at z5 ⊢;rw[eG]at z5 ⊢;walk_at "W";refine ite2 (fun hcur=>?_) (fun hcur=>?_)
    · have hcur:cur<=pt x 16+65536 / ((lessR M).length:Nat) / 2 - 1:=by
       have:=of_decide_eq_true hcur;rw[qx];omega
      obtain⟨c6,zs6,at6,hc6,hz6⟩:=hgat x x0 x1;rw[← px]at at6;walk_at "W";refine wPointL b0 ?_;walk_at "W";refine⟨gb,_,_,_,rfl,rfl,SqT.of hgb,at6,?_⟩;walk_at "W";refine⟨c6,zs6,rfl,.inr (SqT.of hc6),fun l6 hl6=>?_⟩;have s6:=Same.new (o:=.lst zs6) hl6;have u6:upd H5 l6 (.lst zs6) l6=some (.lst zs6):=upd_same;have e6:=s6 _ _ e5;have gl:=gle x.toNat;have lz:=hz6.len;have z6:=hz6.keep (SW.Same.tk s6);have y6:=z5.keep (SW.Same.tk s6);generalize upd H5 l6 (.lst zs6)=H6 at *;walk_at "W";refine⟨lq,l6,_,_,rfl,rfl,e6,u6,by omega,fun l7 hl7=>?_⟩
      have s7:=Same.new (o:=.lst (xs++zs6)) hl7;have s57:=(s5.trans s6).trans s7;walk_at "W";refine⟨l7,xs++zs6,_,_,rfl,s57,s24.free ((s5.trans s6).free hl7),upd_same,?_,by rw[List.length_append];omega⟩
      show Prs _ _ (r0++(List.filter _ (List.take (j+1) _)).flatMap _);rw[etk,List.filter_cons_of_pos (by simpa using hcur),List.filter_nil,List.flatMap_append,List.flatMap_cons,List.flatMap_nil,List.append_nil,← List.append_assoc]
      exact paired_append (z6.keep (SW.Same.tk s7)) (y6.keep (SW.Same.tk s7))
    have hcur:¬ cur<=pt x 16+65536 / ((lessR M).length:Nat) / 2 - 1:=by
     have:¬ _ < _:=fun z=>hcur (decide_eq_true z);rw[qx];omega
    walk_at "W";refine⟨lq,xs,_,_,rfl,s5,hlq,e5,?_,by omega⟩
    show Prs _ _ (r0++(List.filter _ (List.take (j+1) _)).flatMap _);rw[etk,List.filter_cons_of_neg (by simpa using hcur),List.filter_nil,List.append_nil]
    exact z5
  rintro σ H5 ⟨lq,xs,v11,v12,rfl,s5,hlq,e5,z5,l5⟩;walk_at "W";refine⟨by show(2:Nat)<=sizeLine;decide,fun t6 ht6=>?_⟩
  have eb:(cur - cur % (65536 / ((lessR M).length:Nat))+65536 / ((lessR M).length:Nat)) % 65536=bhd M cur:=by
   unfold bhd behindA;rw[BB.p4]
   congr 1
   omega
  rw[eb];have s6:=Same.new (o:=.tup [.int (bhd M cur),.ref lq]) ht6;have s06:=s24.trans (s5.trans s6);refine k t6 lq xs _ s06 hlq (s24.free (s5.free ht6)) upd_same (s6 _ _ e5) (Prs.keep ?_ (SW.Same.tk s6));unfold stepR;rw[er0];rcases hgn with ⟨rfl,eN⟩ | ⟨rfl,G,eG,_⟩
  · rw[eN]at z5 ⊢
    exact z5
  rw[eG]at z5 ⊢;exact z5
 clear hN;have el0:∀ E,M.el=some E->RowsU H ev E:=fun E e=>by rw[e]at he;exact he
 cases e:M.el with
 | none=>
   rw[e]at he;obtain rfl:ev=.non:=he;have l1:lessR M=M.nw:=by unfold lessR;rw[e]
   have l2:moreR M=none:=by unfold moreR;rw[e];rfl
   walk_at "W";refine⟨rfl,?_⟩;walk_at "W";refine iteF ?_;walk_at "W";exact rest H (.ref nb) .non (Same.refl _) (by rw[l1];exact hn) (.inl ⟨rfl,l2⟩)
 | some E=>
   have hE:=el0 E e;obtain⟨eb,ey,rfl,heb,hel⟩:=rows_len hE;walk_at "W";refine⟨rfl,?_⟩;walk_at "W";refine iteT ?_;walk_at "W";refine SW.iLen (.inr (SqT.of heb)) ?_;walk_at "W";refine SW.iLen (.inr (SqT.of hnb)) ?_;walk_at "W";rcases Rat.two T R e with ⟨h1,h2,h3,h4⟩ | ⟨h1,h2,h3,h4⟩
   · refine iteY (by omega) ?_
     walk_at "W";refine⟨_,rfl,_,rfl,_,_,rfl,?_⟩;walk_at "W";exact rest H (.ref eb) (.ref nb) (Same.refl _) (by rw[h2];exact hE) (.inr ⟨M.nw,(fun z=>by cases z),h3,hn,by rw[h2];exact h4⟩)
   refine iteNo (by omega) ?_
   walk_at "W";exact rest H (.ref nb) (.ref eb) (Same.refl _) (by rw[h2];exact hn) (.inr ⟨E,(fun z=>by cases z),h3,hE,by rw[h2];exact h4⟩)
theorem q39_(d:Dfn K mg "_law_same" z45_ ["found","due"])(k:Nat):Fn P w K mg base "_law_same" (k+1) ["found","due"] (spAlikeD K 0):=
 d.fn z106_ (fun vs H Q E ⟨_,_,_,h,_⟩=>h.elim) (fun f cdv A outer s H vs Q E hr ⟨_,_,_,h,_⟩=>h.elim)
theorem q40_(d:Dfn K mg "_law_same" z45_ ["found","due"])(g:Gs K mg C CT cS PS){n k:Nat}(q15_:Fn P w K mg base "_law_same" (k+1) ["found","due"] (spAlikeD K n)):Fn P w K mg base "_law_same" (k+2) ["found","due"] (spAlikeD K (n+1)):=by
 refine d.fn z106_ (fun vs H Q E h=>?_) (fun f cdv A outer s H vs Q E hr h=>?_)
 · obtain⟨x,y,rfl,_⟩:=h
   rfl
 obtain⟨x,y,rfl,h,q⟩:=h;refine⟨_,(B.scons (B.ifs (B.tcmp op_isN (B.v 1) B.non) (B.sone (B.ret (B.cmp op_isN (B.v 0) B.non))) B.snil)
  (B.scons (B.ifs (B.tval (B.cB SW.call_isi g.b_isinstance SW.b_isinstance (B.cons (B.v 1) (B.cons (B.ty g.b_str SW.b_str) B.nil)))) (B.sone (B.ret (B.and (B.cB SW.call_isi g.b_isinstance SW.b_isinstance (B.cons (B.v 0) (B.cons (B.ty g.b_str SW.b_str) B.nil))) (B.one (B.cmp op_eq (B.v 0) (B.v 1)))))) B.snil)
  (B.scons (B.ifs (B.tval (B.cB SW.call_isi g.b_isinstance SW.b_isinstance (B.cons (B.v 1) (B.cons (B.ty g.b_int SW.b_int) B.nil)))) (B.sone (B.ret (B.and (B.cB SW.call_isi g.b_isinstance SW.b_isinstance (B.cons (B.v 0) (B.cons (B.ty g.b_int SW.b_int) B.nil))) (B.and (B.not (B.cB SW.call_isi g.b_isinstance SW.b_isinstance (B.cons (B.v 0) (B.cons (B.ty g.b_bool SW.b_bool) B.nil)))) (B.one (B.cmp op_eq (B.v 0) (B.v 1))))))) B.snil)
  (B.scons (B.ifs (B.tval (B.cB SW.call_isi g.b_isinstance SW.b_isinstance (B.cons (B.v 1) (B.cons (B.ty g.b_tuple SW.b_tuple) B.nil)))) (B.sone (B.ifs (B.tnot (B.tval (B.cB SW.call_isi g.b_isinstance SW.b_isinstance (B.cons (B.v 0) (B.cons (B.ty g.b_tuple SW.b_tuple) B.nil))))) (B.sone (B.ret B.bl)) B.snil)) (B.sone (B.ifs (B.tnot (B.tval (B.cB SW.call_isi g.b_isinstance SW.b_isinstance (B.cons (B.v 0) (B.cons (B.ty g.b_list SW.b_list) B.nil))))) (B.sone (B.ret B.bl)) B.snil)))
  (B.scons (B.ifs (B.tcmp op_ne (B.cB call_len_seq g.b_len SW.b_len (B.cons (B.v 0) B.nil)) (B.cB SW.call_lenB g.b_len SW.b_len (B.cons (B.v 1) B.nil))) (B.sone (B.ret B.bl)) B.snil)
  (B.scons (B.fors (B.irange g.b_range (B.cons (B.cB SW.call_lenB g.b_len SW.b_len (B.cons (B.v 1) B.nil)) B.nil)) (B.gname (i:=2) z106_.nd) (B.sone (B.ifs (B.tnot (B.tval (B.fn q15_ hr.up (B.cons (B.ix (SW.ix_any) (B.v 0) (B.v 2)) (B.cons (B.ix (SW.ix_any) (B.v 1) (B.v 2)) B.nil))))) (B.sone (B.ret B.bl)) B.snil)))
  (B.sone (B.ret B.bl)))))))),?_⟩
 cases (show Ty (TyN K n) K H x y from h)with
 | non=>
   walk_at "W";refine⟨rfl,?_⟩;walk_at "W";refine iteT ?_;walk_at "W";exact⟨rfl,q H (Same.refl H)⟩
 | int z=>
   walk_at "W";refine⟨rfl,?_⟩;walk_at "W";refine iteF ?_;walk_at "W";refine SW.iIsi (.int z) isi_int_str ?_;walk_at "W";refine iteF ?_;walk_at "W";refine SW.iIsi (.int z) isi_int_int ?_;walk_at "W";refine iteT ?_;walk_at "W";refine SW.iIsi (.int z) isi_int_int ?_;walk_at "W";refine iteT ?_;walk_at "W";refine SW.iIsi (.int z) isi_int_bool ?_;walk_at "W";refine iteT ?_;walk_at "W";show Q (.bl (decide (V.int z=V.int z))) H;rw[decide_eq_true rfl];exact q H (Same.refl H)
 | str z=>
   walk_at "W";refine⟨rfl,?_⟩;walk_at "W";refine iteF ?_;walk_at "W";refine SW.iIsi (.str z) isi_str_str ?_;walk_at "W";refine iteT ?_;walk_at "W";refine SW.iIsi (.str z) isi_str_str ?_;walk_at "W";refine iteT ?_;walk_at "W";refine⟨rfl,?_⟩;walk_at "W";show Q (.bl (decide (V.str z=V.str z))) H;rw[decide_eq_true rfl];exact q H (Same.refl H)
 | @tup a b xs ys h1 h2 hl hr'=>
   have lim:sizeLine=16777216:=sizeLine_eq;walk_at "W";refine⟨rfl,?_⟩;walk_at "W";refine iteF ?_;walk_at "W";refine SW.iIsi (.tup h2) isi_tup_str ?_;walk_at "W";refine iteF ?_;walk_at "W";refine SW.iIsi (.tup h2) isi_tup_int ?_;walk_at "W";refine iteF ?_;walk_at "W";refine SW.iIsi (.tup h2) isi_tup_tuple ?_;walk_at "W";refine iteT ?_;walk_at "W";refine SW.iIsi (.tup h1) isi_tup_tuple ?_;walk_at "W";refine iteF ?_;walk_at "W";refine SW.iLen (.inr (SqT.of h1)) ?_;walk_at "W";refine⟨b,_,rfl,.inr (SqT.of h2),fun hz=>?_⟩;walk_at "W";refine iteNS (by rw[hl]) ?_
   walk_at "W";refine⟨b,_,rfl,.inr (SqT.of h2),fun _=>?_⟩;walk_at "W";refine⟨(ys.length:Int),rfl,by omega,by omega,?_⟩
   refine SW.forRangeC (fun i σ H'=>Same H H' /\ ∃ v1,σ=[some (.ref a),some (.ref b),v1]) ⟨Same.refl H,none,rfl⟩ ?_ ?_
   · rintro i σ H' hi ⟨s1,v1,rfl⟩
     have hy:i < ys.length:=by omega
     have hx:i < xs.length:=by omega
     have ex:xs[i]?=some xs[i]:=List.getElem?_eq_getElem hx;have ey:ys[i]?=some ys[i]:=List.getElem?_eq_getElem hy;have ax:atI xs (0+(i:Int))=some xs[i]:=by rw[Int.zero_add];exact atI_nat ex
     have ay:atI ys (0+(i:Int))=some ys[i]:=by rw[Int.zero_add];exact atI_nat ey
     walk_at "W";refine .inr ⟨a,_,_,_,rfl,rfl,SqT.of (s1 _ _ h1),ax,?_⟩;walk_at "W";refine .inr ⟨b,_,_,_,rfl,rfl,SqT.of (s1 _ _ h2),ay,?_⟩;walk_at "W";refine⟨_,_,rfl,TyN.same s1 n _ _ (hr' i _ _ ex ey),fun H3 s3=>?_⟩;walk_at "W";refine iteF ?_;walk_at "W";exact⟨s1.trans s3,_,rfl⟩
   rintro σ H' ⟨s1,v1,rfl⟩;walk_at "W";exact q H' s1
 | @lst a b xs ys h1 h2 hl hr'=>
   have lim:sizeLine=16777216:=sizeLine_eq;walk_at "W";refine⟨rfl,?_⟩;walk_at "W";refine iteF ?_;walk_at "W";refine SW.iIsi (.lst h2) isi_list_str ?_;walk_at "W";refine iteF ?_;walk_at "W";refine SW.iIsi (.lst h2) isi_list_int ?_;walk_at "W";refine iteF ?_;walk_at "W";refine SW.iIsi (.lst h2) isi_list_tup ?_;walk_at "W";refine iteF ?_;walk_at "W";refine SW.iIsi (.lst h1) isi_list_list ?_;walk_at "W";refine iteF ?_;walk_at "W";refine SW.iLen (.inl (SqL.of h1)) ?_;walk_at "W";refine⟨b,_,rfl,.inl (SqL.of h2),fun hz=>?_⟩;walk_at "W";refine iteNS (by rw[hl]) ?_
   walk_at "W";refine⟨b,_,rfl,.inl (SqL.of h2),fun _=>?_⟩;walk_at "W";refine⟨(ys.length:Int),rfl,by omega,by omega,?_⟩
   refine SW.forRangeC (fun i σ H'=>Same H H' /\ ∃ v1,σ=[some (.ref a),some (.ref b),v1]) ⟨Same.refl H,none,rfl⟩ ?_ ?_
   · rintro i σ H' hi ⟨s1,v1,rfl⟩
     have hy:i < ys.length:=by omega
     have hx:i < xs.length:=by omega
     have ex:xs[i]?=some xs[i]:=List.getElem?_eq_getElem hx;have ey:ys[i]?=some ys[i]:=List.getElem?_eq_getElem hy;have ax:atI xs (0+(i:Int))=some xs[i]:=by rw[Int.zero_add];exact atI_nat ex
     have ay:atI ys (0+(i:Int))=some ys[i]:=by rw[Int.zero_add];exact atI_nat ey
     walk_at "W";refine .inl ⟨a,_,_,_,rfl,rfl,SqL.of (s1 _ _ h1),ax,?_⟩;walk_at "W";refine .inl ⟨b,_,_,_,rfl,rfl,SqL.of (s1 _ _ h2),ay,?_⟩;walk_at "W";refine⟨_,_,rfl,TyN.same s1 n _ _ (hr' i _ _ ex ey),fun H3 s3=>?_⟩;walk_at "W";refine iteF ?_;walk_at "W";exact⟨s1.trans s3,_,rfl⟩
   rintro σ H' ⟨s1,v1,rfl⟩;walk_at "W";exact q H' s1
theorem q38_(d:Dfn K mg "_law_same" z45_ ["found","due"])(g:Gs K mg C CT cS PS):∀ n:Nat,Fn P w K mg base "_law_same" (n+1) ["found","due"] (spAlikeD K n)
 | 0=>q39_ d 0
 | n+1=>q40_ d g (q38_ d g n)
theorem q37_(d:Dfn K mg "_law_same" z45_ ["found","due"])(g:Gs K mg C CT cS PS):Fn P w K mg base "_law_same" 6 ["found","due"] (spAlikeD K 5):=q38_ d g 5
def spRows26:Sp:=fun vs H Q _=>∃ n:Nat,vs=[.int n]/\n<=8192 /\ ∀ D ls H',Same H H'->H D=none->LR H' D (List.replicate n []) ls->(∀ y∈ls,H y=none)->Q (.ref D) H'
def spSizes26:Sp:=fun vs H Q _=>∃(p:Addr) (k:Int),vs=[.ref p,.int k]/\Pot H p /\ ∀ a (o n:Nat) H',Pot H' p->KeepBut p H H'->H' a=some (.tup [.int o,.int n])->isSize n->(o=0∨isSize o/\(o=2*n∨n=2*o))->Q (.ref a) H'
def spState26:Sp:=fun vs H Q _=>∃(p t:Addr) (f m k:Int),vs=[.ref p,.ref t,.int k]/\Pot H p/\H t=some (.tup [.int f,.int m])/\(0<=f/\f<=65535) /\ ∀ v M H',Pot H' p->KeepBut p H H'->StU H' v M->TOk f m M->SW.Rat M->SW.cnt M<=60->Q v H'
theorem lr_bare{H:Hp}{D:Addr}{ls:List Addr}{n:Nat}(h1:H D=some (.lst (ls.map V.ref)))(h2:ls.length=n)(nd:ls.Nodup)(g:∀ y∈ls,H y=some (.lst [])/\y≠D):LR H D (List.replicate n []) ls:=
 ⟨h1,by rw[h2,List.length_replicate],nd,fun z=>(g D z).2 rfl,fun i y r e1 e2=>by
  have er:r=[]:=List.eq_of_mem_replicate (List.mem_of_getElem? e2);subst er;exact⟨[],(g y (List.mem_of_getElem? e1)).1,.nil⟩⟩
theorem lr_other{H:Hp}{D l:Addr}{R:MRows}{ls:List Addr}{xs ys:List V}(S:LR H D R ls)(hx:H l=some (.lst xs))(n1:D≠l)(n2:l∉ls):LR (upd H l (.lst ys)) D R ls:=
 S.keep (G:=fun b=>b=l) (fun b o n e=>by rw[upd_ne n];exact e) n1 (fun b hb z=>n2 (z ▸ hb)) fun b zs e=>ne_of e hx (by intro z;cases z)
theorem lr_add{H:Hp}{D l t:Addr}{R:MRows}{ls:List Addr}{xs:List V}{f m k v:Int}(S:LR H D R ls)(hk:sLook f m R k=none)(hl:ls[plc f m R.length k]?=some l)(hx:H l=some (.lst xs))(ht:H t=some (.tup [.int k,.int v]))(h0:0 < R.length) :
 LR (upd H l (.lst (xs++[.ref t]))) D (sPut f m R k v) ls:=by
 have hR:=getD_get (R:=R) (plc_lt (f:=f) (m:=m) (k:=k) h0);obtain⟨ys,e1,pr⟩:=S.at_ _ _ _ hl hR;rw[hx]at e1;cases e1;have kp:∀ b o,b≠l->H b=some o->upd H l (.lst (xs++[.ref t])) b=some o:=fun b o n e=>by rw[upd_ne n];exact e
 have tk:∀ b zs,H b=some (.tup zs)->upd H l (.lst (xs++[.ref t])) b=some (.tup zs):=fun b zs e=>kp _ _ (ne_of e hx (by intro z;cases z)) e
 unfold sPut;rw[rPut_new (show rLook (sRow f m R k) k=none from hk)];exact S.set hl upd_same (SW.paired_snoc (pr.keep tk) ⟨t,rfl,tk _ _ ht⟩) kp
theorem q35_(d:Dfn K mg "_law_rows" z44_ ["size"])(g:Gs K mg C CT cS PS):Fn P w K mg base "_law_rows" 1 ["size"] spRows26:=by
 refine d.fn z105_ (fun vs H Q E h=>?_) (fun f cdv A outer s H vs Q E hr h=>?_)
 · obtain⟨n,rfl,_⟩:=h
   rfl
 obtain⟨n,rfl,hn,k⟩:=h;have lim:sizeLine=16777216:=sizeLine_eq;refine⟨_,(B.sone (B.ret (SW.B.comp [] ["place"] (SW.CompScope.of rfl rfl (by decide +kernel) (by decide +kernel) rfl trivial rfl rfl rfl) (by decide +kernel) (B.irange g.b_range (B.cons (B.v 0) B.nil)) (fun _ _ _ _=>(B.lst B.nil))))),?_⟩
 walk_at "W";refine⟨n,rfl,by omega,by omega,fun D hD=>?_⟩
 refine comp_rangeU (fun i σ' H'=>∃(ls:List Addr) (v:Option V),σ'=[v]/\ls.length=i/\H' D=some (.lst (ls.map V.ref))/\ls.Nodup/\(∀ y∈ls,H' y=some (.lst [])/\H y=none/\y≠D)/\Same H H') ⟨[],none,rfl,rfl,upd_same,List.nodup_nil,fun y hy=>(List.not_mem_nil hy).elim,Same.new hD⟩ ?_ ?_
 · rintro i σ' H' hi ⟨ls,v,rfl,hl,g1,nd,g2,s'⟩
   refine⟨by show(0:Nat)<=sizeLine;decide,fun y hy=>?_⟩
   have nyD:D≠y:=ne_of_none g1 hy;have nin:y∉ls:=fun z=>by
    have:=(g2 y z).1;rw[hy]at this;cases this
   refine CN.mk hi (ys:=ls.map V.ref) (by rw[upd_ne nyD];exact g1) (by rw[List.length_map];omega) ⟨ls++[y],_,rfl,by rw[List.length_append,hl];rfl,by rw[upd_same,List.map_append];rfl,nd_snoc nd nin,fun z hz=>?_,fun b o e=>?_⟩
   · rcases List.mem_append.mp hz with hz | hz
     · obtain⟨c1,c2,c3⟩:=g2 z hz
       refine⟨?_,c2,c3⟩;rw[upd_ne c3,upd_ne (fun e:z=y=>nin (e ▸ hz))];exact c1
     rw[List.mem_singleton.mp hz];exact⟨by rw[upd_ne nyD.symm,upd_same],s'.free hy,nyD.symm⟩
   rw[upd_ne (ne_of_none e hD),upd_ne (ne_of_none (s' b o e) hy)];exact s' b o e
 rintro σ' H3 ⟨l0,v,rfl,hl0,g1,nd0,g2,s3⟩;have hl0:l0.length=n:=by
  have:l0.length=(n:Int).toNat:=hl0;omega
 walk_at "W";exact k D l0 H3 s3 hD (lr_bare g1 hl0 nd0 fun y hy=>⟨(g2 y hy).1,(g2 y hy).2.2⟩) fun y hy=>(g2 y hy).2.1
theorem q43_(d:Dfn K mg "_law_sizes" z46_ ["pot","k"])(g:Gs K mg C CT cS PS)(q18_:Fn P w K mg base "_law_take" 2 ["pot","many"] spTakeP):Fn P w K mg base "_law_sizes" 3 ["pot","k"] spSizes26:=by
 refine d.fn z107_ (fun vs H Q E h=>?_) (fun f cdv A outer s H vs Q E hr h=>?_)
 · obtain⟨p,k,rfl,_⟩:=h
   rfl
 obtain⟨p,k,rfl,hp,q⟩:=h;have lim:sizeLine=16777216:=sizeLine_eq;refine⟨_,(B.scons (B.set 2 z107_.nd (B.op op_shl B.int (B.fn q18_ hr.up (B.cons (B.v 0) (B.cons B.int B.nil)))))
  (B.scons (B.ifs (B.tw (B.wand (B.tcmp op_eq (B.v 1) B.int) (B.wand1 (B.tcmp op_eq (B.fn q18_ hr.up (B.cons (B.v 0) (B.cons B.int B.nil))) B.int)))) (B.sone (B.set 2 z107_.nd B.int)) B.snil)
  (B.scons (B.set 3 z107_.nd (B.fn q18_ hr.up (B.cons (B.v 0) (B.cons B.int B.nil))))
  (B.scons (B.ifs (B.tcmp op_eq (B.v 3) B.int) (B.sone (B.ret (B.tup (B.cons B.int (B.cons (B.v 2) B.nil))))) B.snil)
  (B.scons (B.ifs (B.tw (B.wor (B.tw (B.wand (B.tcmp op_eq (B.v 3) B.int) (B.wand1 (B.tcmp op_gt (B.v 2) B.int)))) (B.wor1 (B.tw (B.wand (B.tcmp op_eq (B.v 2) B.int) (B.wand1 (B.tcmp op_lt (B.v 3) B.int))))))) (B.sone (B.ret (B.tup (B.cons (B.v 2) (B.cons (B.op op_fdivL (B.v 2) B.int) B.nil))))) B.snil)
  (B.scons (B.ifs (B.tcmp op_eq (B.v 2) B.int) (B.sone (B.ret (B.tup (B.cons B.int (B.cons B.int B.nil))))) B.snil)
  (B.sone (B.ret (B.tup (B.cons (B.v 2) (B.cons (B.op op_mul B.int (B.v 2)) B.nil))))))))))),?_⟩
 walk_at "W";refine wTakeP hp (by decide) (by decide) fun r1 H1 a1 b1 R1 K1=>?_
 walk_at "W";refine wPow ⟨a1,by omega,by decide⟩ ?_
 obtain⟨n0,hn0,hs0⟩:∃ n0:Nat,(4:Int)*2 ^ r1.toNat=n0/\(n0=4∨n0=8∨n0=16∨n0=32∨n0=64):=by
  obtain rfl | rfl | rfl | rfl | rfl:r1=0∨r1=1∨r1=2∨r1=3∨r1=4:=by omega
  · exact⟨4,rfl,by decide⟩
  · exact⟨8,rfl,by decide⟩
  · exact⟨16,rfl,by decide⟩
  · exact⟨32,rfl,by decide⟩
  exact⟨64,rfl,by decide⟩
 rw[hn0];walk_at "W";rename_i N hN;have rest:∀(n1:Nat) (H':Hp),(n1=4∨n1=8∨n1=16∨n1=32∨n1=64∨n1=4096)->Pot H' p->KeepBut p H H'->N [some (.ref p),some (.int k),some (.int n1),none] H':=by
  intro n1 H' hs R' K';refine SW.wGo hN ?_;walk_at "W";refine wTakeP R' (by decide) (by decide) fun r2 H2 a2 b2 R2 K2=>?_
  have K2:=K'.trans K2;walk_at "W";have out:∀(o n:Nat) a,H2 a=none->isSize n->(o=0∨isSize o/\(o=2*n∨n=2*o))->Q (.ref a) (upd H2 a (.tup [.int o,.int n])):=fun o n a ha h1 h2=>q a o n _ (R2.new ha) (K2.trans (KeepBut.new ha)) upd_same h1 h2;have iz:isSize n1:=by rcases hs with rfl | rfl | rfl | rfl | rfl | rfl <;> decide
  have eqi:∀{x y:Int},decide (V.int x=V.int y)=true->x=y:=fun h=>V.int.inj (of_decide_eq_true h);have nei:∀{x y:Int},¬ decide (V.int x=V.int y)=true->x≠y:=fun h z=>h (decide_eq_true (by rw[z]))
  have half:4 < n1->isSize (n1 / 2)/\n1=2*(n1 / 2):=fun h=>by rcases hs with rfl | rfl | rfl | rfl | rfl | rfl <;> first | (exact absurd h (by decide)) | exact⟨by decide,by decide⟩
  have twice:n1≠4096->isSize (2*n1):=fun h=>by rcases hs with rfl | rfl | rfl | rfl | rfl | rfl <;> first | (exact absurd rfl h) | decide
  have goA:4 < n1 -> ∀ a,H2 a=none->Q (.ref a) (upd H2 a (.tup [.int n1,.int ((n1:Int) / 2)])):=fun h a ha=>by
   have:=out n1 (n1 / 2) a ha (half h).1 (.inr ⟨iz,.inl (half h).2⟩);rw[show(((n1 / 2:Nat):Nat):Int)=(n1:Int) / 2 by omega]at this
   exact this
  refine ite2 (fun h=>?_) (fun h=>?_)
  · walk_at "W"
    refine⟨by show(2:Nat)<=sizeLine;decide,fun a ha=>?_⟩
    exact out 0 n1 a ha iz (.inl rfl)
  walk_at "W";rename_i N2 hN2;have fin:N2 ([some (.ref p),some (.int k),some (.int n1),none].set 3 (some (.int r2))) H2:=by
   refine SW.wGo hN2 ?_;walk_at "W";refine ite2 (fun h4=>?_) (fun h4=>?_)
   · walk_at "W"
     exact⟨by show(2:Nat)<=sizeLine;decide,fun a ha=>out 2048 4096 a ha (by decide) (.inr ⟨by decide,.inr (by decide)⟩)⟩
   have h4:=nei h4;walk_at "W";refine⟨by show(2:Nat)<=sizeLine;decide,fun a ha=>?_⟩
   have:=out n1 (2*n1) a ha (twice (by omega)) (.inr ⟨iz,.inr rfl⟩)
   rw[show(((2*n1:Nat):Nat):Int)=2*(n1:Int) by omega]at this
   exact this
  clear hN2;refine ite2 (fun h1=>?_) (fun h1=>?_)
  · walk_at "W"
    refine ite2 (fun h3=>?_) (fun h3=>?_)
    · refine iteT ?_
      walk_at "W";exact⟨by show(2:Nat)<=sizeLine;decide,goA (by have:=of_decide_eq_true h3;omega)⟩
    walk_at "W";refine ite2 (fun h4=>?_) (fun h4=>?_)
    · have h4:=eqi h4
      walk_at "W";refine ite2 (fun h5=>?_) (fun h5=>?_)
      · walk_at "W"
        exact⟨by show(2:Nat)<=sizeLine;decide,goA (by omega)⟩
      walk_at "W";exact fin
    refine iteF ?_;walk_at "W";exact fin
  refine iteF ?_;walk_at "W";refine ite2 (fun h4=>?_) (fun h4=>?_)
  · have h4:=eqi h4
    walk_at "W";refine ite2 (fun h5=>?_) (fun h5=>?_)
    · walk_at "W"
      exact⟨by show(2:Nat)<=sizeLine;decide,goA (by omega)⟩
    walk_at "W";exact fin
  refine iteF ?_;walk_at "W";exact fin
 clear hN;refine ite2 (fun h=>?_) (fun h=>?_)
 · walk_at "W"
   refine wTakeP R1 (by decide) (by decide) fun r2 H2 a2 b2 R2 K2=>?_
   walk_at "W";refine ite2 (fun h5=>?_) (fun h5=>?_)
   · walk_at "W"
     exact rest 4096 H2 (by decide) R2 (K1.trans K2)
   walk_at "W";exact rest n0 H2 (by omega) R2 (K1.trans K2)
 refine iteF ?_;walk_at "W";exact rest n0 H1 (by omega) R1 K1
structure D26(p De Dn:Addr)(le ln:List Addr):Prop where
 pe:De≠p/\p∉le
 pn:Dn≠p/\p∉ln
 dd:De≠Dn
 e1:De∉ln
 e2:Dn∉le
 e3:∀ y∈le,y∉ln
structure I26(HB:Hp)(p De Dn:Addr)(le ln:List Addr)(f m:Int)(o n mv:Nat)(ks:List Int)(RE RN:MRows)(H:Hp):Prop where
 P:Pot H p
 lE:LR H De RE le
 lN:LR H Dn RN ln
 zE:RE.length=o
 zN:RN.length=n
 pE:SW.POk f m RE
 pN:SW.POk f m RN
 mvd:∀ i r,i < mv->RE[i]?=some r->r=[]
 ap:∀ k,sLook f m RE k≠none->sLook f m RN k=none
 inn:∀ k,sLook f m RE k≠none∨sLook f m RN k≠none->k∈ks
 tt:tot RE+tot RN<=ks.length
 kp:∀ b o,b≠p->b∉le->b∉ln->HB b=some o->H b=some o
section
variable{HB H H':Hp}{p De Dn:Addr}{le ln:List Addr}{f m:Int}{o n mv:Nat}{ks:List Int}{RE RN:MRows}
theorem I26.pot(J:I26 HB p De Dn le ln f m o n mv ks RE RN H)(D:D26 p De Dn le ln)(P':Pot H' p)(k:KeepBut p H H'):I26 HB p De Dn le ln f m o n mv ks RE RN H':=by
 have tp:∀ b xs,H b=some (.tup xs) -> ¬ b=p:=fun b xs e=>J.P.neT e;have kf:SW.Fr (fun b=>b=p) H H':=fun b o n e=>k b o n e;exact⟨P',J.lE.keep kf D.pe.1 (fun b hb z=>D.pe.2 (z ▸ hb)) tp,J.lN.keep kf D.pn.1 (fun b hb z=>D.pn.2 (z ▸ hb)) tp,J.zE,J.zN,J.pE,J.pN,J.mvd,J.ap,J.inn,J.tt,fun b o n1 n2 n3 e=>k _ _ n1 (J.kp b o n1 n2 n3 e)⟩
theorem I26.same(J:I26 HB p De Dn le ln f m o n mv ks RE RN H)(s:Same H H'):I26 HB p De Dn le ln f m o n mv ks RE RN H':=
 ⟨J.P.same s,J.lE.same s,J.lN.same s,J.zE,J.zN,J.pE,J.pN,J.mvd,J.ap,J.inn,J.tt,fun b o n1 n2 n3 e=>s _ _ (J.kp b o n1 n2 n3 e)⟩
theorem pot_upd{l:Addr}{xs ys:List V}(h:Pot H p)(n:p≠l):Pot (upd H l (.lst ys)) p:=by
 obtain⟨a,b,c,e⟩:=h;exact⟨a,b,c,by rw[upd_ne n];exact e⟩
theorem I26.putE{k v:Int}{l t:Addr}{xs:List V}(J:I26 HB p De Dn le ln f m o n mv ks RE RN H)(D:D26 p De Dn le ln)(h0:0 < o)(hk:k∉ks)(hm:mv<=plc f m o k)(hl:le[plc f m o k]?=some l)(hx:H l=some (.lst xs))(ht:H t=some (.tup [.int k,.int v])) :
 I26 HB p De Dn le ln f m o n mv (ks++[k]) (sPut f m RE k v) RN (upd H l (.lst (xs++[.ref t]))):=by
 have ml:=List.mem_of_getElem? hl;have a1:sLook f m RE k=none:=Classical.byContradiction fun z=>hk (J.inn k (.inl z));have a2:sLook f m RN k=none:=Classical.byContradiction fun z=>hk (J.inn k (.inr z));have hR:0 < RE.length:=by rw[J.zE];exact h0
 have hl':le[plc f m RE.length k]?=some l:=by rw[J.zE];exact hl
 refine⟨pot_upd (xs:=xs) J.P fun z=>D.pe.2 (z ▸ ml),lr_add J.lE a1 hl' hx ht hR,lr_other J.lN hx (fun z=>D.e2 (z ▸ ml)) (D.e3 l ml),by rw[sPut_len];exact J.zE,J.zN,J.pE.put hR,J.pN,fun i r hi e=>?_,fun j hj=>?_,fun j hj=>?_,?_,fun b o n1 n2 n3 e=>?_⟩
 · unfold sPut at e
   rw[List.getElem?_set_ne (by rw[J.zE];omega)]at e
   exact J.mvd i r hi e
 · rw[sLook_put hR]at hj
   by_cases c:j=k
   · rw[c];exact a2
   rw[if_neg c]at hj;exact J.ap j hj
 · rw[sLook_put hR]at hj
   by_cases c:j=k
   · rw[c];exact List.mem_append_right _ (List.mem_singleton.mpr rfl)
   rw[if_neg c]at hj;exact List.mem_append_left _ (J.inn j hj)
 · rw[sPut_tot hR,if_pos a1,List.length_append]
   have:=J.tt;show _<=ks.length+1;omega
 rw[upd_ne (fun z:b=l=>n2 (by rw[z];exact ml))]
 exact J.kp b o n1 n2 n3 e
theorem I26.putN{k v:Int}{l t:Addr}{xs:List V}(J:I26 HB p De Dn le ln f m o n mv ks RE RN H)(D:D26 p De Dn le ln)(h0:0 < n)(hk:k∉ks)(hl:ln[plc f m n k]?=some l)(hx:H l=some (.lst xs))(ht:H t=some (.tup [.int k,.int v])) :
 I26 HB p De Dn le ln f m o n mv (ks++[k]) RE (sPut f m RN k v) (upd H l (.lst (xs++[.ref t]))):=by
 have ml:=List.mem_of_getElem? hl;have a1:sLook f m RE k=none:=Classical.byContradiction fun z=>hk (J.inn k (.inl z));have a2:sLook f m RN k=none:=Classical.byContradiction fun z=>hk (J.inn k (.inr z));have hR:0 < RN.length:=by rw[J.zN];exact h0
 have hl':ln[plc f m RN.length k]?=some l:=by rw[J.zN];exact hl
 have nle:l∉le:=fun z=>D.e3 l z ml;refine⟨pot_upd (xs:=xs) J.P fun z=>D.pn.2 (z ▸ ml),lr_other J.lE hx (fun z=>D.e1 (z ▸ ml)) nle,lr_add J.lN a2 hl' hx ht hR,J.zE,by rw[sPut_len];exact J.zN,J.pE,J.pN.put hR,J.mvd,fun j hj=>?_,fun j hj=>?_,?_,fun b o n1 n2 n3 e=>?_⟩
 · rw[sLook_put hR]
   by_cases c:j=k
   · rw[c]at hj;exact absurd a1 hj
   rw[if_neg c];exact J.ap j hj
 · rw[sLook_put hR]at hj
   by_cases c:j=k
   · rw[c];exact List.mem_append_right _ (List.mem_singleton.mpr rfl)
   rw[if_neg c]at hj;exact List.mem_append_left _ (J.inn j hj)
 · rw[sPut_tot hR,if_pos a2,List.length_append]
   have:=J.tt;show _<=ks.length+1;omega
 rw[upd_ne (fun z:b=l=>n3 (by rw[z];exact ml))]
 exact J.kp b o n1 n2 n3 e
end
theorem lr_short{H:Hp}{D l:Addr}{R:MRows}{ls:List Addr}{i:Nat}{xs:List V}(S:LR H D R ls)(hl:ls[i]?=some l)(hx:H l=some (.lst xs)):xs.length<=tot R:=by
 have hi:i < R.length:=by rw[← S.len];exact(List.getElem?_eq_some_iff.mp hl).1
 obtain⟨ys,e,pr⟩:=S.at_ i l _ hl (getD_get hi);rw[hx]at e;cases e;rw[pr.len];exact len_le_tot R i
theorem q44_(d:Dfn K mg "_law_state" z47_ ["pot","mixer","k"])(g:Gs K mg C CT cS PS)(q18_:Fn P w K mg base "_law_take" 2 ["pot","many"] spTakeP)(q19_:Fn P w K mg base "_law_worth" 3 ["pot"] spWorthP)(q8_:Fn P w K mg base "_law_keys" 3 ["pot","many"] spKeysP)(q14_:Fn P w K mg base "_law_rows" 1 ["size"] spRows26)(q16_:Fn P w K mg base "_law_sizes" 3 ["pot","k"] spSizes26):Fn P w K mg base "_law_state" 4 ["pot","mixer","k"] spState26:=by
 refine d.fn z108_ (fun vs H Q E h=>?_) (fun f cdv A outer s H vs Q E hr h=>?_)
 · obtain⟨p,t,f,m,k,rfl,_⟩:=h
   rfl
 obtain⟨p,t,f,m,k,rfl,hp,ht,bf,q⟩:=h;have lim:sizeLine=16777216:=sizeLine_eq;refine⟨_,(B.scons (B.asg (B.fn q16_ hr.up (B.cons (B.v 0) (B.cons (B.v 2) B.nil))) (B.gtup (B.gcons (B.gname (i:=3) z108_.nd) (B.gcons (B.gname (i:=4) z108_.nd) B.gnil))))
  (B.scons (B.set 5 z108_.nd (B.fn q14_ hr.up (B.cons (B.v 3) B.nil)))
  (B.scons (B.set 6 z108_.nd (B.fn q14_ hr.up (B.cons (B.v 4) B.nil)))
  (B.scons (B.set 7 z108_.nd B.int)
  (B.scons (B.ifs (B.tcmp op_gt (B.v 3) B.int) (B.sone (B.set 7 z108_.nd (B.fn q18_ hr.up (B.cons (B.v 0) (B.cons (B.v 3) B.nil))))) B.snil)
  (B.scons (B.fors (B.ilist (B.cB SW.call_sortedX g.b_sorted SW.b_sorted (B.cons (B.cT SW.call_setX g.b_set SW.b_set (B.cons (B.op op_cat (B.fn q8_ hr.up (B.cons (B.v 0) (B.cons (B.fn q18_ hr.up (B.cons (B.v 0) (B.cons B.int B.nil))) B.nil))) (B.fn q8_ hr.up (B.cons (B.v 0) (B.cons (B.fn q18_ hr.up (B.cons (B.v 0) (B.cons B.int B.nil))) B.nil)))) B.nil)) B.nil))) (B.gname (i:=8) z108_.nd) (B.scons (B.set 9 z108_.nd (B.op op_mod (B.op op_add (B.op op_mul (B.v 8) (B.ix ix_tup (B.v 1) B.int)) (B.ix ix_tup (B.v 1) B.int)) B.int))
  (B.sone (B.ifs (B.tw (B.wand (B.tcmp op_gt (B.v 3) B.int) (B.wand (B.tcmp op_ge (B.op op_mod (B.v 9) (B.v 3)) (B.v 7)) (B.wand1 (B.tcmp op_gt (B.fn q18_ hr.up (B.cons (B.v 0) (B.cons B.int B.nil))) B.int))))) (B.sone (B.expr (B.m PySem.F.plainAttrs_list PySem.F.slot_list_append PySem.F.type_list_append mt_append (B.ix ix_list (B.v 5) (B.op op_mod (B.v 9) (B.v 3))) (B.cons (B.tup (B.cons (B.v 8) (B.cons (B.fn q19_ hr.up (B.cons (B.v 0) B.nil)) B.nil))) B.nil)))) (B.sone (B.expr (B.m PySem.F.plainAttrs_list PySem.F.slot_list_append PySem.F.type_list_append mt_append (B.ix ix_list (B.v 6) (B.op op_mod (B.v 9) (B.v 4))) (B.cons (B.tup (B.cons (B.v 8) (B.cons (B.fn q19_ hr.up (B.cons (B.v 0) B.nil)) B.nil))) B.nil))))))))
  (B.scons (B.set 10 z108_.nd (B.cT call_tuple_of g.b_tuple SW.b_tuple (B.cons (SW.B.comp [] ["row"] (SW.CompScope.of rfl rfl (by decide +kernel) (by decide +kernel) rfl trivial rfl rfl rfl) (by decide +kernel) (B.ilist (B.v 6)) (fun _ _ _ _=>(B.cT (SW.call_tupleK K) g.b_tuple SW.b_tuple (B.cons (B.v 0) B.nil)))) B.nil)))
  (B.scons (B.ifs (B.tcmp op_eq (B.v 3) B.int) (B.sone (B.ret (B.tup (B.cons B.non (B.cons B.int (B.cons (B.v 10) B.nil)))))) B.snil)
  (B.sone (B.ret (B.tup (B.cons (B.cT call_tuple_of g.b_tuple SW.b_tuple (B.cons (SW.B.comp [] ["row"] (SW.CompScope.of rfl rfl (by decide +kernel) (by decide +kernel) rfl trivial rfl rfl rfl) (by decide +kernel) (B.ilist (B.v 5)) (fun _ _ _ _=>(B.cT (SW.call_tupleK K) g.b_tuple SW.b_tuple (B.cons (B.v 0) B.nil)))) B.nil)) (B.cons (B.v 7) (B.cons (B.v 10) B.nil)))))))))))))),?_⟩
 walk_at "W";refine⟨p,k,rfl,hp,fun a o n H1 P1 K1 ha hn ho=>?_⟩;have bn:=hn.bounds;have bo:o<=4096:=ho.elim (fun e=>by omega) fun h=>h.1.bounds.2
 have t1:=K1 _ _ (hp.neT ht) ht;walk_at "W";refine⟨a,_,rfl,SqT.of ha,rfl,?_⟩;walk_at "W";refine⟨_,_,rfl,?_⟩;walk_at "W";refine⟨_,_,rfl,?_⟩;walk_at "W";refine⟨rfl,?_⟩;walk_at "W";refine⟨o,rfl,by omega,fun De le H2 s2 hDe lrE nle=>?_⟩
 walk_at "W";refine⟨n,rfl,by omega,fun Dn ln H3 s3 hDn lrN nln=>?_⟩
 have lrE3:=lrE.same s3;have P3:=P1.same (s2.trans s3);have t3:=s3 _ _ (s2 _ _ t1);have npa:∀ b,H1 b=none->b≠p:=fun b hb=>(P1.ne0 hb).symm;have npb:∀ b,H2 b=none->b≠p:=fun b hb=>((P1.same s2).ne0 hb).symm;have liE:∀ y∈le,∃ xs,H2 y=some (.lst xs):=fun y hy=>lrE.live hy;have DD:D26 p De Dn le ln:=by
  refine⟨⟨npa _ hDe,fun z=>npa _ (nle _ z) rfl⟩,⟨npb _ hDn,fun z=>npb _ (nln _ z) rfl⟩,ne_of_none lrE.top hDn,fun z=>?_,fun z=>?_,fun y hy z=>?_⟩
  · have:=nln _ z
    rw[lrE.top]at this;cases this
  · obtain⟨xs,e⟩:=liE _ z
    rw[hDn]at e;cases e
  obtain⟨xs,e⟩:=liE _ hy;rw[nln _ z]at e;cases e
 have K03:KeepBut p H H3:=(K1.trans (Same.but s2)).trans (Same.but s3);have fr3:∀ b,(b=De∨b=Dn∨b∈le∨b∈ln)->H1 b=none:=fun b hb=>by
  rcases hb with rfl | rfl | z | z
  · exact hDe
  · exact s2.free hDn
  · exact nle _ z
  exact s2.free (nln _ z)
 walk_at "W";rename_i N hN;have rest:∀(mv:Nat) (H4:Hp),(o=0->mv=0)->(0 < o->mv < o)->Pot H4 p->KeepBut p H3 H4->N [some (.ref p),some (.ref t),some (.int k),some (.int o),some (.int n),some (.ref De),some (.ref Dn),some (.int mv),none,none,none] H4:=by
  intro mv H4 m0 m1 P4 K4;have J4:I26 H4 p De Dn le ln f m o n mv [] (List.replicate o []) (List.replicate n []) H4:=by
   have tp:∀ b xs,H3 b=some (.tup xs) -> ¬ b=p:=fun b xs e=>P3.neT e;have kf:SW.Fr (fun b=>b=p) H3 H4:=fun b o n e=>K4 b o n e;have none_:∀(n:Nat) (k:Int),sLook f m (List.replicate n []) k=none:=fun n k=>by
    unfold sLook sRow;rw[List.getD_eq_getElem?_getD,List.getElem?_replicate];split <;> rfl
   refine⟨P4,lrE3.keep kf DD.pe.1 (fun b hb z=>DD.pe.2 (z ▸ hb)) tp,lrN.keep kf DD.pn.1 (fun b hb z=>DD.pn.2 (z ▸ hb)) tp,List.length_replicate,List.length_replicate,SW.POk.rep,SW.POk.rep,fun i r _ e=>List.eq_of_mem_replicate (List.mem_of_getElem? e),fun j _=>none_ _ _,fun j hj=>?_,by rw[tot_rep,tot_rep];decide,fun _ _ _ _ _ e=>e⟩
   rcases hj with z | z <;> exact absurd (none_ _ _) z
  have t4:=K4 _ _ (P3.neT t3) t3;refine SW.wGo hN ?_;walk_at "W";refine wTakeP P4 (by decide) (by decide) fun r5 H5 a5 b5 P5 K5=>?_
  walk_at "W";refine wKeysP P5 a5 (by omega) fun l6 k6 H6 P6 K6 hl6 e6 z6=>?_
  have n6:l6≠p:=(P5.ne0 hl6).symm;walk_at "W";refine wTakeP P6 (by decide) (by decide) fun r7 H7 a7 b7 P7 K7=>?_
  walk_at "W";refine wKeysP P7 a7 (by omega) fun l8 k8 H8 P8 K8 hl8 e8 z8=>?_
  have e68:=K8 _ _ n6 (K7 _ _ n6 e6);have K48:=((K5.trans K6).trans K7).trans K8;walk_at "W";refine⟨l6,l8,_,_,rfl,rfl,e68,e8,by rw[List.length_map,List.length_map];omega,fun l9 h9=>?_⟩
  rw[← List.map_append];have s9:=Same.new (o:=.lst ((k6++k8).map V.int)) h9;have e9:upd H8 l9 (.lst ((k6++k8).map V.int)) l9=some (.lst ((k6++k8).map V.int)):=upd_same;have J9:=(J4.pot DD P8 K48).same s9;generalize upd H8 l9 (.lst ((k6++k8).map V.int))=H9 at *;walk_at "W";refine⟨l9,k6++k8,rfl,SqL.of e9,by rw[List.length_append];omega,rfl,fun sa hsa=>?_⟩
  have J10:=J9.same (Same.new (o:=SW.setO P w sa (k6++k8)) hsa);have e10:upd H9 sa (SW.setO P w sa (k6++k8)) sa=some (SW.setO P w sa (k6++k8)):=upd_same;generalize hgx:upd H9 sa (SW.setO P w sa (k6++k8))=H10 at *;rw[show upd H9 sa (SW.setO (cxOf CX0 P w K mg base _ _ _ _ _ _ _ _ _ _).nox.prog (cxOf CX0 P w K mg base _ _ _ _ _ _ _ _ _ _).nox.w sa (k6++k8))=H10 from hgx];clear hgx;walk_at "W";refine⟨sa,k6++k8,rfl,e10,by rw[List.length_append];omega,rfl,fun lk ks hlk nd sub lks=>?_⟩
  have s11:=Same.new (o:=.lst (ks.map V.int)) hlk;have J11:=J10.same s11;have e11:upd H10 lk (.lst (ks.map V.int)) lk=some (.lst (ks.map V.int)):=upd_same;have npl:lk≠p:=(J10.P.ne0 hlk).symm;have nlle:lk∉le:=fun z=>by
   obtain⟨xs,e⟩:=J10.lE.live z;rw[hlk]at e;cases e
  have nlln:lk∉ln:=fun z=>by
   obtain⟨xs,e⟩:=J10.lN.live z;rw[hlk]at e;cases e
  have ntp:t≠p:=P3.neT t3;have ntle:t∉le:=fun z=>by
   obtain⟨xs,e⟩:=J4.lE.live z;rw[t4]at e;cases e
  have ntln:t∉ln:=fun z=>by
   obtain⟨xs,e⟩:=J4.lN.live z;rw[t4]at e;cases e
  have e11t:=J11.kp _ _ ntp ntle ntln t4;have lk63:ks.length<=40:=by rw[List.length_append]at lks;omega
  generalize upd H10 lk (.lst (ks.map V.int))=H11 at *;have K11:∀{Ho:Hp},(∀ b u,b≠p->b∉le->b∉ln->H11 b=some u->Ho b=some u)->KeepBut p H Ho:=fun kp b u nb e=>by
   have e3:=K03 b u nb e;have f1:H1 b=some u:=K1 b u nb e;have nn:b∉le/\b∉ln:=⟨fun z=>(by rw[nle _ z]at f1;cases f1),fun z=>(by rw[s2.free (nln _ z)]at f1;cases f1)⟩
   exact kp b u nb nn.1 nn.2 (J11.kp b u nb nn.1 nn.2 (K4 b u nb e3))
  have J11:I26 H11 p De Dn le ln f m o n mv [] (List.replicate o []) (List.replicate n []) H11:=⟨J11.P,J11.lE,J11.lN,J11.zE,J11.zN,J11.pE,J11.pN,J11.mvd,J11.ap,J11.inn,J11.tt,fun _ _ _ _ _ e=>e⟩;clear J4 J9 J10 s9 s11 e10 hsa hlk e9 h9 K48 e68 e8 hl8 K8 P8 K7 P7 n6 e6 hl6 K6 P6 K5 P5 t4 liE fr3;refine⟨lk,rfl,⟨_,SqL.of e11⟩,?_⟩;refine SW.forListC (xs:=ks.map V.int) (fun i σ H'=>∃(v8 v9:Option V) (RE RN:MRows),σ=[some (.ref p),some (.ref t),some (.int k),some (.int o),some (.int n),some (.ref De),some (.ref Dn),some (.int mv),v8,v9,none]/\I26 H11 p De Dn le ln f m o n mv (ks.take i) RE RN H') ⟨none,none,_,_,rfl,J11⟩ ?_ ?_ ?_
  · rintro i σ H' _ ⟨v8,v9,RE,RN,rfl,J⟩
    exact SqL.of (J.kp _ _ npl nlle nlln e11)
  · rintro i y σ H12 hi ⟨v8,v9,RE,RN,rfl,J⟩
    obtain⟨ky,rfl⟩:=getInt hi;intro N3 hN3;have hk:ks[i]?=some ky:=by
     rw[List.getElem?_map]at hi;obtain⟨z,e,e2⟩:=Option.map_eq_some_iff.mp hi;cases e2;exact e
    have kn:ky∉ks.take i:=fun z=>by
     obtain⟨hlt,e⟩:=List.getElem?_eq_some_iff.mp hk;obtain⟨j,hj⟩:=List.mem_iff_getElem?.mp z;rw[List.getElem?_take]at hj;split at hj
     · rename_i lj
       obtain⟨hjl,ej⟩:=List.getElem?_eq_some_iff.mp hj;exact(List.pairwise_iff_getElem.mp nd j i hjl hlt lj) (ej.trans e.symm)
     cases hj
    have et:=J.kp _ _ ntp ntle ntln e11t;walk_at "W";have hb0:0 < n:=by omega
    obtain⟨l,hl⟩:∃ l,ln[plc f m n ky]?=some l:=⟨_,List.getElem?_eq_getElem (by rw[J.lN.len,J.zN];exact plc_lt hb0)⟩
    have nxt:ks.take (i+1)=ks.take i++[ky]:=by rw[List.take_succ,hk];rfl
    refine ite2 (fun h=>?_) (fun h=>?_)
    · walk_at "W"
      have ho0:0 < o:=by have:=of_decide_eq_true h;omega
      refine wMod (by omega) ?_
      walk_at "W";refine ite2 (fun h2=>?_) (fun h2=>?_)
      · have hmv:mv<=plc f m o ky:=by
         have:=of_decide_eq_true h2;rw[← plc_int (f:=f) (m:=m) (k:=ky) (n:=o) ho0]at this;omega
        walk_at "W";refine wTakeP J.P (by decide) (by decide) fun r13 H13 a13 b13 P13 K13=>?_
        have J13:=J.pot DD P13 K13;walk_at "W";refine ite2 (fun h3=>?_) (fun h3=>?_)
        · obtain⟨le_,hle⟩:∃ l,le[plc f m o ky]?=some l:=⟨_,List.getElem?_eq_getElem (by rw[J.lE.len,J.zE];exact plc_lt ho0)⟩
          walk_at "W";refine wBM ?_;walk_at "W";rw[← plc_int (f:=f) (m:=m) (k:=ky) (n:=o) ho0];refine wIxL J13.lE.top (v:=.ref le_) (by refine atI_nat ?_;rw[List.getElem?_map,hle];rfl) ?_
          obtain⟨xs,hx⟩:=J13.lE.live (List.mem_of_getElem? hle);refine⟨.inl ⟨rfl,_,SqL.of hx⟩,?_⟩;walk_at "W";refine wWorthP J13.P fun wv Hd Pd Kd=>?_;have Jd:=J13.pot DD Pd Kd;have hxd:=Kd _ _ (fun z=>DD.pe.2 (by rw[← z];exact List.mem_of_getElem? hle)) hx
          walk_at "W";refine⟨by show(2:Nat)<=sizeLine;decide,fun tq htq=>?_⟩
          have st:=Same.new (o:=.tup [.int ky,.int wv]) htq;have et2:upd Hd tq (.tup [.int ky,.int wv]) tq=some (.tup [.int ky,.int wv]):=upd_same;have Je:=Jd.same st;have hxe:=st _ _ hxd;generalize upd Hd tq (.tup [.int ky,.int wv])=He at *;have sh:=lr_short Je.lE hle hxe;have tt:=Je.tt;rw[List.length_take]at tt;walk_at "W";refine⟨le_,_,_,rfl,rfl,hxe,by omega,?_⟩
          walk_at "W";subst hN3;have fin:=Je.putE DD ho0 kn hmv hle hxe et2;rw[← nxt]at fin;exact⟨_,_,_,_,rfl,fin⟩
        walk_at "W";refine wBM ?_;walk_at "W";rw[← plc_int (f:=f) (m:=m) (k:=ky) (n:=n) hb0];refine wIxL J13.lN.top (v:=.ref l) (by refine atI_nat ?_;rw[List.getElem?_map,hl];rfl) ?_
        obtain⟨xs,hx⟩:=J13.lN.live (List.mem_of_getElem? hl);refine⟨.inl ⟨rfl,_,SqL.of hx⟩,?_⟩;walk_at "W";refine wWorthP J13.P fun wv Hd Pd Kd=>?_;have Jd:=J13.pot DD Pd Kd;have hxd:=Kd _ _ (fun z=>DD.pn.2 (by rw[← z];exact List.mem_of_getElem? hl)) hx
        walk_at "W";refine⟨by show(2:Nat)<=sizeLine;decide,fun tq htq=>?_⟩
        have st:=Same.new (o:=.tup [.int ky,.int wv]) htq;have et2:upd Hd tq (.tup [.int ky,.int wv]) tq=some (.tup [.int ky,.int wv]):=upd_same;have Je:=Jd.same st;have hxe:=st _ _ hxd;generalize upd Hd tq (.tup [.int ky,.int wv])=He at *;have sh:=lr_short Je.lN hl hxe;have tt:=Je.tt;rw[List.length_take]at tt;walk_at "W";refine⟨l,_,_,rfl,rfl,hxe,by omega,?_⟩
        walk_at "W";subst hN3;have fin:=Je.putN DD hb0 kn hl hxe et2;rw[← nxt]at fin;exact⟨_,_,_,_,rfl,fin⟩
      refine iteF ?_;walk_at "W";refine wBM ?_;walk_at "W";rw[← plc_int (f:=f) (m:=m) (k:=ky) (n:=n) hb0];refine wIxL J.lN.top (v:=.ref l) (by refine atI_nat ?_;rw[List.getElem?_map,hl];rfl) ?_
      obtain⟨xs,hx⟩:=J.lN.live (List.mem_of_getElem? hl);refine⟨.inl ⟨rfl,_,SqL.of hx⟩,?_⟩;walk_at "W";refine wWorthP J.P fun wv Hd Pd Kd=>?_;have Jd:=J.pot DD Pd Kd;have hxd:=Kd _ _ (fun z=>DD.pn.2 (by rw[← z];exact List.mem_of_getElem? hl)) hx
      walk_at "W";refine⟨by show(2:Nat)<=sizeLine;decide,fun tq htq=>?_⟩
      have st:=Same.new (o:=.tup [.int ky,.int wv]) htq;have et2:upd Hd tq (.tup [.int ky,.int wv]) tq=some (.tup [.int ky,.int wv]):=upd_same;have Je:=Jd.same st;have hxe:=st _ _ hxd;generalize upd Hd tq (.tup [.int ky,.int wv])=He at *;have sh:=lr_short Je.lN hl hxe;have tt:=Je.tt;rw[List.length_take]at tt;walk_at "W";refine⟨l,_,_,rfl,rfl,hxe,by omega,?_⟩
      walk_at "W";subst hN3;have fin:=Je.putN DD hb0 kn hl hxe et2;rw[← nxt]at fin;exact⟨_,_,_,_,rfl,fin⟩
    walk_at "W";refine iteF ?_;walk_at "W";refine wBM ?_;walk_at "W";rw[← plc_int (f:=f) (m:=m) (k:=ky) (n:=n) hb0];refine wIxL J.lN.top (v:=.ref l) (by refine atI_nat ?_;rw[List.getElem?_map,hl];rfl) ?_
    obtain⟨xs,hx⟩:=J.lN.live (List.mem_of_getElem? hl);refine⟨.inl ⟨rfl,_,SqL.of hx⟩,?_⟩;walk_at "W";refine wWorthP J.P fun wv Hd Pd Kd=>?_;have Jd:=J.pot DD Pd Kd;have hxd:=Kd _ _ (fun z=>DD.pn.2 (by rw[← z];exact List.mem_of_getElem? hl)) hx
    walk_at "W";refine⟨by show(2:Nat)<=sizeLine;decide,fun tq htq=>?_⟩
    have st:=Same.new (o:=.tup [.int ky,.int wv]) htq;have et2:upd Hd tq (.tup [.int ky,.int wv]) tq=some (.tup [.int ky,.int wv]):=upd_same;have Je:=Jd.same st;have hxe:=st _ _ hxd;generalize upd Hd tq (.tup [.int ky,.int wv])=He at *;have sh:=lr_short Je.lN hl hxe;have tt:=Je.tt;rw[List.length_take]at tt;walk_at "W";refine⟨l,_,_,rfl,rfl,hxe,by omega,?_⟩
    walk_at "W";subst hN3;have fin:=Je.putN DD hb0 kn hl hxe et2;rw[← nxt]at fin;exact⟨_,_,_,_,rfl,fin⟩
  rintro σ H12 ⟨v8,v9,RE,RN,rfl,J⟩
  dsimp only
  walk_at "W";have J:I26 H11 p De Dn le ln f m o n mv ks RE RN H12:=by
   rw[List.take_of_length_le (by rw[List.length_map];exact Nat.le_refl _)]at J
   exact J
  refine⟨Dn,rfl,⟨_,SqL.of J.lN.top⟩,fun D13 hD13=>?_⟩;refine comp_listU (xs:=ln.map V.ref) (fun i σ' H'=>∃(v:Option V) (ts:List V),σ'=[v]/\Same H12 H'/\H' D13=some (.lst ts)/\ts.length=i/\Paired (SW.RowU H') ts (RN.take i)) ⟨none,[],rfl,Same.new hD13,upd_same,rfl,.nil⟩ (fun i σ' H' _ ⟨v,ts,_,s',_⟩=>SqL.of (s' _ _ J.lN.top)) ?_ ?_
  · rintro i x σ' H' hx hi ⟨v,ts,rfl,s',hD',hl,pr⟩
    rw[List.getElem?_map]at hx;obtain⟨l,hl1,rfl⟩:=Option.map_eq_some_iff.mp hx;have hiR:i < RN.length:=by rw[← J.lN.len];exact(List.getElem?_eq_some_iff.mp hl1).1
    obtain⟨xs,hxs,pxs⟩:=J.lN.at_ i l _ hl1 (getD_get hiR);walk_at "W";refine⟨l,xs,rfl,.inl ⟨SqL.of (s' _ _ hxs),fun tq htq=>?_⟩⟩;have st:=Same.new (o:=.tup xs) htq;have etq:upd H' tq (.tup xs) tq=some (.tup xs):=upd_same;have hD2:=st _ _ hD';have s2:=s'.trans st;have ntq:tq≠D13:=(ne_of_none hD' htq).symm;generalize upd H' tq (.tup xs)=H'' at *;have kt:SW.KeepT H'' (upd H'' D13 (.lst (ts++[.ref tq]))):=fun b zs e=>by rw[upd_ne (ne_of e hD2 (by intro z;cases z))];exact e
    have hi2:i < 4097:=by have:=J.zN;omega
    refine CN.mk hi (ys:=ts) hD2 (by rw[hl];omega) ⟨_,ts++[.ref tq],rfl,fun b u e=>by rw[upd_ne (ne_of_none e hD13)];exact s2 _ _ e,upd_same,by rw[List.length_append,hl];rfl,?_⟩
    rw[List.take_succ,getD_get hiR];refine SW.paired_snoc (Paired.mapP pr fun a r z=>(z.keep (SW.KeepT.same st)).keep kt) ⟨tq,xs,rfl,kt _ _ etq,(pxs.keep fun a ys e=>s2 _ _ e).keep fun a ys e=>kt a ys e⟩
  rintro σ' H13 ⟨v,ts13,rfl,sH13,hDts13,lts13,pts13⟩;rw[List.take_of_length_le (by rw[List.length_map,J.lN.len];exact Nat.le_refl _)]at pts13
  walk_at "W";refine⟨D13,ts13,rfl,.inl ⟨SqL.of hDts13,fun tr13 htr13=>?_⟩⟩;have utr13:=Same.new (o:=.tup ts13) htr13;have etr13:upd H13 tr13 (.tup ts13) tr13=some (.tup ts13):=upd_same;have rutr13:SW.RowsU (upd H13 tr13 (.tup ts13)) (.ref tr13) RN:=⟨tr13,ts13,rfl,etr13,Paired.mapP pts13 fun a r z=>z.keep (SW.KeepT.same utr13)⟩;have J14:=(J.same sH13).same utr13;generalize upd H13 tr13 (.tup ts13)=H14 at *;have cn:tot RE+tot RN<=60:=Nat.le_trans J.tt (by omega)
  walk_at "W";refine ite2 (fun h=>?_) (fun h=>?_)
  · have h:o=0:=by have:=V.int.inj (of_decide_eq_true h);omega
    walk_at "W";refine⟨by show(3:Nat)<=sizeLine;decide,fun tz htz=>?_⟩
    have sz:=Same.new (o:=.tup [.non,.int 0,.ref tr13]) htz;refine q (.ref tz) ⟨none,0,RN⟩ _ (J14.P.same sz) (K11 fun b u n1 n2 n3 e=>sz _ _ (J14.kp b u n1 n2 n3 e)) ⟨tz,.non,.ref tr13,rfl,upd_same,rfl,rutr13.keep (SW.KeepT.same sz)⟩ ⟨J.pN,by show isSize RN.length;rw[J.zN];exact hn,(fun E z=>by cases z),fun _=>rfl⟩ (fun E z=>by cases z) ?_
    show 0+tot RN<=60;omega
  have h:o≠0:=fun z=>h (decide_eq_true (by rw[z];rfl))
  obtain⟨io,ro⟩:=ho.resolve_left h;walk_at "W";refine⟨De,rfl,⟨_,SqL.of J14.lE.top⟩,fun D15 hD15=>?_⟩;refine comp_listU (xs:=le.map V.ref) (fun i σ' H'=>∃(v:Option V) (ts:List V),σ'=[v]/\Same H14 H'/\H' D15=some (.lst ts)/\ts.length=i/\Paired (SW.RowU H') ts (RE.take i)) ⟨none,[],rfl,Same.new hD15,upd_same,rfl,.nil⟩ (fun i σ' H' _ ⟨v,ts,_,s',_⟩=>SqL.of (s' _ _ J14.lE.top)) ?_ ?_
  · rintro i x σ' H' hx hi ⟨v,ts,rfl,s',hD',hl,pr⟩
    rw[List.getElem?_map]at hx;obtain⟨l,hl1,rfl⟩:=Option.map_eq_some_iff.mp hx;have hiR:i < RE.length:=by rw[← J14.lE.len];exact(List.getElem?_eq_some_iff.mp hl1).1
    obtain⟨xs,hxs,pxs⟩:=J14.lE.at_ i l _ hl1 (getD_get hiR);walk_at "W";refine⟨l,xs,rfl,.inl ⟨SqL.of (s' _ _ hxs),fun tq htq=>?_⟩⟩;have st:=Same.new (o:=.tup xs) htq;have etq:upd H' tq (.tup xs) tq=some (.tup xs):=upd_same;have hD2:=st _ _ hD';have s2:=s'.trans st;have ntq:tq≠D15:=(ne_of_none hD' htq).symm;generalize upd H' tq (.tup xs)=H'' at *;have kt:SW.KeepT H'' (upd H'' D15 (.lst (ts++[.ref tq]))):=fun b zs e=>by rw[upd_ne (ne_of e hD2 (by intro z;cases z))];exact e
    have hi2:i < 4097:=by have:=J14.zE;omega
    refine CN.mk hi (ys:=ts) hD2 (by rw[hl];omega) ⟨_,ts++[.ref tq],rfl,fun b u e=>by rw[upd_ne (ne_of_none e hD15)];exact s2 _ _ e,upd_same,by rw[List.length_append,hl];rfl,?_⟩
    rw[List.take_succ,getD_get hiR];refine SW.paired_snoc (Paired.mapP pr fun a r z=>(z.keep (SW.KeepT.same st)).keep kt) ⟨tq,xs,rfl,kt _ _ etq,(pxs.keep fun a ys e=>s2 _ _ e).keep fun a ys e=>kt a ys e⟩
  rintro σ' H15 ⟨v,ts15,rfl,sH15,hDts15,lts15,pts15⟩;rw[List.take_of_length_le (by rw[List.length_map,J14.lE.len];exact Nat.le_refl _)]at pts15
  walk_at "W";refine⟨D15,ts15,rfl,.inl ⟨SqL.of hDts15,fun tr15 htr15=>?_⟩⟩;have utr15:=Same.new (o:=.tup ts15) htr15;have etr15:upd H15 tr15 (.tup ts15) tr15=some (.tup ts15):=upd_same;have rutr15:SW.RowsU (upd H15 tr15 (.tup ts15)) (.ref tr15) RE:=⟨tr15,ts15,rfl,etr15,Paired.mapP pts15 fun a r z=>z.keep (SW.KeepT.same utr15)⟩;have J16:=(J14.same sH15).same utr15;have ru16:=(rutr13.keep (SW.KeepT.same sH15)).keep (SW.KeepT.same utr15);generalize upd H15 tr15 (.tup ts15)=H16 at *;walk_at "W";refine⟨by show(3:Nat)<=sizeLine;decide,fun tz htz=>?_⟩
  have sz:=Same.new (o:=.tup [.ref tr15,.int mv,.ref tr13]) htz;refine q (.ref tz) ⟨some RE,mv,RN⟩ _ (J16.P.same sz) (K11 fun b u n1 n2 n3 e=>sz _ _ (J16.kp b u n1 n2 n3 e)) ⟨tz,.ref tr15,.ref tr13,rfl,upd_same,rutr15.keep (SW.KeepT.same sz),ru16.keep (SW.KeepT.same sz)⟩ ⟨J.pN,by show isSize RN.length;rw[J.zN];exact hn,(fun E z=>by
   cases z;exact⟨J.pE,by rw[J.zE];exact io,by show mv < RE.length;rw[J.zE];exact m1 (by omega),J.mvd,J.ap⟩),fun z=>by cases z⟩ (fun E z=>by
   cases z;show RE.length=2*RN.length∨RN.length=2*RE.length;rw[J.zE,J.zN];exact ro) ?_
  show tot RE+tot RN<=60;omega
 clear hN;refine ite2 (fun h=>?_) (fun h=>?_)
 · have h:=of_decide_eq_true h
   walk_at "W";refine wTakeP P3 (by omega) (by omega) fun r4 H4 a4 b4 P4 K4=>?_
   walk_at "W";have:=rest r4.toNat H4 (by omega) (by omega) P4 K4
   rw[Int.toNat_of_nonneg a4]at this;exact this
 have h:¬ ((0:Int) < o):=fun z=>h (decide_eq_true z);walk_at "W";exact rest 0 H3 (fun _=>rfl) (by omega) P3 (fun _ _ _ e=>e)
def spRight26(C CT PS:Addr):Sp:=fun vs H Q _=>∃(p:Addr) (v:V) (cur f m:Int) (pc:Nat) (M:MT) (tc:Int) (F:Addr->Prop),vs=[.ref p,v,.int cur]/\Tb C CT H p f m pc M tc F/\TOk f m M/\SW.Rat M/\SW.cnt M<=60/\StU H v M/\0<=cur/\cur < 65536/\LamH lamP lamQ H PS /\
 ∀ H',LamH lamP lamQ H' PS->KeepBut PS H H'->Q (.bl true) H'
theorem wRight26{C CT PS p:Addr}{v:V}{cur f m:Int}{pc:Nat}{M:MT}{tc:Int}{F:Addr->Prop}{H:Hp}{Q:VK}{E:XK}(S:Tb C CT H p f m pc M tc F)(T:TOk f m M)(R:SW.Rat M)(hc:SW.cnt M<=60)(u:StU H v M)(c0:0<=cur)(c1:cur < 65536)(L:LamH lamP lamQ H PS)
 (k:∀ H',LamH lamP lamQ H' PS->KeepBut PS H H'->Q (.bl true) H'):spRight26 C CT PS ([.ref p,v,.int cur]++[]) H Q E:=⟨p,v,cur,f,m,pc,M,tc,F,rfl,S,T,R,hc,u,c0,c1,L,k⟩
theorem step_ty{K:W.Frag}{H:Hp}{t u l m:Addr}{z:Int}{xs ys:List V}{r:MRow}(h1:H t=some (.tup [.int z,.ref l]))(h2:H u=some (.tup [.int z,.ref m]))(h3:H l=some (.lst xs))(h4:H m=some (.lst ys))(p1:Prs H xs r)(p2:Prs H ys r):TyN K 5 H (.ref t) (.ref u):=by
 refine Ty.tup h1 h2 rfl fun i x y hx hy=>?_
 match i,hx,hy with
 | 0,hx,hy=>cases hx;cases hy;exact .int _
 | 1,hx,hy=>
   cases hx;cases hy;obtain⟨l,t⟩:=Paired.tyN (K:=K) (n:=3) (H:=H) p1 p2 fun _ _ _ u v=>PrV.ty u v;exact Ty.lst h3 h4 l t
def elsD:Option MRows->PyData
 | none=>.none
 | some E=>.int (E.length:Nat)
theorem els_dat{K:W.Frag}{H:Hp}(o:Option MRows):DatV K H (szE o) (elsD o):=by
 cases o with
 | none=>exact .non
 | some E=>exact .int _
theorem wEqSz{K:W.Frag}{H:Hp}{Q:VK}{a b:Addr}{o:Option MRows}{n:Int}(h1:H a=some (.tup [szE o,.int n]))(h2:H b=some (.tup [szE o,.int n]))(q:Q (.bl true) H):rEqD K (.ref a) (.ref b) H Q:=by
 refine wEqSame (d:=.tuple [elsD o,.int n]) (.tup (SqT.of h1) (.cons (els_dat _) (.cons (.int _) .nil))) (.tup (SqT.of h2) (.cons (els_dat _) (.cons (.int _) .nil))) ?_ ?_ q
 · cases o <;> rfl
 have h2:(elsD o).depth=0:=by cases o <;> rfl
 simp only[PyData.depth,PyData.depthAll];omega
theorem q34_(d:Dfn K mg "_law_right" z43_ ["table","state","cursor"])(g:Gs K mg C CT cS PS)(q61_:Mt P w K mg base CT "state" 5 ["self"] (spTState C CT))(q60_:Mt P w K mg base CT "sizes" 2 ["self"] (spTSizes C CT))
 (q7_:Fn P w K mg base "_law_due" 2 ["state","cursor"] spDueT) (q45_:Fn P w K mg base "step" 5 ["table","cursor"] (spStep C CT PS lamP lamQ)) (q15_:Fn P w K mg base "_law_same" 6 ["found","due"] (spAlikeD K 5)):Fn P w K mg base "_law_right" 7 ["table","state","cursor"] (spRight26 C CT PS):=by
 refine d.fn z104_ (fun vs H Q E h=>?_) (fun f cdv A outer s H vs Q E hr h=>?_)
 · obtain⟨p,v,cur,f,m,pc,M,tc,F,rfl,_⟩:=h
   rfl
 obtain⟨p,v,cur,f,m,pc,M,tc,F,rfl,S,T,R,hc,u,c0,c1,L,k⟩:=h;have lim:sizeLine=16777216:=sizeLine_eq;have hc2:SW.cnt M<=100000:=by omega
 refine⟨_,(B.scons (B.ifs (B.tnot (B.tval (B.fn q15_ hr.up (B.cons (B.fn q45_ hr.up (B.cons (B.v 0) (B.cons (B.v 2) B.nil))) (B.cons (B.fn q7_ hr.up (B.cons (B.v 1) (B.cons (B.v 2) B.nil))) B.nil))))) (B.sone (B.ret B.bl)) B.snil)
  (B.scons (B.set 3 z104_.nd B.non)
  (B.scons (B.ifs (B.tcmp op_notN (B.ix ix_tup (B.v 1) B.int) B.non) (B.sone (B.set 3 z104_.nd (B.cB call_len_seq g.b_len SW.b_len (B.cons (B.ix ix_tup (B.v 1) B.int) B.nil)))) B.snil)
  (B.sone (B.ret (B.and (B.cmp (op_eqD K hr.units) (B.meth0 (B.v 0) g.cl_Table q61_ hr.up) (B.v 1)) (B.one (B.cmp (op_eqD K hr.units) (B.meth0 (B.v 0) g.cl_Table q60_ hr.up) (B.tup (B.cons (B.v 3) (B.cons (B.cB call_len_seq g.b_len SW.b_len (B.cons (B.ix ix_tup (B.v 1) B.int) B.nil)) B.nil))))))))))),?_⟩
 walk_at "W";refine wStep S T R hc2 L fun t6 l6 x6 H6 L6 k6 hl6 ht6 d6 g6 p6=>?_;have u6:=u.keep fun a xs e=>L.tup k6 e;have S6:=S.lam L k6;walk_at "W";refine wDueT u6 T R hc2 c0 c1 fun dt dl dx H7 s7 hdl hdt d7 g7 p7=>?_;walk_at "W";refine wAlikeD (step_ty (s7 _ _ d6) d7 (s7 _ _ g6) g7 (p6.keep (SW.Same.tk s7)) p7) fun H8 s8=>?_;have s68:=s7.trans s8;have u8:=u6.keep (KeepT.same s68);have S8:=S6.same s68;have L8:=L6.same s68;have k8:KeepBut PS H H8:=fun b o n e=>s68 _ _ (k6 b o n e);clear s7 s8 s68 u6 S6 L6 k6 d6 g6 p6 d7 g7 p7 hdl hdt hl6 ht6;walk_at "W";refine iteF ?_;obtain⟨a,e,w',rfl,ha,he,hw⟩:=u8;have u8:StU H8 (.ref a) M:=⟨a,e,w',rfl,ha,he,hw⟩;walk_at "W";refine⟨rfl,_,rfl,?_⟩;have fin:∀ H',Same H8 H'->Q (.bl true) H':=fun H' s'=>k H' (L8.same s') fun b o n e=>s' _ _ (k8 b o n e);obtain⟨b2,ys2,rfl,hb2,hp2⟩:=hw;cases z:M.el with
 | none=>
   rw[z]at he;obtain rfl:e=.non:=he;rw[show(!decide (V.non=V.non))=false by simp]
   refine iteF ?_;walk_at "W";refine wT S8 nt_state ?_;walk_at "W";refine wTState S8 fun v9 H9 s9 u9=>?_;walk_at "W";refine wEqSt u9 (u8.keep (KeepT.same s9)) ?_;walk_at "W";refine iteT ?_;walk_at "W";have S9:=S8.same s9;refine wT S9 nt_sizes ?_;walk_at "W";refine wTSizes S9 fun a2 ha2=>?_;have s10:=Same.new (o:=.tup [szE M.el,.int (M.nw.length:Nat)]) ha2;have e2:upd H9 a2 (.tup [szE M.el,.int (M.nw.length:Nat)]) a2=some (.tup [szE M.el,.int (M.nw.length:Nat)]):=upd_same;have s8t:=s9.trans s10;generalize upd H9 a2 (.tup [szE M.el,.int (M.nw.length:Nat)])=H10 at *;have ha10:=s8t _ _ ha;walk_at "W";refine SW.iLen (.inr (SqT.of (s8t _ _ hb2))) ?_;walk_at "W";refine⟨by show(2:Nat)<=sizeLine;decide,fun t11 h11=>?_⟩
   rw[paired_len hp2];refine wEqSz (o:=M.el) ((Same.new h11) _ _ e2) (by rw[z];exact upd_same) (fin _ (s8t.trans (Same.new h11)))
 | some E=>
   rw[z]at he;obtain⟨b,xs,rfl,hb,hp⟩:=he;refine iteNN (fun y=>by cases y) ?_
   walk_at "W";refine SW.iLen (.inr (SqT.of hb)) ?_;walk_at "W";refine wT S8 nt_state ?_;walk_at "W";refine wTState S8 fun v9 H9 s9 u9=>?_;walk_at "W";refine wEqSt u9 (u8.keep (KeepT.same s9)) ?_;walk_at "W";refine iteT ?_;walk_at "W";have S9:=S8.same s9;refine wT S9 nt_sizes ?_;walk_at "W";refine wTSizes S9 fun a2 ha2=>?_;have s10:=Same.new (o:=.tup [szE M.el,.int (M.nw.length:Nat)]) ha2;have e2:upd H9 a2 (.tup [szE M.el,.int (M.nw.length:Nat)]) a2=some (.tup [szE M.el,.int (M.nw.length:Nat)]):=upd_same;have s8t:=s9.trans s10;generalize upd H9 a2 (.tup [szE M.el,.int (M.nw.length:Nat)])=H10 at *;have ha10:=s8t _ _ ha;walk_at "W";refine SW.iLen (.inr (SqT.of (s8t _ _ hb2))) ?_;walk_at "W";refine⟨by show(2:Nat)<=sizeLine;decide,fun t11 h11=>?_⟩
   rw[paired_len hp2];refine wEqSz (o:=M.el) ((Same.new h11) _ _ e2) (by rw[z];rw[paired_len hp];exact upd_same) (fin _ (s8t.trans (Same.new h11)))
theorem cut_to{xs:List V}{n:Nat}:cutV xs none (some (n:Int))=xs.take (min n xs.length):=by
 unfold cutV;rw[HT.sIx_none,HT.sIx_nat,List.drop_zero,Nat.sub_zero]
def spLawT(K:W.Frag)(PS:Addr):Sp:=fun vs H Q _=>∃(a:Addr) (ns:List Int),vs=[.ref a]/\SqL K H a (ns.map V.int)/\ns.length<=63/\H PS=some (.tbl #[]) /\ ∀ H',Q (.bl true) H'
structure I26L(C CT PS p q tb:Addr)(v:V)(f m:Int)(pc:Nat)(M:MT)(F:Addr->Prop)(xs:List V)(H:Hp):Prop where
 P:Pot H p
 S:Tb C CT H tb f m pc M 0 F
 u:StU H v M
 L:LamH lamP lamQ H PS
 q:H q=some (.lst xs)
theorem I26L.pot{C CT PS p q tb:Addr}{v:V}{f m:Int}{pc:Nat}{M:MT}{F:Addr->Prop}{xs:List V}{H H':Hp}(J:I26L C CT PS p q tb v f m pc M F xs H)(nq:q≠p)(np:¬ F p)(R:Pot H' p)(K:KeepBut p H H'):I26L C CT PS p q tb v f m pc M F xs H':=
 ⟨R,J.S.keep K.fr' (fun b hb z=>np (z ▸ hb)) fun b xs e z=>J.P.neT e z,J.u.keep (J.P.tk K),let⟨_,_,_,e⟩:=J.P;J.L.but e K,K _ _ nq J.q⟩
theorem I26L.step{C CT PS p q tb:Addr}{v:V}{f m:Int}{pc:Nat}{M:MT}{F:Addr->Prop}{xs:List V}{H H':Hp}(J:I26L C CT PS p q tb v f m pc M F xs H)(L:LamH lamP lamQ H' PS)(K:KeepBut PS H H'):I26L C CT PS p q tb v f m pc M F xs H':=
 ⟨let⟨a,b,c,e⟩:=J.P;⟨a,b,c,J.L.lst K e⟩,J.S.lam J.L K,J.u.keep fun _ _ e=>J.L.tup K e,L,J.L.lst K J.q⟩
theorem ok_law{f:Addr}{fd:FuncData}(F:Fun K "law" "law" z30_ f fd)(g:Gs K mg C CT cS PS)(q52_:Mkr P w K mg base CT "Table" 6 ["self","mixer","pace","state"] (spTInit C CT))(q12_:Fn P w K mg base "_law_pot" 1 ["cell"] spPotP)(q18_:Fn P w K mg base "_law_take" 2 ["pot","many"] spTakeP)(q10_:Fn P w K mg base "_law_mixer" 3 ["pot"] spMixerP)(q6_:Fn P w K mg base "_law_cursor" 3 ["pot"] spCursorP)(q17_:Fn P w K mg base "_law_state" 4 ["pot","mixer","k"] spState26)(q13_:Fn P w K mg base "_law_right" 7 ["table","state","cursor"] (spRight26 C CT PS)) :
 FnOk P w K mg base CX0 8 f fd ["script"] (spLawT K PS):=by
 refine fun_bx F z91_ (fun vs H Q E h=>?_) (fun cdv A outer s H vs Q E hr h=>?_)
 · obtain⟨a,ns,rfl,_⟩:=h
   rfl
 obtain⟨a,ns,rfl,hS,hlen,hPS,k⟩:=h;have lim:sizeLine=16777216:=sizeLine_eq;refine⟨_,(B.scons (B.fors (SW.B.ienum g.b_enumerate (B.cons (B.op op_cat (B.slice sl_list (B.v 0) B.nopart (B.part B.int)) (B.lst (B.cons (B.cB call_len_seq g.b_len SW.b_len (B.cons (B.v 0) B.nil)) B.nil))) B.nil)) (B.gtup (B.gcons (B.gname (i:=1) z91_.nd) (B.gcons (B.gname (i:=2) z91_.nd) B.gnil))) (B.scons (B.set 3 z91_.nd (B.fn q12_ hr.up (B.cons (B.v 2) B.nil)))
  (B.scons (B.set 4 z91_.nd (B.fn q10_ hr.up (B.cons (B.v 3) B.nil)))
  (B.scons (B.set 5 z91_.nd (B.fn q17_ hr.up (B.cons (B.v 3) (B.cons (B.v 4) (B.cons (B.v 1) B.nil)))))
  (B.scons (B.set 6 z91_.nd (B.make q52_ hr.up (B.cons (B.v 4) (B.cons (B.op op_add B.int (B.fn q18_ hr.up (B.cons (B.v 3) (B.cons B.int B.nil)))) (B.cons (B.v 5) B.nil)))))
  (B.sone (B.fors (B.irange g.b_range (B.cons B.int B.nil)) (B.gname (i:=7) z91_.nd) (B.sone (B.ifs (B.tnot (B.tval (B.fn q13_ hr.up (B.cons (B.v 6) (B.cons (B.v 5) (B.cons (B.fn q6_ hr.up (B.cons (B.v 3) B.nil)) B.nil)))))) (B.sone (B.ret B.bl)) B.snil)))))))))
  (B.sone (B.ret B.bl))),?_⟩
 walk_at "W";refine wEnum ?_;walk_at "W";refine⟨_,rfl,a,_,rfl,hS,fun l1 h1=>?_⟩;obtain⟨cs,ecs,_⟩:=cut_ints ns none (some 3);have hcs:cs.length<=3:=by
  have this:(cutV (ns.map V.int) none (some 3)).length=cs.length:=by rw[ecs,List.length_map]
  rw[← this];exact Nat.le_trans (by rw[show(3:Int)=((3:Nat):Int)from rfl,cut_to];exact List.length_take_le ..) (Nat.min_le_left ..)
 rw[ecs];have s1:=Same.new (o:=.lst (cs.map V.int)) h1;have g1:upd H l1 (.lst (cs.map V.int)) l1=some (.lst (cs.map V.int)):=upd_same;generalize upd H l1 (.lst (cs.map V.int))=H1 at *;walk_at "W";refine SW.iLen (.inl (s1.seq hS)) ?_;walk_at "W";refine⟨by show(1:Nat)<=sizeLine;decide,fun l2 h2=>?_⟩
 have s2:=Same.new (o:=.lst [.int ((ns.map V.int).length:Nat)]) h2;have g2:upd H1 l2 (.lst [.int ((ns.map V.int).length:Nat)]) l2=some (.lst [.int ((ns.map V.int).length:Nat)]):=upd_same;have f2:=s2 _ _ g1;generalize upd H1 l2 (.lst [.int ((ns.map V.int).length:Nat)])=H2 at *;walk_at "W";refine⟨l1,l2,_,_,rfl,rfl,f2,g2,by rw[List.length_map];show _+1<=sizeLine;omega,fun q hq=>?_⟩
 obtain⟨ds,hds⟩:∃ ds:List Int,ds=cs++[(((ns.map V.int).length:Nat):Int)]:=⟨_,rfl⟩;rw[show cs.map V.int++[V.int (((ns.map V.int).length:Nat):Int)]=ds.map V.int by rw[hds,List.map_append];rfl]at *
 have s3:=Same.new (o:=.lst (ds.map V.int)) hq;have hq3:upd H2 q (.lst (ds.map V.int)) q=some (.lst (ds.map V.int)):=upd_same;have L3:LamH lamP lamQ (upd H2 q (.lst (ds.map V.int))) PS:=.inl (((s1.trans s2).trans s3) _ _ hPS);generalize upd H2 q (.lst (ds.map V.int))=H3 at *;clear s1 s2 s3 g1 g2 f2 hS hPS;have lamB:∀{A B:Hp}{p:Addr},LamH lamP lamQ A PS->Pot A p->KeepBut p A B->LamH lamP lamQ B PS:=fun L R K=>let⟨_,_,_,e⟩:=R;L.but e K;walk_at "W";refine⟨q,rfl,⟨_,SqL.of hq3⟩,?_⟩;refine for_enum (xs:=ds.map V.int) (fun i σ H'=>∃(v1 v2 v3 v4 v5 v6 v7:Option V),σ=[some (.ref a),v1,v2,v3,v4,v5,v6,v7]/\LamH lamP lamQ H' PS/\H' q=some (.lst (ds.map V.int))) ⟨none,none,none,none,none,none,none,rfl,L3,hq3⟩ ?_ ?_ ?_
 · rintro i σ H' ⟨v1,v2,v3,v4,v5,v6,v7,rfl,_,hq'⟩
   exact SqL.of hq'
 · clear L3 hq3
   rintro i y σ H4 T hi hT ⟨v1,v2,v3,v4,v5,v6,v7,rfl,L4',hq4'⟩;obtain⟨c,rfl⟩:=getInt hi;refine⟨T,_,rfl,SqT.of upd_same,rfl,_,_,rfl,?_⟩;have sT:=Same.new (o:=.tup [.int i,.int c]) hT;have L4:=L4'.same sT;have hq4:=sT _ _ hq4';generalize upd H4 T (.tup [.int i,.int c])=H4 at *;clear L4' hq4' sT;walk_at "W";refine⟨_,_,rfl,?_⟩;walk_at "W";refine⟨rfl,?_⟩;walk_at "W";refine wPotP fun p H5 hp s5 R5=>?_;have nqp:q≠p:=ne_of_none hq4 hp;have L5:=L4.same s5;have hq5:=s5 _ _ hq4;clear L4 hq4 s5 hp;walk_at "W";refine wMixerP R5 fun t H6 mx R6 K6=>?_;have L6:=lamB L5 R5 K6;have hq6:=K6 _ _ nqp hq5;obtain⟨f1,o1,hm,f10,f11,_⟩:=mx;clear L5 R5 K6 hq5;walk_at "W";refine⟨p,t,f1,o1,_,rfl,R6,hm,⟨f10,f11⟩,fun v M H7 R7 K7 u7 TM RM cM=>?_⟩;have L7:=lamB L6 R6 K7;have hq7:=K7 _ _ nqp hq6;have hm7:=K7 _ _ (R6.neT hm) hm;clear L6 R6 K7 hq6 hm;walk_at "W";refine wTakeP R7 (by decide) (by decide) fun r8 H8 a8 b8 R8 K8=>?_
   have L8:=lamB L7 R7 K8;have hq8:=K8 _ _ nqp hq7;have hm8:=K8 _ _ (R7.neT hm7) hm7;have u8:=u7.keep (R7.tk K8);obtain⟨pv,epv⟩:∃ pv:Int,pv=1+r8:=⟨_,rfl⟩;have pv0:0<=pv:=by omega
   clear L7 R7 K8 hq7 hm7 u7;walk_at "W";rw[← epv];refine wTableG (n:=pv) hm8 ⟨f10,f11⟩ pv0 TM (Nat.le_trans cM (by decide)) (.inr u8) fun t1 H9 F1 S9 n9 s9=>?_
   have np1:¬ F1 p:=fun z=>by obtain⟨_,_,_,e⟩:=R8;rw[n9 p z]at e;cases e
   have J9:I26L C CT PS p q t1 v f1 o1 pv.toNat M F1 (ds.map V.int) H9:=⟨R8.same s9,S9,u8.keep (KeepT.same s9),L8.same s9,s9 _ _ hq8⟩;clear L8 R8 hq8 hm8 u8 S9 n9 s9;walk_at "W";refine⟨4,rfl,by decide,by decide,for_range (n:=4) (fun j σ H'=>∃ x:Option V,σ=[some (.ref a),some (.int (i:Nat)),some (.int c),some (.ref p),some (.ref t),some v,some (.ref t1),x]/\I26L C CT PS p q t1 v f1 o1 pv.toNat M F1 (ds.map V.int) H') ⟨_,rfl,J9⟩ ?_ ?_⟩
   · rintro j σ H' hj ⟨x,rfl,J10⟩
     walk_at "W";refine wCursorP J10.P fun cu H11 c0 c1 R11 K11=>?_;have J11:=J10.pot nqp np1 R11 K11;walk_at "W";refine wRight26 J11.S TM RM cM J11.u c0 c1 J11.L fun H12 L12 K12=>?_;walk_at "W";refine iteF ?_;walk_at "W";exact⟨_,rfl,J11.step L12 K12⟩
   rintro σ H' ⟨x,rfl,J10⟩;walk_at "W";exact⟨_,_,_,_,_,_,_,rfl,J10.L,J10.q⟩
 rintro σ H' ⟨v1,v2,v3,v4,v5,v6,v7,rfl,_,hq'⟩;walk_at "W";exact k _
theorem all_mk{l:W.OpenLaw}{w:World}{K:W.Frag}{h:Heap}{mg:Str->Option Value}{fa:Addr}(X:K.In h)(G:h.Ns mainGlobals mg)(hfa:mg "law"=some (.ref fa))
 {C_Shelf:Addr}
 {C_Table:Addr}
 {f0:Addr}{g0:FuncData}
 {f1:Addr}{g1:FuncData}
 {f2:Addr}{g2:FuncData}
 {f3:Addr}{g3:FuncData}
 {f4:Addr}{g4:FuncData}
 {f5:Addr}{g5:FuncData}
 {f6:Addr}{g6:FuncData}
 {f7:Addr}{g7:FuncData}
 {f8:Addr}{g8:FuncData}
 {f9:Addr}{g9:FuncData}
 {f10:Addr}{g10:FuncData}
 {f11:Addr}{g11:FuncData}
 {f12:Addr}
 {lOc:Value}{lOd lcD:Option Addr}{lkV lDoc lPm lCt:Value}{lAn:Option Addr}{lSl lcS lbS:Array (Option Value)}{lC lP lB:Addr}{lV:Array Value}{lFile:Str}{lTf lTg lTt:Tok}{lFl lTx:Int}{lIn:Bool}
 {f13:Addr}{g13:FuncData}
 {f14:Addr}{g14:FuncData}
 {f15:Addr}{g15:FuncData}
 {f16:Addr}{g16:FuncData}
 {f17:Addr}{g17:FuncData}
 {f18:Addr}{g18:FuncData}
 {f19:Addr}{g19:FuncData}
 {f20:Addr}{g20:FuncData}
 {f21:Addr}{g21:FuncData}
 {f22:Addr}{g22:FuncData}
 {f23:Addr}{g23:FuncData}
 {f24:Addr}{g24:FuncData}
 {f25:Addr}{g25:FuncData}
 {f26:Addr}{g26:FuncData}
 {f27:Addr}{g27:FuncData}
 {f28:Addr}{g28:FuncData}
 {f29:Addr}{g29:FuncData}
 {f30:Addr}{g30:FuncData}
 {f31:Addr}{g31:FuncData}
 {f32:Addr}{g32:FuncData}
 {f33:Addr}{g33:FuncData}
 {f34:Addr}{g34:FuncData}
 {f35:Addr}{g35:FuncData}
 {f36:Addr}{g36:FuncData}
 {f37:Addr}{g37:FuncData}
 {tk0:Tok}
 {tk1:Tok}
 {tA_SIZES:Addr}{tD_SIZES:Option Addr}{tN_SIZES:Nat}{tS_SIZES:Array (Option Value)}{tT_SIZES_0 tT_SIZES_1 tT_SIZES_2 tT_SIZES_3 tT_SIZES_4 tT_SIZES_5 tT_SIZES_6 tT_SIZES_7 tT_SIZES_8 tT_SIZES_9 tT_SIZES_10:Tok}
 {eA_ eB_ eC0 eC1 eC2 eC3:Addr}{eD0 eD1 eD2 eD3 eD4 eD5:Option Addr}{eN0 eN1 eN2 eN3 eN4 eN5:Nat}{eS0 eS1 eS2 eS3 eS4 eS5:Array (Option Value)}{eT_:Tok}
 (q_Shelf:W.nsIn K mainGlobals "Shelf"=some (some (.ref C_Shelf)))
 (pg_Shelf:W.plainGet K C_Shelf Str.empty=true)
 (hd_Shelf:W.hasDictIn K C_Shelf=true)
 (po_Shelf:W.plainOver K C_Shelf=true)
 (sa_Shelf:W.findIn K (.ref C_Shelf) "__setattr__"=some (some (.builtin "object.__setattr__")))
 (mk_Shelf:W.makesIn K C_Shelf=true)
 (kc_Shelf:W.keepIn K (.ref C_Shelf)=true)
 (na_Shelf_mixer:W.findIn K (.ref C_Shelf) "mixer"=some none)
 (na_Shelf_rows:W.findIn K (.ref C_Shelf) "rows"=some none)
 (na_Shelf_held:W.findIn K (.ref C_Shelf) "held"=some none)
 (q_Table:W.nsIn K mainGlobals "Table"=some (some (.ref C_Table)))
 (pg_Table:W.plainGet K C_Table Str.empty=true)
 (hd_Table:W.hasDictIn K C_Table=true)
 (po_Table:W.plainOver K C_Table=true)
 (sa_Table:W.findIn K (.ref C_Table) "__setattr__"=some (some (.builtin "object.__setattr__")))
 (mk_Table:W.makesIn K C_Table=true)
 (kc_Table:W.keepIn K (.ref C_Table)=true)
 (na_Table_mixer:W.findIn K (.ref C_Table) "mixer"=some none)
 (na_Table_pace:W.findIn K (.ref C_Table) "pace"=some none)
 (na_Table_elder:W.findIn K (.ref C_Table) "elder"=some none)
 (na_Table_moved:W.findIn K (.ref C_Table) "moved"=some none)
 (na_Table_newer:W.findIn K (.ref C_Table) "newer"=some none)
 (na_Table_touches:W.findIn K (.ref C_Table) "touches"=some none)
 (a0:W.nsIn K mainGlobals "mark_of"=some (some (.ref f0)))
 (u0:Fun K "mark_of" "mark_of" z50_ f0 g0)
 (a1:W.nsIn K mainGlobals "place_of"=some (some (.ref f1)))
 (u1:Fun K "place_of" "place_of" z53_ f1 g1)
 (a2:W.nsIn K mainGlobals "point_of"=some (some (.ref f2)))
 (u2:Fun K "point_of" "point_of" z55_ f2 g2)
 (a3:W.nsIn K mainGlobals "stretch_of"=some (some (.ref f3)))
 (u3:Fun K "stretch_of" "stretch_of" z59_ f3 g3)
 (a4:W.findIn K (.ref C_Table) "shelves"=some (some (.ref f4)))
 (i4:W.isFn K (.ref f4)=true)
 (u4:Fun K "shelves" "Table.shelves" z22_ f4 g4)
 (a5:W.findIn K (.ref C_Shelf) "size"=some (some (.ref f5)))
 (i5:W.isFn K (.ref f5)=true)
 (u5:Fun K "size" "Shelf.size" z10_ f5 g5)
 (a6:W.nsIn K mainGlobals "is_whole"=some (some (.ref f6)))
 (u6:Fun K "is_whole" "is_whole" z29_ f6 g6)
 (a7:W.findIn K (.ref C_Shelf) "check_place"=some (some (.ref f7)))
 (i7:W.isFn K (.ref f7)=true)
 (u7:Fun K "check_place" "Shelf.check_place" z1_ f7 g7)
 (a8:W.findIn K (.ref C_Shelf) "row"=some (some (.ref f8)))
 (i8:W.isFn K (.ref f8)=true)
 (u8:Fun K "row" "Shelf.row" z8_ f8 g8)
 (a9:W.nsIn K mainGlobals "place_at"=some (some (.ref f9)))
 (u9:Fun K "place_at" "place_at" z52_ f9 g9)
 (a10:W.nsIn K mainGlobals "parts_left"=some (some (.ref f10)))
 (u10:Fun K "parts_left" "parts_left" z51_ f10 g10)
 (a11:W.nsIn K mainGlobals "point_behind"=some (some (.ref f11)))
 (u11:Fun K "point_behind" "point_behind" z54_ f11 g11)
 (a12:W.nsIn K mainGlobals "step"=some (some (.ref f12)))
 (ll_:K.lookup f12=some ⟨lOc,lOd,.func (W.fnOf "step" "step" (defArgs z58_) (defBody z58_) (defScope z58_) .none lkV lDoc lPm lAn (.ref lC) lCt),lSl⟩)
 (lm_:W.codeIn K (.ref lC) "step"=true)
 (lk_:W.keepIn K (.ref f12)=true)
 (lo_:K.lookup lC=some ⟨.type "code",lcD,.fields lV,lcS⟩)
 (le11:lV[11]?=some (.ref lP))
 (le18:lV[18]?=some (.str lFile lTf))
 (le7:lV[7]?=some (.int lFl lTg))
 (le9:lV[9]?=some (.bool lIn))
 (le10:lV[10]?=some (.int lTx lTt))
 (lp_:K.lookup lP=some (W.tabObj #[]))
 (le0:(lC == lP)=false)
 (lb_:W.nsIn K mainGlobals "__builtins__"=some (some (.ref lB)))
 (lc_:K.lookup lB=some ⟨.type "module",some builtinsNs,.plain,lbS⟩)
 (le1:(lB == builtinsNs)=false)
 (le2:(lB == mainGlobals)=false)
 (a13:W.nsIn K mainGlobals "is_size"=some (some (.ref f13)))
 (u13:Fun K "is_size" "is_size" z28_ f13 g13)
 (a14:W.findIn K (.ref C_Shelf) "__init__"=some (some (.ref f14)))
 (i14:W.isFn K (.ref f14)=true)
 (u14:Fun K "__init__" "Shelf.__init__" z0_ f14 g14)
 (a15:W.findIn K (.ref C_Shelf) "place_with"=some (some (.ref f15)))
 (i15:W.isFn K (.ref f15)=true)
 (u15:Fun K "place_with" "Shelf.place_with" z6_ f15 g15)
 (a16:W.findIn K (.ref C_Shelf) "row_with"=some (some (.ref f16)))
 (i16:W.isFn K (.ref f16)=true)
 (u16:Fun K "row_with" "Shelf.row_with" z9_ f16 g16)
 (a17:W.findIn K (.ref C_Shelf) "put"=some (some (.ref f17)))
 (i17:W.isFn K (.ref f17)=true)
 (u17:Fun K "put" "Shelf.put" z7_ f17 g17)
 (a18:W.nsIn K mainGlobals "shelf_of"=some (some (.ref f18)))
 (u18:Fun K "shelf_of" "shelf_of" z57_ f18 g18)
 (a19:W.findIn K (.ref C_Table) "__init__"=some (some (.ref f19)))
 (i19:W.isFn K (.ref f19)=true)
 (u19:Fun K "__init__" "Table.__init__" z11_ f19 g19)
 (a20:W.nsIn K mainGlobals "rows_of"=some (some (.ref f20)))
 (u20:Fun K "rows_of" "rows_of" z56_ f20 g20)
 (a21:W.findIn K (.ref C_Table) "state"=some (some (.ref f21)))
 (i21:W.isFn K (.ref f21)=true)
 (u21:Fun K "state" "Table.state" z25_ f21 g21)
 (a22:W.findIn K (.ref C_Table) "sizes"=some (some (.ref f22)))
 (i22:W.isFn K (.ref f22)=true)
 (u22:Fun K "sizes" "Table.sizes" z23_ f22 g22)
 (a23:W.nsIn K mainGlobals "_law_mixed"=some (some (.ref f23)))
 (u23:Fun K "_law_mixed" "_law_mixed" z38_ f23 g23)
 (a24:W.nsIn K mainGlobals "_law_pot"=some (some (.ref f24)))
 (u24:Fun K "_law_pot" "_law_pot" z42_ f24 g24)
 (a25:W.nsIn K mainGlobals "_law_take"=some (some (.ref f25)))
 (u25:Fun K "_law_take" "_law_take" z48_ f25 g25)
 (a26:W.nsIn K mainGlobals "_law_mixer"=some (some (.ref f26)))
 (u26:Fun K "_law_mixer" "_law_mixer" z39_ f26 g26)
 (a27:W.nsIn K mainGlobals "_law_worth"=some (some (.ref f27)))
 (u27:Fun K "_law_worth" "_law_worth" z49_ f27 g27)
 (a28:W.nsIn K mainGlobals "_law_keys"=some (some (.ref f28)))
 (u28:Fun K "_law_keys" "_law_keys" z37_ f28 g28)
 (a29:W.nsIn K mainGlobals "_law_point"=some (some (.ref f29)))
 (u29:Fun K "_law_point" "_law_point" z41_ f29 g29)
 (a30:W.nsIn K mainGlobals "_law_due"=some (some (.ref f30)))
 (u30:Fun K "_law_due" "_law_due" z36_ f30 g30)
 (a31:W.nsIn K mainGlobals "_law_cursor"=some (some (.ref f31)))
 (u31:Fun K "_law_cursor" "_law_cursor" z33_ f31 g31)
 (a32:W.nsIn K mainGlobals "_law_same"=some (some (.ref f32)))
 (u32:Fun K "_law_same" "_law_same" z45_ f32 g32)
 (a33:W.nsIn K mainGlobals "_law_rows"=some (some (.ref f33)))
 (u33:Fun K "_law_rows" "_law_rows" z44_ f33 g33)
 (a34:W.nsIn K mainGlobals "_law_sizes"=some (some (.ref f34)))
 (u34:Fun K "_law_sizes" "_law_sizes" z46_ f34 g34)
 (a35:W.nsIn K mainGlobals "_law_state"=some (some (.ref f35)))
 (u35:Fun K "_law_state" "_law_state" z47_ f35 g35)
 (a36:W.nsIn K mainGlobals "_law_right"=some (some (.ref f36)))
 (u36:Fun K "_law_right" "_law_right" z43_ f36 g36)
 (a37:W.nsIn K mainGlobals "law"=some (some (.ref f37)))
 (u37:Fun K "law" "law" z30_ f37 g37)
 (cst0:W.nsIn K mainGlobals "MARK_BITS"=some (some (.int 16 tk0)))
 (cst1:W.nsIn K mainGlobals "MARKS"=some (some (.int 65536 tk1)))
 (ta_SIZES:W.nsIn K mainGlobals "SIZES"=some (some (.ref tA_SIZES)))
 (tl_SIZES:K.lookup tA_SIZES=some ⟨.type "tuple",tD_SIZES,.seq #[.int 4 tT_SIZES_0,.int 8 tT_SIZES_1,.int 16 tT_SIZES_2,.int 32 tT_SIZES_3,.int 64 tT_SIZES_4,.int 128 tT_SIZES_5,.int 256 tT_SIZES_6,.int 512 tT_SIZES_7,.int 1024 tT_SIZES_8,.int 2048 tT_SIZES_9,.int 4096 tT_SIZES_10] tN_SIZES,tS_SIZES⟩)
 (ea_:W.nsIn K mainGlobals "EMPTY"=some (some (.ref eA_)))
 (eb_:K.lookup eA_=some ⟨.type "tuple",eD0,.seq #[.none,.int 0 eT_,.ref eB_] eN0,eS0⟩)
 (ec_:K.lookup eB_=some ⟨.type "tuple",eD1,.seq #[.ref eC0,.ref eC1,.ref eC2,.ref eC3] eN1,eS1⟩)
 (ed0:K.lookup eC0=some ⟨.type "tuple",eD2,.seq #[] eN2,eS2⟩)
 (ed1:K.lookup eC1=some ⟨.type "tuple",eD3,.seq #[] eN3,eS3⟩)
 (ed2:K.lookup eC2=some ⟨.type "tuple",eD4,.seq #[] eN4,eS4⟩)
 (ed3:K.lookup eC3=some ⟨.type "tuple",eD5,.seq #[] eN5,eS5⟩)
 (blt0:W.nsIn K mainGlobals "int"=some none)
 (blt1:W.nsIn K mainGlobals "bool"=some none)
 (blt2:W.nsIn K mainGlobals "isinstance"=some none)
 (blt3:W.nsIn K mainGlobals "range"=some none)
 (blt4:W.nsIn K mainGlobals "len"=some none)
 (blt5:W.nsIn K mainGlobals "list"=some none)
 (blt6:W.nsIn K mainGlobals "tuple"=some none)
 (blt7:W.nsIn K mainGlobals "sum"=some none)
 (blt8:W.nsIn K mainGlobals "min"=some none)
 (blt9:W.nsIn K mainGlobals "max"=some none)
 (blt10:W.nsIn K mainGlobals "set"=some none)
 (blt11:W.nsIn K mainGlobals "str"=some none)
 (blt12:W.nsIn K mainGlobals "enumerate"=some none)
 (blt13:W.nsIn K mainGlobals "sorted"=some none) :
 ∃(c P:Addr) (fd:FuncData),K.lookup P=some (W.tabObj #[])/\W.CodeHd h c P/\(∀(s:Shared) (v:Value),BindsTo s fd ⟨[v],[]⟩ [("script",v)]) /\ ∀ base:Heap,(wo K P).In base->base.Ns mainGlobals mg->FnOk l.prog w (wo K P) mg base CX0 8 fa fd ["script"] (spLawT (wo K P) P):=by
 have e:=hfa.symm.trans (W.mg_of X G a37);cases e;have pg_Shelf:=(wo_plainGet lp_).trans pg_Shelf;have hd_Shelf:=(wo_hasDictIn lp_).trans hd_Shelf;have po_Shelf:=(wo_plainOver lp_).trans po_Shelf;have sa_Shelf:=(wo_findIn lp_).trans sa_Shelf;have mk_Shelf:=wo_makesIn lp_ mk_Shelf;have kc_Shelf:=wo_keepIn lp_ kc_Shelf;have na_Shelf_mixer:=(wo_findIn lp_).trans na_Shelf_mixer;have na_Shelf_rows:=(wo_findIn lp_).trans na_Shelf_rows;have na_Shelf_held:=(wo_findIn lp_).trans na_Shelf_held;have pg_Table:=(wo_plainGet lp_).trans pg_Table;have hd_Table:=(wo_hasDictIn lp_).trans hd_Table;have po_Table:=(wo_plainOver lp_).trans po_Table;have sa_Table:=(wo_findIn lp_).trans sa_Table;have mk_Table:=wo_makesIn lp_ mk_Table;have kc_Table:=wo_keepIn lp_ kc_Table;have na_Table_mixer:=(wo_findIn lp_).trans na_Table_mixer;have na_Table_pace:=(wo_findIn lp_).trans na_Table_pace;have na_Table_elder:=(wo_findIn lp_).trans na_Table_elder;have na_Table_moved:=(wo_findIn lp_).trans na_Table_moved;have na_Table_newer:=(wo_findIn lp_).trans na_Table_newer;have na_Table_touches:=(wo_findIn lp_).trans na_Table_touches;have u0:=Fun.wo lp_ u0;have u1:=Fun.wo lp_ u1;have u2:=Fun.wo lp_ u2;have u3:=Fun.wo lp_ u3;have a4:=(wo_findIn lp_).trans a4;have i4:=wo_isFn lp_ i4;have u4:=Fun.wo lp_ u4;have a5:=(wo_findIn lp_).trans a5;have i5:=wo_isFn lp_ i5;have u5:=Fun.wo lp_ u5;have u6:=Fun.wo lp_ u6;have a7:=(wo_findIn lp_).trans a7;have i7:=wo_isFn lp_ i7;have u7:=Fun.wo lp_ u7;have a8:=(wo_findIn lp_).trans a8;have i8:=wo_isFn lp_ i8;have u8:=Fun.wo lp_ u8;have u9:=Fun.wo lp_ u9;have u10:=Fun.wo lp_ u10;have u11:=Fun.wo lp_ u11;have u13:=Fun.wo lp_ u13;have a14:=(wo_findIn lp_).trans a14;have i14:=wo_isFn lp_ i14;have u14:=Fun.wo lp_ u14;have a15:=(wo_findIn lp_).trans a15;have i15:=wo_isFn lp_ i15;have u15:=Fun.wo lp_ u15;have a16:=(wo_findIn lp_).trans a16;have i16:=wo_isFn lp_ i16;have u16:=Fun.wo lp_ u16;have a17:=(wo_findIn lp_).trans a17;have i17:=wo_isFn lp_ i17;have u17:=Fun.wo lp_ u17;have u18:=Fun.wo lp_ u18;have a19:=(wo_findIn lp_).trans a19;have i19:=wo_isFn lp_ i19;have u19:=Fun.wo lp_ u19;have u20:=Fun.wo lp_ u20;have a21:=(wo_findIn lp_).trans a21;have i21:=wo_isFn lp_ i21;have u21:=Fun.wo lp_ u21;have a22:=(wo_findIn lp_).trans a22;have i22:=wo_isFn lp_ i22;have u22:=Fun.wo lp_ u22;have u23:=Fun.wo lp_ u23;have u24:=Fun.wo lp_ u24;have u25:=Fun.wo lp_ u25;have u26:=Fun.wo lp_ u26;have u27:=Fun.wo lp_ u27;have u28:=Fun.wo lp_ u28;have u29:=Fun.wo lp_ u29;have u30:=Fun.wo lp_ u30;have u31:=Fun.wo lp_ u31;have u32:=Fun.wo lp_ u32;have u33:=Fun.wo lp_ u33;have u34:=Fun.wo lp_ u34;have u35:=Fun.wo lp_ u35;have u36:=Fun.wo lp_ u36;have u37:=Fun.wo lp_ u37;have tl_SIZES:=wo_lk lp_ tl_SIZES (fun z=>by cases z)
 have eb_:=wo_lk lp_ eb_ (fun z=>by cases z)
 have ec_:=wo_lk lp_ ec_ (fun z=>by cases z)
 have ed0:=wo_lk lp_ ed0 (fun z=>by cases z)
 have ed1:=wo_lk lp_ ed1 (fun z=>by cases z)
 have ed2:=wo_lk lp_ ed2 (fun z=>by cases z)
 have ed3:=wo_lk lp_ ed3 (fun z=>by cases z)
 have lamk:=lam_k X G lp_ lo_ le11 le18 le7 le9 le10 le0 lb_ lc_ le1 le2;have g:Gs (wo K lP) mg C_Shelf C_Table lC lP:=⟨⟨_,W.mg_of X G cst0⟩,⟨_,W.mg_of X G cst1⟩,⟨_,W.mg_of X G ta_SIZES,fun H=>.inr ⟨_,_,_,tl_SIZES,rfl,rfl,by show(11:Nat)<=sizeLine;decide,.cons ⟨_,rfl⟩ (.cons ⟨_,rfl⟩ (.cons ⟨_,rfl⟩ (.cons ⟨_,rfl⟩ (.cons ⟨_,rfl⟩ (.cons ⟨_,rfl⟩ (.cons ⟨_,rfl⟩ (.cons ⟨_,rfl⟩ (.cons ⟨_,rfl⟩ (.cons ⟨_,rfl⟩ (.cons ⟨_,rfl⟩ (.nil)))))))))))⟩⟩,⟨_,_,W.mg_of X G ea_,fun H=>.inr ⟨_,_,_,eb_,rfl,rfl,by show(3:Nat)<=sizeLine;decide,.cons rfl (.cons ⟨_,rfl⟩ (.cons rfl .nil))⟩,fun H=>⟨[.ref _,.ref _,.ref _,.ref _],.inr ⟨_,_,_,ec_,rfl,rfl,by show(4:Nat)<=sizeLine;decide,.cons rfl (.cons rfl (.cons rfl (.cons rfl .nil)))⟩,.cons ⟨_,[],rfl,.inr ⟨_,_,_,ed0,rfl,rfl,by show(0:Nat)<=sizeLine;decide,.nil⟩,.nil⟩ (.cons ⟨_,[],rfl,.inr ⟨_,_,_,ed1,rfl,rfl,by show(0:Nat)<=sizeLine;decide,.nil⟩,.nil⟩ (.cons ⟨_,[],rfl,.inr ⟨_,_,_,ed2,rfl,rfl,by show(0:Nat)<=sizeLine;decide,.nil⟩,.nil⟩ (.cons ⟨_,[],rfl,.inr ⟨_,_,_,ed3,rfl,rfl,by show(0:Nat)<=sizeLine;decide,.nil⟩,.nil⟩ .nil)))⟩⟩,⟨pg_Shelf,hd_Shelf,po_Shelf,sa_Shelf⟩,na_Shelf_mixer,na_Shelf_rows,na_Shelf_held,⟨pg_Table,hd_Table,po_Table,sa_Table⟩,na_Table_mixer,na_Table_pace,na_Table_elder,na_Table_moved,na_Table_newer,na_Table_touches,W.mg_none_of X G blt0,W.mg_none_of X G blt1,W.mg_none_of X G blt2,W.mg_none_of X G blt3,W.mg_none_of X G blt4,W.mg_none_of X G blt5,W.mg_none_of X G blt6,W.mg_none_of X G blt7,W.mg_none_of X G blt8,W.mg_none_of X G blt9,W.mg_none_of X G blt10,W.mg_none_of X G blt11,W.mg_none_of X G blt12,W.mg_none_of X G blt13,lamk⟩
 have FL:=u37;obtain⟨oc,od,kV,dc,pm,an,cd,ct,sl,rfl,_,_⟩:=id FL.ex;refine⟨lC,lP,W.fnOf "law" "law" (defArgs z30_) (defBody z30_) (defScope z30_) .none kV dc pm an cd ct,lp_,code_hd X lo_ le11 le18 le7 le9 le10 le0,fun s v=>.of_eq rfl,fun base _ _=>?_⟩;have T0:=q20_ (P:=l.prog) (w:=w) (base:=base) ⟨_,_,u0,W.mg_of X G a0,SW.bd2 u0⟩ g;have T1:=q26_ (P:=l.prog) (w:=w) (base:=base) ⟨_,_,u1,W.mg_of X G a1,SW.bd2 u1⟩;have T2:=q29_ (P:=l.prog) (w:=w) (base:=base) ⟨_,_,u2,W.mg_of X G a2,SW.bd1 u2⟩ g;have T3:=q46_ (P:=l.prog) (w:=w) (base:=base) ⟨_,_,u3,W.mg_of X G a3,SW.bd2 u3⟩ g T2;have T4:=q70_ (P:=l.prog) (w:=w) (base:=base) ⟨_,_,u4,⟨a4,i4,u4.kp⟩,SW.bd1 u4⟩ g;have T5:=q68_ (P:=l.prog) (w:=w) (base:=base) ⟨_,_,u5,⟨a5,i5,u5.kp⟩,SW.bd1 u5⟩ g;have T6:=q49_ (P:=l.prog) (w:=w) (base:=base) ⟨_,_,u6,W.mg_of X G a6,SW.bd1 u6⟩ g;have T7:=q62_ (P:=l.prog) (w:=w) (base:=base) ⟨_,_,u7,⟨a7,i7,u7.kp⟩,SW.bd2 u7⟩ g T6;have T8:=q66_ (P:=l.prog) (w:=w) (base:=base) ⟨_,_,u8,⟨a8,i8,u8.kp⟩,SW.bd2 u8⟩ g T7;have T9:=q27_ (P:=l.prog) (w:=w) (base:=base) ⟨_,_,u9,W.mg_of X G a9,SW.bd2 u9⟩ g T2 T1;have T10:=q24_ (P:=l.prog) (w:=w) (base:=base) ⟨_,_,u10,W.mg_of X G a10,SW.bd3 u10⟩ g T3;have T11:=q0_ (P:=l.prog) (w:=w) (base:=base) ⟨_,_,u11,W.mg_of X G a11,SW.bd2 u11⟩ g T3;have T12:=q45_ (P:=l.prog) (w:=w) (base:=base) ⟨_,_,_,_,_,_,_,_,_,wo_lk lp_ ll_ (fun z=>by cases z),wo_codeIn lp_ lm_,wo_keepIn lp_ lk_,W.mg_of X G a12,Binds.all fun us hl=>len2 us hl (by intros;rfl)⟩ g T4 T5 T8 T9 T10 T11
 have T13:=q42_ (P:=l.prog) (w:=w) (base:=base) ⟨_,_,u13,W.mg_of X G a13,SW.bd1 u13⟩ g T6;have T14:=q63_ (P:=l.prog) (w:=w) (base:=base) ⟨_,_,u14,⟨mk_Shelf,a14,i14,kc_Shelf⟩,W.mg_of X G q_Shelf,SW.bd3 u14⟩ g T13;have T15:=q64_ (P:=l.prog) (w:=w) (base:=base) ⟨_,_,u15,⟨a15,i15,u15.kp⟩,SW.bd2 u15⟩ g T0 T1;have T16:=q67_ (P:=l.prog) (w:=w) (base:=base) ⟨_,_,u16,⟨a16,i16,u16.kp⟩,SW.bd2 u16⟩ g T15;have T17:=q65_ (P:=l.prog) (w:=w) (base:=base) ⟨_,_,u17,⟨a17,i17,u17.kp⟩,SW.bd3 u17⟩ g T16;have T18:=q41_ (P:=l.prog) (w:=w) (base:=base) ⟨_,_,u18,W.mg_of X G a18,SW.bd2 u18⟩ g T14 T17;have T19:=q69_ (P:=l.prog) (w:=w) (base:=base) ⟨_,_,u19,⟨mk_Table,a19,i19,kc_Table⟩,W.mg_of X G q_Table,SW.bd4 u19⟩ g T18;have T20:=q36_ (P:=l.prog) (w:=w) (base:=base) ⟨_,_,u20,W.mg_of X G a20,SW.bd1 u20⟩ g T5 T8;have T21:=q72_ (P:=l.prog) (w:=w) (base:=base) ⟨_,_,u21,⟨a21,i21,u21.kp⟩,SW.bd1 u21⟩ g T20;have T22:=q71_ (P:=l.prog) (w:=w) (base:=base) ⟨_,_,u22,⟨a22,i22,u22.kp⟩,SW.bd1 u22⟩ g T5;have T23:=q22_ (P:=l.prog) (w:=w) (base:=base) ⟨_,_,u23,W.mg_of X G a23,SW.bd2 u23⟩;have T24:=q33_ (P:=l.prog) (w:=w) (base:=base) ⟨_,_,u24,W.mg_of X G a24,SW.bd1 u24⟩ g;have T25:=q48_ (P:=l.prog) (w:=w) (base:=base) ⟨_,_,u25,W.mg_of X G a25,SW.bd2 u25⟩ T23;have T26:=q23_ (P:=l.prog) (w:=w) (base:=base) ⟨_,_,u26,W.mg_of X G a26,SW.bd1 u26⟩ T25;have T27:=q50_ (P:=l.prog) (w:=w) (base:=base) ⟨_,_,u27,W.mg_of X G a27,SW.bd1 u27⟩ T25;have T28:=q5_ (P:=l.prog) (w:=w) (base:=base) ⟨_,_,u28,W.mg_of X G a28,SW.bd2 u28⟩ g T25;have T29:=q30_ (P:=l.prog) (w:=w) (base:=base) ⟨_,_,u29,W.mg_of X G a29,SW.bd1 u29⟩ g;have T30:=q2_ (P:=l.prog) (w:=w) (base:=base) ⟨_,_,u30,W.mg_of X G a30,SW.bd2 u30⟩ g T29;have T31:=q1_ (P:=l.prog) (w:=w) (base:=base) ⟨_,_,u31,W.mg_of X G a31,SW.bd1 u31⟩ g T25;have T32:=q37_ (P:=l.prog) (w:=w) (base:=base) ⟨_,_,u32,W.mg_of X G a32,SW.bd2 u32⟩ g;have T33:=q35_ (P:=l.prog) (w:=w) (base:=base) ⟨_,_,u33,W.mg_of X G a33,SW.bd1 u33⟩ g;have T34:=q43_ (P:=l.prog) (w:=w) (base:=base) ⟨_,_,u34,W.mg_of X G a34,SW.bd2 u34⟩ g T25;have T35:=q44_ (P:=l.prog) (w:=w) (base:=base) ⟨_,_,u35,W.mg_of X G a35,SW.bd3 u35⟩ g T25 T27 T28 T33 T34;have T36:=q34_ (P:=l.prog) (w:=w) (base:=base) ⟨_,_,u36,W.mg_of X G a36,SW.bd3 u36⟩ g T21 T22 T30 T12 T32;exact ok_law FL g T19 T24 T25 T26 T31 T35 T36
theorem walk{l:W.OpenLaw}{q:Program}{loose:List Str}{XP:(Str->Option Value)->Heap->Prop}{YP:World->Heap->Prop}{d:DefRec}{K:Params->W.Frag}(hn:l.most=some 63)(hdf:d.params.defaults=[])
 (hY:∀(w:World) (h:Heap),YP w h->(K w.params).In h)
 (F:∀(w:World) (mg:Str->Option Value) (fa:Addr) (h:Heap),(K w.params).In h->h.Ns mainGlobals mg->mg d.name=some (.ref fa) ->
  ∃(c P:Addr) (fd:FuncData),(K w.params).lookup P=some (W.tabObj #[])/\W.CodeHd h c P/\(∀(s:Shared) (u:Value),BindsTo s fd ⟨[u],[]⟩ [("script",u)]) /\ ∀ base:Heap,(wo (K w.params) P).In base->base.Ns mainGlobals mg->FnOk l.prog w (wo (K w.params) P) mg base CX0 8 fa fd ["script"] (spLawT (wo (K w.params) P) P)) :
 W.WalkO q loose XP YP l.row.toRowW d [] (fun f vs=>PySem.call f vs):=
 SW.walk_ofE (n:=63) (k:=8) (x:="script") (sp:=spLawT) hn (by decide) hdf ⟨rfl,by decide,by decide⟩ hY F (fun _ _ _ a ns hl hP hS=>⟨a,ns,rfl,hS,hl,hP,fun _=>rfl⟩)
end
end
end K
noncomputable def PySem.W.Fast.tw17915863590677071153:Nat:=0
noncomputable def PySem.W.Fast.tw3827602621034473185:Nat:=0
noncomputable def PySem.W.Fast.tw9186417046009959317:Nat:=0
noncomputable def PySem.W.Fast.tw14356439118123744016:Nat:=0
noncomputable def PySem.W.Fast.tw41530370851295097:Nat:=0
noncomputable def PySem.W.Fast.tw3071873216319792194:Nat:=0
noncomputable def PySem.W.Fast.tw10575153639114979479:Nat:=0
noncomputable def PySem.W.Fast.tw8943693013862104110:Nat:=0
noncomputable def PySem.W.Fast.tw6385518662254926560:Nat:=0
noncomputable def PySem.W.Fast.tw16951599868923630613:Nat:=0
noncomputable def PySem.W.Fast.tw4819888179817098190:Nat:=0
noncomputable def PySem.W.Fast.tw4432811218383263789:Nat:=0
noncomputable def PySem.W.Fast.tw13540092584025995545:Nat:=0
noncomputable def PySem.W.Fast.tw10772746176199620910:Nat:=0
noncomputable def PySem.W.Fast.tw515533771814542313:Nat:=0
noncomputable def PySem.W.Fast.tw15469616120417530300:Nat:=0
noncomputable def PySem.W.Fast.tw18041471732441748523:Nat:=0
noncomputable def PySem.W.Fast.tw11273226506228860577:Nat:=0
noncomputable def PySem.W.Fast.tw9721965951948132897:Nat:=0
noncomputable def PySem.W.Fast.tw3184030336216139023:Nat:=0
noncomputable def PySem.W.Fast.tw8979863171569476091:Nat:=0
noncomputable def PySem.W.Fast.tw7367746631794506467:Nat:=0
noncomputable def PySem.W.Fast.tw12350468293346462434:Nat:=0
noncomputable def PySem.W.Fast.tw15239283688553727843:Nat:=0
noncomputable def PySem.W.Fast.tw928622330173361530:Nat:=0
open PySem PySem.W PyProof.Rows L2
local macro_rules | `(tactic| walk_at "F")=>`(tactic| (refine' L2.fun_mk ?l ?c ?k;(case l=>k_is);(case c=>k_is);(case k=>k_is)))
set_option maxRecDepth 100000 in
set_option maxHeartbeats 0 in
theorem PySem.Challenge.cw_slowshift_k26_steps_of_made_tables_holds : PySem.Challenge.rw_slowshift_k26_steps_of_made_tables.Holds := by
 w_on;o_law;z_head;(case hw=>w_witness2)
 k_fill
 refine SW.walkX (fun _=>by kernel_rfl) (K.walk (l:=PySem.Challenge.rw_slowshift_k26_steps_of_made_tables) rfl rfl (fun w h Y=>Y) ?F)
 case F=>
  intro w mg fa h KX G hmg
  refine' K.all_mk KX G hmg ?q_Shelf ?pg_Shelf ?hd_Shelf ?po_Shelf ?sa_Shelf ?mk_Shelf ?kc_Shelf ?na_Shelf_mixer ?na_Shelf_rows ?na_Shelf_held ?q_Table ?pg_Table ?hd_Table ?po_Table ?sa_Table ?mk_Table ?kc_Table ?na_Table_mixer ?na_Table_pace ?na_Table_elder ?na_Table_moved ?na_Table_newer ?na_Table_touches ?a0 ?u0 ?a1 ?u1 ?a2 ?u2 ?a3 ?u3 ?a4 ?i4 ?u4 ?a5 ?i5 ?u5 ?a6 ?u6 ?a7 ?i7 ?u7 ?a8 ?i8 ?u8 ?a9 ?u9 ?a10 ?u10 ?a11 ?u11 ?a12 ?ll_ ?lm_ ?lk_ ?lo_ ?le11 ?le18 ?le7 ?le9 ?le10 ?lp_ ?le0 ?lb_ ?lc_ ?le1 ?le2 ?a13 ?u13 ?a14 ?i14 ?u14 ?a15 ?i15 ?u15 ?a16 ?i16 ?u16 ?a17 ?i17 ?u17 ?a18 ?u18 ?a19 ?i19 ?u19 ?a20 ?u20 ?a21 ?i21 ?u21 ?a22 ?i22 ?u22 ?a23 ?u23 ?a24 ?u24 ?a25 ?u25 ?a26 ?u26 ?a27 ?u27 ?a28 ?u28 ?a29 ?u29 ?a30 ?u30 ?a31 ?u31 ?a32 ?u32 ?a33 ?u33 ?a34 ?u34 ?a35 ?u35 ?a36 ?u36 ?a37 ?u37 ?cst0 ?cst1 ?ta_SIZES ?tl_SIZES ?ea_ ?eb_ ?ec_ ?ed0 ?ed1 ?ed2 ?ed3 ?blt0 ?blt1 ?blt2 ?blt3 ?blt4 ?blt5 ?blt6 ?blt7 ?blt8 ?blt9 ?blt10 ?blt11 ?blt12 ?blt13
  (case q_Shelf=>k_is)
  (case pg_Shelf=>k_is)
  (case hd_Shelf=>k_is)
  (case po_Shelf=>k_is)
  (case sa_Shelf=>k_is)
  (case mk_Shelf=>k_is)
  (case kc_Shelf=>k_is)
  (case na_Shelf_mixer=>k_is)
  (case na_Shelf_rows=>k_is)
  (case na_Shelf_held=>k_is)
  (case q_Table=>k_is)
  (case pg_Table=>k_is)
  (case hd_Table=>k_is)
  (case po_Table=>k_is)
  (case sa_Table=>k_is)
  (case mk_Table=>k_is)
  (case kc_Table=>k_is)
  (case na_Table_mixer=>k_is)
  (case na_Table_pace=>k_is)
  (case na_Table_elder=>k_is)
  (case na_Table_moved=>k_is)
  (case na_Table_newer=>k_is)
  (case na_Table_touches=>k_is)
  (case a0=>k_is)
  (case u0=>walk_at "F")
  (case a1=>k_is)
  (case u1=>walk_at "F")
  (case a2=>k_is)
  (case u2=>walk_at "F")
  (case a3=>k_is)
  (case u3=>walk_at "F")
  (case a4=>k_is)
  (case i4=>k_is)
  (case u4=>walk_at "F")
  (case a5=>k_is)
  (case i5=>k_is)
  (case u5=>walk_at "F")
  (case a6=>k_is)
  (case u6=>walk_at "F")
  (case a7=>k_is)
  (case i7=>k_is)
  (case u7=>walk_at "F")
  (case a8=>k_is)
  (case i8=>k_is)
  (case u8=>walk_at "F")
  (case a9=>k_is)
  (case u9=>walk_at "F")
  (case a10=>k_is)
  (case u10=>walk_at "F")
  (case a11=>k_is)
  (case u11=>walk_at "F")
  (case a12=>k_is)
  (case ll_=>k_is)
  (case lm_=>k_is)
  (case lk_=>k_is)
  (case lo_=>k_is)
  (case le11=>exact rfl)
  (case le18=>exact rfl)
  (case le7=>exact rfl)
  (case le9=>exact rfl)
  (case le10=>exact rfl)
  (case lp_=>k_is)
  (case le0=>kernel_rfl)
  (case lb_=>k_is)
  (case lc_=>k_is)
  (case le1=>kernel_rfl)
  (case le2=>kernel_rfl)
  (case a13=>k_is)
  (case u13=>walk_at "F")
  (case a14=>k_is)
  (case i14=>k_is)
  (case u14=>walk_at "F")
  (case a15=>k_is)
  (case i15=>k_is)
  (case u15=>walk_at "F")
  (case a16=>k_is)
  (case i16=>k_is)
  (case u16=>walk_at "F")
  (case a17=>k_is)
  (case i17=>k_is)
  (case u17=>walk_at "F")
  (case a18=>k_is)
  (case u18=>walk_at "F")
  (case a19=>k_is)
  (case i19=>k_is)
  (case u19=>walk_at "F")
  (case a20=>k_is)
  (case u20=>walk_at "F")
  (case a21=>k_is)
  (case i21=>k_is)
  (case u21=>walk_at "F")
  (case a22=>k_is)
  (case i22=>k_is)
  (case u22=>walk_at "F")
  (case a23=>k_is)
  (case u23=>walk_at "F")
  (case a24=>k_is)
  (case u24=>walk_at "F")
  (case a25=>k_is)
  (case u25=>walk_at "F")
  (case a26=>k_is)
  (case u26=>walk_at "F")
  (case a27=>k_is)
  (case u27=>walk_at "F")
  (case a28=>k_is)
  (case u28=>walk_at "F")
  (case a29=>k_is)
  (case u29=>walk_at "F")
  (case a30=>k_is)
  (case u30=>walk_at "F")
  (case a31=>k_is)
  (case u31=>walk_at "F")
  (case a32=>k_is)
  (case u32=>walk_at "F")
  (case a33=>k_is)
  (case u33=>walk_at "F")
  (case a34=>k_is)
  (case u34=>walk_at "F")
  (case a35=>k_is)
  (case u35=>walk_at "F")
  (case a36=>k_is)
  (case u36=>walk_at "F")
  (case a37=>k_is)
  (case u37=>walk_at "F")
  (case cst0=>k_is)
  (case cst1=>k_is)
  (case ta_SIZES=>k_is)
  (case tl_SIZES=>k_is)
  (case ea_=>k_is)
  (case eb_=>k_is)
  (case ec_=>k_is)
  (case ed0=>k_is)
  (case ed1=>k_is)
  (case ed2=>k_is)
  (case ed3=>k_is)
  (case blt0=>k_is)
  (case blt1=>k_is)
  (case blt2=>k_is)
  (case blt3=>k_is)
  (case blt4=>k_is)
  (case blt5=>k_is)
  (case blt6=>k_is)
  (case blt7=>k_is)
  (case blt8=>k_is)
  (case blt9=>k_is)
  (case blt10=>k_is)
  (case blt11=>k_is)
  (case blt12=>k_is)
  (case blt13=>k_is)

