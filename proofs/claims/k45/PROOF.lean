import PyProof.Rows.All
import Wide.All
import OpenK.AllK
import Wide.FinOn
import Lean
import PyProof.EqAt
import PyProof.EqKinds
import PyProof.TupleCall
import KE.KIntText
import PyProof.StrCalls2
import PyProof.StrLawsTight
import PyProof.StrLawsChain
import PyProof.Rows.Range3
import KE.KTryMore
import PyProof.NsDelKeeps
import PyProof.ExcBaseAll.ValueError
import PySem.Challenge.RW_slowshift_k45_rows_refused
set_option Elab.async false
set_option linter.all false
set_option maxRecDepth 100000
set_option genSizeOf false
set_option genSizeOfSpec false
set_option genInjectivity false
set_option maxHeartbeats 4000000
namespace L2
open PySem PySem.Spec PyProof.Rows
noncomputable abbrev Key:=Sum Int Str
noncomputable def keyIs:Key->Value->Bool
 | .inl k,v=>Value.isInt k v
 | .inr x,v=>Value.isStrOf x v
noncomputable def keyH(w:World):Key->Int
 | .inl k=>hashInt k
 | .inr x=>hashStr w x
theorem keyIs_shape:∀{k:Key}{v:Value},keyIs k v=true->(∃ i t,k=Sum.inl i/\v=Value.int i t)∨(∃ x t,k=Sum.inr x/\v=Value.str x t)
 | .inl i,v,h=>by
   obtain⟨t,e⟩:=Value.isInt_shape (k:=i) (v:=v) h;exact .inl ⟨i,t,rfl,e⟩
 | .inr x,v,h=>by
   obtain⟨t,e⟩:=Value.isStrOf_shape (x:=x) (v:=v) h;exact .inr ⟨x,t,rfl,e⟩
theorem keyIs_int(i:Int)(t:Tok):keyIs (.inl i) (.int i t)=true:=by simp[keyIs,Value.isInt]
theorem keyIs_str(x:Str)(t:Tok):keyIs (.inr x) (.str x t)=true:=by simp[keyIs,Value.isStrOf]
theorem key_ll(a b:Int):decide ((Sum.inl a:Key)=Sum.inl b)=(a == b):=by
 by_cases e:a=b
 · subst e;simp
 have h:¬ (Sum.inl a:Key)=Sum.inl b:=fun q=>e (Sum.inl.inj q);rw[decide_eq_false h];exact(beq_eq_false_iff_ne.mpr e).symm
theorem key_rr(a b:Str):decide ((Sum.inr a:Key)=Sum.inr b)=decide (a=b):=by
 by_cases e:a=b
 · subst e;simp
 have h:¬ (Sum.inr a:Key)=Sum.inr b:=fun q=>e (Sum.inr.inj q);rw[decide_eq_false h,decide_eq_false e]
theorem key_lr(a:Int)(b:Str):decide ((Sum.inl a:Key)=Sum.inr b)=false:=decide_eq_false (fun q=>nomatch q)
theorem key_rl(a:Str)(b:Int):decide ((Sum.inr a:Key)=Sum.inl b)=false:=decide_eq_false (fun q=>nomatch q)
noncomputable def mixKind(prog:Program)(w:World):PySem.KeyKind prog w Key where
 is:=keyIs
 hash:=keyH w
 inj:=fun v a b ha hb=>by
  rcases keyIs_shape ha with ⟨i,t,rfl,rfl⟩ | ⟨x,t,rfl,rfl⟩
  · rcases keyIs_shape hb with ⟨j,u,rfl,e⟩ | ⟨y,u,rfl,e⟩
    · injection e with e1 _;rw[e1]
    exact nomatch e
  rcases keyIs_shape hb with ⟨j,u,rfl,e⟩ | ⟨y,u,rfl,e⟩
  · exact nomatch e
  injection e with e1 _;rw[e1]
 byValue:=fun k v h=>by
  rcases keyIs_shape h with ⟨i,t,rfl,rfl⟩ | ⟨x,t,rfl,rfl⟩ <;> rfl
 pyHash:=fun hv h=>by
  rcases keyIs_shape hv with ⟨i,t,rfl,rfl⟩ | ⟨x,t,rfl,rfl⟩
  · exact wpAny_pyHash_int h
  exact wpAny_pyHash_str h
 eqBool:=fun hu hv h=>by
  rcases keyIs_shape hu with ⟨i,t,rfl,rfl⟩ | ⟨x,t,rfl,rfl⟩
  · rcases keyIs_shape hv with ⟨j,u,rfl,rfl⟩ | ⟨y,u,rfl,rfl⟩
    · rw[key_ll]at h;exact wpAny_eqBool_int h
    rw[key_lr]at h;exact SeqAt.EqAt.int_str i t y u _ _ _ _ h
  rcases keyIs_shape hv with ⟨j,u,rfl,rfl⟩ | ⟨y,u,rfl,rfl⟩
  · rw[key_rl]at h;exact SeqAt.EqAt.str_int x t j u _ _ _ _ h
  rw[key_rr]at h;exact wpAny_eqBool_str h
 «strs»:=fun k x t v h=>by
  rcases keyIs_shape h with ⟨i,u,rfl,e⟩ | ⟨y,u,rfl,e⟩
  · exact nomatch e
  injection e with e1 _;subst e1;cases v <;> rfl
theorem mixKind_int(prog:Program)(w:World)(i:Int)(t:Tok):(mixKind prog w).is (.inl i) (.int i t)=true:=keyIs_int i t
theorem mixKind_str(prog:Program)(w:World)(x:Str)(t:Tok):(mixKind prog w).is (.inr x) (.str x t)=true:=keyIs_str x t
end L2
namespace L2
open PySem PySem.Spec PyProof.Rows
set_option genInjectivity true in
inductive V where
 | non | bl (b:Bool) | int (i:Int) | str (x:Str) | byt (b:Array UInt8) | flt (b:UInt64) | ref (a:Addr) | ty (n:String)
 deriving DecidableEq
noncomputable def RelV:V->Value->Prop
 | .non,u=>u=Value.none
 | .bl b,u=>u=Value.bool b
 | .int i,u=>∃ t,u=Value.int i t
 | .str x,u=>∃ t,u=Value.str x t
 | .byt b,u=>∃ t,u=Value.bytes b t
 | .flt b,u=>∃ t,u=Value.float b t
 | .ref a,u=>u=Value.ref a
 | .ty n,u=>u=Value.type n
noncomputable abbrev Vals:List V->List Value->Prop:=Paired RelV
theorem Vals.length{xs:List V}{us:List Value}(r:Vals xs us):xs.length=us.length:=Paired.length r
theorem Vals.get:∀{xs:List V}{us:List Value}{i:Nat}{x:V},Vals xs us->xs[i]?=some x -> ∃ u,us[i]?=some u/\RelV x u
 | _,_,_,_,.nil,e=>by simp at e
 | _,_,0,_,.cons r _,e=>by simp at e;subst e;exact⟨_,rfl,r⟩
 | _,_,i+1,x,.cons _ t,e=>by
   obtain⟨u,h1,h2⟩:=Vals.get (i:=i) (x:=x) t (by simpa using e)
   exact⟨u,by simpa using h1,h2⟩
theorem Vals.set{x:V}{u:Value}(r:RelV x u):∀{xs:List V}{us:List Value} (i:Nat),Vals xs us->Vals (xs.set i x) (us.set i u)
 | _,_,_,.nil=>.nil
 | _,_,0,.cons _ t=>.cons r t
 | _,_,i+1,.cons q t=>.cons q (Vals.set r i t)
theorem Vals.append:∀{xs ys:List V}{us ws:List Value},Vals xs us->Vals ys ws->Vals (xs++ys) (us++ws)
 | _,_,_,_,.nil,s=>s
 | _,_,_,_,.cons r t,s=>.cons r (Vals.append t s)
theorem Vals.take:∀{xs:List V}{us:List Value} (n:Nat),Vals xs us->Vals (xs.take n) (us.take n)
 | _,_,0,_=>.nil
 | _,_,_+1,.nil=>.nil
 | _,_,n+1,.cons r t=>.cons r (Vals.take n t)
theorem Vals.drop:∀{xs:List V}{us:List Value} (n:Nat),Vals xs us->Vals (xs.drop n) (us.drop n)
 | _,_,0,r=>r
 | _,_,_+1,.nil=>.nil
 | _,_,n+1,.cons _ t=>Vals.drop n t
noncomputable def RelO:Option V->Option Value->Prop
 | some v,some u=>RelV v u
 | none,none=>True
 | _,_=>False
noncomputable def KV{κ:Type}:List (κ × V)->List (κ × Value)->Prop:=Paired fun(p:κ × V) (q:κ × Value)=>p.1=q.1/\RelV p.2 q.2
noncomputable def kV:Key->V
 | .inl i=>.int i
 | .inr x=>.str x
inductive HO where
 | lst (xs:List V)
 | tup (xs:List V)
 | dK (kvs:List (Key×V)) | dT (kvs:List (List Key×V))
 | set (S:Int->Bool) (n:Nat)
 | ins (C dx:Addr) (fs:List (Str×V))
 | own (x:Addr)
 | xd (fs:List (Str×V))
 | met (f x:Addr)
 | rng (lo hi:Int)
 | frz (o:Obj) (u:HO)
 | tbl (ps:Array Value)
 | ext (φ:Heap->Prop)
noncomputable abbrev Hp:=Addr->Option HO
noncomputable def upd(H:Hp)(a:Addr)(o:HO):Hp:=fun b=>if b=a then some o else H b
theorem upd_same{H:Hp}{a:Addr}{o:HO}:upd H a o a=some o:=by unfold upd;rw[if_pos rfl]
theorem upd_ne{H:Hp}{a b:Addr}{o:HO}(h:b≠a):upd H a o b=H b:=by unfold upd;rw[if_neg h]
theorem upd_upd{H:Hp}{a:Addr}{o u:HO}:upd (upd H a o) a u=upd H a u:=by
 funext b;unfold upd;split <;> rfl
theorem ne_of{H:Hp}{a b:Addr}{o u:HO}(h:H a=some o)(h':H b=some u)(d:o≠u):a≠b:=by
 intro e;subst e;rw[h]at h';exact d (Option.some.inj h')
theorem ne_of_none{H:Hp}{a b:Addr}{o:HO}(h:H a=some o)(h':H b=none):a≠b:=by
 intro e;subst e;rw[h]at h';cases h'
section
variable(P:Program)(w:World)
noncomputable def ObjOk(H:Hp)(h:Heap)(a:Addr):HO->Prop
 | .lst xs=>xs.length<=sizeLine /\ ∃(its:List Value) (n:Nat),Vals xs its/\h.get? a=some { cls:=.type "list",data:=.seq its.toArray n }
 | .tup xs=>xs.length<=sizeLine /\ ∃ its:List Value,Vals xs its/\IsTup h a its.toArray
 | .dK kvs=>kvs.length<=sizeLine/\(a == sysModules)=false /\ ∃ vs,KV kvs vs/\h.DictOf (mixKind P w) a vs
 | .dT kvs=>kvs.length<=sizeLine/\(a == sysModules)=false /\ ∃ xs:List (List Key×Addr×Value),
  Paired (fun(p:List Key×V) (q:List Key×Addr×Value)=>p.1=q.1/\H q.2.1=some (.tup (p.1.map kV))/\RelV p.2 q.2.2) kvs xs /\
  ∃ o es ep,h.get? a=some o/\o.ExactDict/\o.data=.dict es ep/\es.toList=xs.map (entryOfKey (tupleKind (mixKind P w)))/\(xs.map (·.1)).Nodup
 | .set S n=>h.SetOf (intKind P w) a S n
 | .ins C dx fs=>H dx=some (.own a)/\fs.length<=1000/\dx≠a/\h.get? a=some (W.instObj C dx) /\
  ∃ mA,h.Ns1 dx mA/\(∀ f,RelO (fs.lookup f) (mA f))/\PySem.Within mA (fs.map (·.1))
 | .own _=>∃ o,h.get? a=some o
 | .xd fs=>∃ mA,h.Ns1 a mA /\ ∀ f,RelO (fs.lookup f) (mA f)
 | .rng lo hi=>∃ t u v,h.get? a=some { cls:=.type "range",data:=.fields #[.int lo t,.int hi u,.int 1 v] }
 | .frz o u=>h.get? a=some o/\ObjOk H h a u
 | .tbl ps=>h.get? a=some { cls:=.none,data:=.fields ps }
 | .met f x=>h.get? a=some (W.methodObj (.ref f) (.ref x))
 | .ext φ=>φ h/\(∃ o,h.get? a=some o) /\ ∀ h1 h2:Heap,φ h1->(∀ o,h1.get? a=some o->h2.get? a=some o) -> φ h2
noncomputable def HOk(H:Hp)(h:Heap):Prop:=∀ a o,H a=some o->ObjOk P w H h a o
end
section
variable{P:Program}{w:World}{H H':Hp}{h h':Heap}{a:Addr}{o:HO}
theorem ObjOk.lt(x:ObjOk P w H h a o):a < h.objs.size:=by
 cases o with
 | lst xs=>obtain⟨_,_,_,_,e⟩:=x;exact Heap.lt_size e
 | tup xs=>obtain⟨_,_,_,p⟩:=x;exact p.lt
 | dK kvs=>obtain⟨_,_,_,_,o,_,_,e,_⟩:=x;exact Heap.lt_size e
 | dT kvs=>obtain⟨_,_,_,_,o,_,_,e,_⟩:=x;exact Heap.lt_size e
 | set S n=>obtain⟨o,_,_,_,e,_⟩:=x;exact Heap.lt_size e
 | ins C dx fs=>obtain⟨_,_,_,e,_⟩:=x;exact Heap.lt_size e
 | own y=>obtain⟨_,e⟩:=x;exact Heap.lt_size e
 | xd fs=>obtain⟨_,⟨_,_,_,e,_⟩,_⟩:=x;exact Heap.lt_size e
 | rng lo hi=>obtain⟨_,_,_,e⟩:=x;exact Heap.lt_size e
 | frz ob u=>obtain⟨e,_⟩:=x;exact Heap.lt_size e
 | tbl ps=>exact Heap.lt_size (show h.get? a=some _ from x)
 | met f y=>exact Heap.lt_size (show h.get? a=some _ from x)
 | ext φ=>obtain⟨_,⟨_,e⟩,_⟩:=x;exact Heap.lt_size e
theorem Paired.mapP{α β:Type}{F G:α -> β -> Prop}:∀{l₁:List α}{l₂:List β},Paired F l₁ l₂ -> (∀ a b,F a b->G a b)->Paired G l₁ l₂
 | _,_,.nil,_=>.nil
 | _,_,.cons r t,f=>.cons (f _ _ r) (Paired.mapP t f)
theorem ObjOk.stay(x:ObjOk P w H h a o)(k:∀ b u,(b=a∨H b=some (.own a))->h.get? b=some u->h'.get? b=some u)
 (ho:∀ b,H b=some (.own a)->H' b=some (.own a)) (ht:∀ b xs,H b=some (.tup xs)->H' b=some (.tup xs)):ObjOk P w H' h' a o:=by
 induction o with
 | lst xs=>obtain⟨z,its,n,r,e⟩:=x;exact⟨z,its,n,r,k _ _ (.inl rfl) e⟩
 | tup xs=>obtain⟨z,its,r,ob,e,c⟩:=x;exact⟨z,its,r,ob,k _ _ (.inl rfl) e,c⟩
 | dK kvs=>obtain⟨z,y,vs,r,ob,es,ep,e,c⟩:=x;exact⟨z,y,vs,r,ob,es,ep,k _ _ (.inl rfl) e,c⟩
 | dT kvs=>
   obtain⟨z,y,xs,r,ob,es,ep,e,c⟩:=x;exact⟨z,y,xs,Paired.mapP r fun p q z=>⟨z.1,ht _ _ z.2.1,z.2.2⟩,ob,es,ep,k _ _ (.inl rfl) e,c⟩
 | set S n=>obtain⟨ob,es,ep,t,e,c⟩:=x;exact⟨ob,es,ep,t,k _ _ (.inl rfl) e,c⟩
 | ins C dx fs=>
   obtain⟨d,z,ne,e,mA,⟨od,es,ep,e2,c⟩,r⟩:=x;exact⟨ho _ d,z,ne,k _ _ (.inl rfl) e,mA,⟨od,es,ep,k _ _ (.inr d) e2,c⟩,r⟩
 | own y=>obtain⟨ob,e⟩:=x;exact⟨ob,k _ _ (.inl rfl) e⟩
 | xd fs=>obtain⟨mA,⟨od,es,ep,e,c⟩,r⟩:=x;exact⟨mA,⟨od,es,ep,k _ _ (.inl rfl) e,c⟩,r⟩
 | rng lo hi=>obtain⟨t,u,v,e⟩:=x;exact⟨t,u,v,k _ _ (.inl rfl) e⟩
 | frz ob u ih=>obtain⟨e,q⟩:=x;exact⟨k _ _ (.inl rfl) e,ih q⟩
 | tbl ps=>
   have e:h.get? a=some { cls:=.none,data:=.fields ps }:=x;show h'.get? a=some { cls:=.none,data:=.fields ps };exact k a _ (.inl rfl) e
 | met f y=>
   have e:h.get? a=some (W.methodObj (.ref f) (.ref y)):=x;show h'.get? a=some (W.methodObj (.ref f) (.ref y));exact k a _ (.inl rfl) e
 | ext φ=>obtain⟨p,⟨o,e⟩,st⟩:=x;exact⟨st _ _ p fun o q=>k _ _ (.inl rfl) q,⟨o,k _ _ (.inl rfl) e⟩,st⟩
theorem HOk.lt(x:HOk P w H h)(e:H a=some o):a < h.objs.size:=(x a o e).lt
theorem HOk.fresh(x:HOk P w H h)(e:h.objs.size<=a):H a=none:=by
 cases q:H a with
 | none=>rfl
 | some u=>exact absurd (Nat.lt_of_lt_of_le (x.lt q) e) (Nat.lt_irrefl _)
theorem HOk.kept(x:HOk P w H h)(k:∀ b u,h.get? b=some u->h'.get? b=some u):HOk P w H h':=fun a o e=>
 (x a o e).stay (fun b u _ q=>k b u q) (fun _ q=>q) fun _ _ q=>q
theorem HOk.laid(x:HOk P w H h)(k:∀ b u,h.get? b=some u->h'.get? b=some u)(hp:h.objs.size<=a)(new:ObjOk P w (upd H a o) h' a o):HOk P w (upd H a o) h':=fun b u e=>by
 have hn:=x.fresh hp;by_cases hb:b=a
 · subst hb;rw[upd_same]at e;cases e;exact new
 rw[upd_ne hb]at e;exact(x b u e).stay (fun c v _ q=>k c v q) (fun c q=>by rw[upd_ne (ne_of_none q hn)];exact q) fun c xs q=>by rw[upd_ne (ne_of_none q hn)];exact q
end
noncomputable def Rd(H:Hp)(a:Addr)(u:HO):Prop:=H a=some u ∨ ∃ o,H a=some (.frz o u)
theorem Rd.ok{P:Program}{w:World}{H:Hp}{h:Heap}{a:Addr}{u:HO}(r:Rd H a u)(x:HOk P w H h):ObjOk P w H h a u:=by
 rcases r with r | ⟨o,r⟩
 · exact x a u r
 obtain⟨_,q⟩:=x a _ r;exact q
noncomputable def Mut:Option HO->Prop
 | some (.lst _)=>True
 | some (.dK _)=>True
 | some (.dT _)=>True
 | some (.set _ _)=>True
 | some (.ins _ _ _)=>True
 | some (.ext _)=>True
 | _=>False
section
variable{P:Program}{w:World}{H:Hp}{h h':Heap}{x e:Addr}{o':HO}
theorem HOk.write(ok:HOk P w H h)(mu:Mut (H x))(he:e=x∨H e=some (.own x))(k:∀ b u,b≠e->h.get? b=some u->h'.get? b=some u)(heo:∃ u,h'.get? e=some u)
 (new:ObjOk P w (upd H x o') h' x o'):HOk P w (upd H x o') h':=fun b u q=>by
 have nown:∀ c y,H c=some (.own y)->c≠x:=fun c y r z=>by subst z;rw[r]at mu;exact mu
 have ntup:∀ c xs,H c=some (.tup xs)->c≠x:=fun c xs r z=>by subst z;rw[r]at mu;exact mu
 by_cases hb:b=x
 · subst hb;rw[upd_same]at q;cases q;exact new
 rw[upd_ne hb]at q;by_cases hbe:b=e
 · have q':H b=some (.own x):=by
    rcases he with z | z
    · exact absurd (hbe.trans z) hb
    rw[hbe];exact z
   rw[q]at q';cases q';obtain⟨v,hv⟩:=heo;exact⟨v,by rw[hbe];exact hv⟩
 refine(ok b u q).stay (fun c v hc r=>k c v ?_ r) (fun c r=>by rw[upd_ne (nown c b r)];exact r) fun c xs r=>by rw[upd_ne (ntup c xs r)];exact r
 rcases hc with rfl | hc
 · exact hbe
 rintro rfl;rcases he with z | z
 · exact nown c b hc z
 rw[hc]at z;cases z;exact hb rfl
end
structure Un(fs ex:List Addr)(H H':Hp)(h h':Heap):Prop where
 keep:∀ b o,h.get? b=some o->H b=none->b∉fs->b∉ex->h'.get? b=some o
 slot:∀ b o,h.get? b=some o->H b=none->b∈fs->b∉ex -> ∃ sl,h'.get? b=some { o with slots:=sl }
 free:∀ b o,h.get? b=some o->H b=none->b∉ex->H' b=none
 there:∀ b o,h.get? b=some o->b∉ex -> ∃ o',h'.get? b=some o'
 tups:∀ b xs,H b=some (.tup xs)->H' b=some (.tup xs)
 frzs:∀ b o u,H b=some (.frz o u)->H' b=some (.frz o u)
 tbls:∀ b ps,H b=some (.tbl ps) -> ∃ more,H' b=some (.tbl (ps++more))
section
variable{fs fs' ex ex':List Addr}{H H1 H2:Hp}{h h1 h2 h':Heap}{a x e:Addr}{o:HO}
theorem Un.any(u:Un fs ex H H1 h h1){b:Addr}{ob:Obj}(q:h.get? b=some ob)(n:H b=none)(hx:b∉ex):∃ sl,h1.get? b=some { ob with slots:=sl }:=by
 by_cases hb:b∈fs
 · exact u.slot b ob q n hb hx
 exact⟨ob.slots,u.keep b ob q n hb hx⟩
theorem Un.kept(k:∀ b u,h.get? b=some u->h'.get? b=some u):Un fs ex H H h h':=
 ⟨fun b ob q _ _ _=>k b ob q,fun b ob q _ _ _=>⟨ob.slots,k b ob q⟩,fun _ _ _ n _=>n,fun b ob q _=>⟨ob,k b ob q⟩,fun _ _ q=>q,fun _ _ _ q=>q,fun _ ps q=>⟨#[],by rw[q];simp⟩⟩
theorem Un.refl:Un fs ex H H h h:=Un.kept fun _ _ q=>q
theorem Un.laid(k:∀ b u,h.get? b=some u->h'.get? b=some u)(hp:h.objs.size<=a)(hn:H a=none):Un fs ex H (upd H a o) h h' where
 keep:=fun b u q _ _ _=>k b u q
 slot:=fun b u q _ _ _=>⟨u.slots,k b u q⟩
 free:=fun b u q n _=>by rw[upd_ne (Nat.ne_of_lt (Nat.lt_of_lt_of_le (Heap.lt_size q) hp))];exact n
 there:=fun b u q _=>⟨u,k b u q⟩
 tups:=fun b xs q=>by rw[upd_ne (ne_of_none q hn)];exact q
 frzs:=fun b u xs q=>by rw[upd_ne (ne_of_none q hn)];exact q
 tbls:=fun b ps q=>⟨#[],by rw[upd_ne (ne_of_none q hn),q];simp⟩
theorem Un.write(mu:Mut (H x))(he:e=x∨H e=some (.own x))(k:∀ b u,b≠e->h.get? b=some u->h'.get? b=some u)(heo:∃ u,h'.get? e=some u):Un fs ex H (upd H x o) h h':=by
 have hx:∀ b,H b=none->b≠x:=fun b n z=>by subst z;rw[n]at mu;exact mu
 have hb:∀ b,H b=none->b≠e:=fun b n z=>by
  subst z;rcases he with r | r
  · exact hx b n r
  rw[n]at r;cases r
 have hm:∀ b u,H b=some u -> ¬ Mut (some u)->b≠x:=fun b u q nm z=>by subst z;rw[q]at mu;exact nm mu
 refine⟨fun b u q n _ _=>k b u (hb b n) q,fun b u q n _ _=>⟨u.slots,k b u (hb b n) q⟩,fun b u q n _=>by rw[upd_ne (hx b n)];exact n,fun b u q _=>?_,
  fun b xs q=>by rw[upd_ne (hm b _ q fun z=>z)];exact q,fun b u xs q=>by rw[upd_ne (hm b _ q fun z=>z)];exact q,fun b ps q=>⟨#[],by rw[upd_ne (hm b _ q fun z=>z),q];simp⟩⟩
 by_cases hbe:b=e
 · subst hbe;exact heo
 exact⟨u,k b u hbe q⟩
end
noncomputable def trk(h:Heap)(H:Hp):List Addr:=(List.range h.objs.size).filter fun a=>(H a).isSome
noncomputable def hidT(h:Heap)(H:Hp):Heap:=W.hideAll h (trk h H)
theorem hidT_size(h:Heap)(H:Hp):(hidT h H).objs.size=h.objs.size:=W.hideAll_size _ _
theorem hidT_get{h:Heap}{H:Hp}{b:Addr}{o:Obj}(e:h.get? b=some o)(n:H b=none):(hidT h H).get? b=some o:=
 W.hideAll_get _ e fun hm=>by
  have q:(H b).isSome=true:=(List.mem_filter.mp hm).2;rw[n]at q;simp at q
theorem of_hidT{h:Heap}{H:Hp}{b:Addr}{o:Obj}(e:(hidT h H).get? b=some o):h.get? b=some o/\H b=none:=by
 have e':h.get? b=some o:=W.of_hideAll (trk h H) e;refine⟨e',?_⟩;cases q:H b with
 | none=>rfl
 | some x=>
   have hm:b∈trk h H:=List.mem_filter.mpr ⟨List.mem_range.mpr (Heap.lt_size e'),by simp[q]⟩
   have z:(hidT h H).get? b=none:=W.hideAll_none (trk h H) hm;rw[z]at e;cases e
end L2
namespace L2
open PySem PySem.Spec PyProof.Rows
structure Mod(K:W.Frag)(mg:Str->Option Value)(base:Heap):Prop where
 kin:K.In base
 glob:base.Ns mainGlobals mg
 blt:∃ mb,base.Ns builtinsNs mb /\ ∀ x:Str,x ≠ "__name__" -> mb x=bootBuiltins x
 nolimit:base.NoLimit
structure Cx where
 prog:Program
 w:World
 K:W.Frag
 mg:Str->Option Value
 base:Heap
 A:Around
 N:List Str
 s₀:Shared
 H₀:Hp
 env:Env
 outer:List Env
 stack:List Env
 ex:List Addr
 fn:Str->Bool
 calm:Bool
 pn:List (Addr×Obj)
 xe:Value->Shared->Prop
noncomputable def frs(l:List Env):List Addr:=l.filterMap (·.frame)
noncomputable abbrev Cx.fs(X:Cx):List Addr:=frs X.outer
noncomputable def Vis(sc:Scope)(x:Str):Prop:=sc.names.lookup x=some .local∨sc.names.lookup x=some .cell∨sc.names.lookup x=some .free
noncomputable def Loc(sc:Scope)(x:Str):Prop:=sc.names.lookup x=some .local∨sc.names.lookup x=some .cell
noncomputable def Look(env:Env)(h:Heap)(m:Str->Option Value)(x:Str)(u:Value):Prop:=
 (env.kindOf x=some .local/\m x=some u)∨((env.kindOf x=some .cell∨env.kindOf x=some .free) /\ ∃ c,env.cells.lookup x=some c/\h.IsCell c (some u))
structure Cx.Ok(X:Cx):Prop where
 mod:Mod X.K X.mg X.base
 kind:X.env.scope.kind=.function
 glob:X.env.globals=mainGlobals
 blt:X.env.builtins=builtinsNs
 above:X.s₀.heap.objs.size<=X.env.locals
 inj:∀ x y c,X.env.cells.lookup x=some c->X.env.cells.lookup y=some c->x=y
 has:∀ x,(X.env.kindOf x=some .cell∨X.env.kindOf x=some .free) -> ∃ c,X.env.cells.lookup x=some c
 cab:∀ x c,X.fn x=true->X.env.cells.lookup x=some c->X.s₀.heap.objs.size<=c
 hd:X.calm=true->X.A.handled=none
 frames:X.A.frames=some X.stack
 stk:X.stack=X.outer∨(X.stack=X.env::X.outer/\X.env.frame=some X.env.locals)
 exf:∀ b∈X.ex,b≠X.env.locals /\ ∀ x c,X.env.cells.lookup x=some c->c≠b
 bs:∀ b o,X.base.get? b=some o->X.s₀.heap.get? b=some o/\X.H₀ b=none
 bsz:X.base.objs.size<=X.s₀.heap.objs.size
 noex:∀ b o,X.base.get? b=some o->b∉X.ex
 exfs:∀ b∈X.ex,b∉X.fs
 funs:X.s₀.heap.FunFrames X.base X.outer
 frf:∀ b∈X.fs,X.H₀ b=none
structure Inv(X:Cx)(pins:List (Addr×Obj))(σ:List (Option V))(H:Hp)(s:Shared):Prop where
 ok:X.Ok
 os:s.os=X.s₀.os
 bare:AllBare s.gens
 base:Un X.fs X.ex X.H₀ H X.s₀.heap s.heap
 loc:∃ m,s.heap.Ns X.env.locals m /\ ∀(i:Nat) (x:Str) (v:V),X.N[i]?=some x -> σ[i]?=some (some v)->Vis X.env.scope x -> ∃ u,RelV v u/\Look X.env s.heap m x u
 cell:∀ x c,X.env.cells.lookup x=some c -> ∃ v,s.heap.IsCell c v
 free:H X.env.locals=none
 freeC:∀ x c,X.env.cells.lookup x=some c->H c=none
 pin:∀ p∈X.pn++pins,s.heap.get? p.1=some p.2/\H p.1=none/\p.1≠X.env.locals/\p.1∉X.fs /\ ∀ v,p.2.data ≠ .cell v
 hok:HOk X.prog X.w H s.heap
 len:σ.length=X.N.length
section
variable{X:Cx}{pins:List (Addr×Obj)}{σ:List (Option V)}{H H':Hp}{s:Shared}{h':Heap}
theorem Cx.Ok.nofr(ok:X.Ok){b:Addr}{o:Obj}(e:X.base.get? b=some o):b∉X.fs:=fun hb=>by
 have:=(ok.funs.mem hb).1;rw[e]at this;cases this
theorem Inv.bs(I:Inv X pins σ H s):∀ b o,X.base.get? b=some o->s.heap.get? b=some o/\H b=none:=fun b o e=>
 ⟨I.base.keep b o (I.ok.bs b o e).1 (I.ok.bs b o e).2 (I.ok.nofr e) (I.ok.noex b o e),I.base.free b o (I.ok.bs b o e).1 (I.ok.bs b o e).2 (I.ok.noex b o e)⟩
theorem Inv.bk(I:Inv X pins σ H s):∀ b o,X.base.get? b=some o->s.heap.get? b=some o:=fun b o e=>(I.bs b o e).1
theorem Inv.mod(I:Inv X pins σ H s):Mod X.K X.mg X.base:=I.ok.mod
theorem Inv.kIn(I:Inv X pins σ H s):X.K.In s.heap:=I.ok.mod.kin.keeps I.bk
theorem Inv.lt(I:Inv X pins σ H s):X.env.locals < s.heap.objs.size:=let⟨_,hn,_⟩:=I.loc;hn.lt
theorem Inv.sz(I:Inv X pins σ H s):X.s₀.heap.objs.size<=s.heap.objs.size:=Nat.le_trans I.ok.above (Nat.le_of_lt I.lt)
theorem Inv.nofs(I:Inv X pins σ H s){a:Addr}(h:s.heap.objs.size<=a):a∉X.fs:=fun hb=>by
 obtain⟨_,o,ho,_⟩:=I.ok.funs.mem hb;exact absurd (Nat.lt_of_lt_of_le (Heap.lt_size ho) (Nat.le_trans I.sz h)) (Nat.lt_irrefl _)
theorem Inv.cne(I:Inv X pins σ H s):∀ x c,X.env.cells.lookup x=some c->c≠X.env.locals:=fun x c e z=>by
 obtain⟨v,o,ho,hd⟩:=I.cell x c e;obtain⟨m,⟨o',es,ep,ho',hd',_⟩,_⟩:=I.loc;rw[z,ho']at ho;cases ho;rw[hd']at hd;cases hd
theorem Inv.funs(I:Inv X pins σ H s):s.heap.FunFrames X.base X.outer:=by
 have all:∀(l:List Env),(∀ b∈frs l,b∈X.fs)->X.s₀.heap.FunFrames X.base l->s.heap.FunFrames X.base l:=by
  intro l
  induction l with
  | nil=>intro _ _;trivial
  | cons env r ih=>
    intro hs hl;obtain⟨hk,⟨L,o,hf,hn,ho,hd⟩,hr⟩:=hl;have hL:L∈X.fs:=hs L (by unfold frs;rw[List.filterMap_cons,hf];exact List.mem_cons_self)
    obtain⟨sl,e⟩:=I.base.slot L o ho (I.ok.frf L hL) hL fun z=>I.ok.exfs L z hL;exact⟨hk,⟨L,_,hf,hn,e,hd⟩,ih (fun b hb=>hs b (by unfold frs;rw[List.filterMap_cons,hf];exact List.mem_cons_of_mem _ hb)) hr⟩
 exact all X.outer (fun _ hb=>hb) I.ok.funs
theorem Inv.stack(I:Inv X pins σ H s):s.heap.FunFrames X.base X.stack:=by
 rcases I.ok.stk with e | ⟨e,hf⟩
 · rw[e];exact I.funs
 rw[e];obtain⟨m,hn,_⟩:=I.loc;refine .cons (by rw[I.ok.kind];decide) hf hn ?_ I.funs
 exact Heap.get?_none_of_le (Nat.le_trans I.ok.bsz I.ok.above)
theorem Inv.stkSub(I:Inv X pins σ H s):∀ b∈frs X.stack,b∈X.env.locals::X.fs:=fun b hb=>by
 rcases I.ok.stk with e | ⟨e,hf⟩
 · rw[e]at hb;exact List.mem_cons_of_mem _ hb
 rw[e]at hb;unfold frs at hb;rw[List.filterMap_cons,hf]at hb;exact hb
theorem Inv.stkFree(I:Inv X pins σ H s):∀ b∈frs X.stack,H b=none:=fun b hb=>by
 rcases List.mem_cons.mp (I.stkSub b hb)with e | hb
 · rw[e];exact I.free
 obtain⟨_,o,ho,_⟩:=I.ok.funs.mem hb;exact I.base.free b o ho (I.ok.frf b hb) fun z=>I.ok.exfs b z hb
theorem Inv.step{g':Array GenState}{t':Nat}{d':Drawn}{ch:List Addr}(I:Inv X pins σ H s)
 (hch:∀ b∈ch,(b∈X.ex∨X.s₀.heap.objs.size<=b)/\b≠X.env.locals/\(∀ x c,X.env.cells.lookup x=some c->c≠b) /\ ∀ p∈X.pn++pins,p.1≠b)
 (keep:∀ b o,b≠X.env.locals->b∉X.fs->b∉ch->s.heap.get? b=some o->H b=none->h'.get? b=some o)
 (slot:∀ b o,b≠X.env.locals->b∈X.fs->b∉ch->s.heap.get? b=some o->H b=none -> ∃ sl,h'.get? b=some { o with slots:=sl }) (free:∀ b o,b∉ch->s.heap.get? b=some o->H b=none->H' b=none)
 (there:∀ b o,b∉ch->s.heap.get? b=some o -> ∃ o',h'.get? b=some o')
 (tups:∀ b xs,H b=some (.tup xs)->H' b=some (.tup xs)) (frzs:∀ b o u,H b=some (.frz o u)->H' b=some (.frz o u)) (tbls:∀ b ps,H b=some (.tbl ps) -> ∃ more,H' b=some (.tbl (ps++more)))
 (ns:∀ m,s.heap.Ns X.env.locals m->h'.Ns X.env.locals m) (hok:HOk X.prog X.w H' h') (hg:AllBare g') :
 Inv X pins σ H' { s with heap:=h',gens:=g',drawn:=d',toks:=t' }:=by
 have neL:∀ b o,X.s₀.heap.get? b=some o->b≠X.env.locals:=fun b o e=>Nat.ne_of_lt (Nat.lt_of_lt_of_le (Heap.lt_size e) I.ok.above);have neC:∀ b o,X.s₀.heap.get? b=some o->b∉X.ex->b∉ch:=fun b o e hx hb=>by
  rcases(hch b hb).1 with z | z
  · exact hx z
  exact absurd (Nat.lt_of_lt_of_le (Heap.lt_size e) z) (Nat.lt_irrefl _)
 have cellK:∀ x c,X.env.cells.lookup x=some c -> ∀ v,s.heap.IsCell c v->h'.IsCell c v:=fun x c e v ⟨o,ho,hd⟩=>by
  have nch:c∉ch:=fun z=>(hch c z).2.2.1 x c e rfl;by_cases hc:c∈X.fs
  · obtain⟨sl,q⟩:=slot c o (I.cne x c e) hc nch ho (I.freeC x c e)
    exact⟨_,q,hd⟩
  exact⟨o,keep c o (I.cne x c e) hc nch ho (I.freeC x c e),hd⟩
 refine⟨I.ok,I.os,hg,⟨fun b o e n hb hx=>?_,fun b o e n hb hx=>?_,fun b o e n hx=>?_,fun b o e hx=>?_,fun b xs e=>tups b xs (I.base.tups b xs e),fun b o xs e=>frzs b o xs (I.base.frzs b o xs e),fun b ps e=>?_⟩,?_,fun x c e=>?_,?_,fun x c e=>?_,fun p hp=>?_,hok,I.len⟩
 · exact keep b o (neL b o e) hb (neC b o e hx) (I.base.keep b o e n hb hx) (I.base.free b o e n hx)
 · obtain⟨sl,e1⟩:=I.base.slot b o e n hb hx
   obtain⟨sl',e2⟩:=slot b _ (neL b o e) hb (neC b o e hx) e1 (I.base.free b o e n hx);exact⟨sl',e2⟩
 · obtain⟨o',e1⟩:=I.base.there b o e hx
   exact free b o' (neC b o e hx) e1 (I.base.free b o e n hx)
 · obtain⟨o',e1⟩:=I.base.there b o e hx
   exact there b o' (neC b o e hx) e1
 · obtain⟨m1,e1⟩:=I.base.tbls b ps e
   obtain⟨m2,e2⟩:=tbls b _ e1;exact⟨m1++m2,by rw[e2,Array.append_assoc]⟩
 · obtain⟨m,hn,hl⟩:=I.loc
   refine⟨m,ns m hn,fun i x v e1 e2 e3=>?_⟩;obtain⟨u,r,l⟩:=hl i x v e1 e2 e3;refine⟨u,r,?_⟩;rcases l with l | ⟨k,c,e,z⟩
   · exact .inl l
   exact .inr ⟨k,c,e,cellK x c e _ z⟩
 · obtain⟨v,z⟩:=I.cell x c e
   exact⟨v,cellK x c e v z⟩
 · obtain⟨m,⟨o,_,_,ho,_⟩,_⟩:=I.loc
   exact free _ o (fun z=>(hch _ z).2.1 rfl) ho I.free
 · obtain⟨v,o,ho,hd⟩:=I.cell x c e
   exact free c o (fun z=>(hch c z).2.2.1 x c e rfl) ho (I.freeC x c e)
 obtain⟨e,n,ne,nf,d⟩:=I.pin p hp;have nch:p.1∉ch:=fun z=>(hch p.1 z).2.2.2 p hp rfl;exact⟨keep p.1 p.2 ne nf nch e n,free p.1 p.2 nch e n,ne,nf,d⟩
theorem Inv.un{t':Nat}(I:Inv X pins σ H s)(u:Un X.fs [] H H' s.heap h')(hok:HOk X.prog X.w H' h'):Inv X pins σ H' { s with heap:=h',toks:=t' }:=by
 obtain⟨m,⟨o,es,ep,ho,r⟩,_⟩:=id I.loc;obtain⟨sl,hL⟩:=u.any ho I.free (by simp)
 exact I.step (g':=s.gens) (d':=s.drawn) (ch:=[]) (fun _ z=>nomatch z) (fun b o _ hb _ e n=>u.keep b o e n hb (by simp)) (fun b o _ hb _ e n=>u.slot b o e n hb (by simp)) (fun b o _ e n=>u.free b o e n (by simp)) (fun b o _ e=>u.there b o e (by simp)) u.tups u.frzs u.tbls (fun m' hm=>by
  obtain⟨o',es',ep',ho',r'⟩:=hm;rw[ho]at ho';cases ho';exact⟨_,es',ep',hL,r'⟩) hok I.bare
theorem Inv.call{g':Array GenState}{t':Nat}{d':Drawn}{ch:List Addr}(I:Inv X pins σ H s)(u:Un (frs X.stack) ch H H' s.heap h')(hok:HOk X.prog X.w H' h')(hg:AllBare g')
 (hch:∀ b∈ch,(b∈X.ex∨X.s₀.heap.objs.size<=b)/\b≠X.env.locals/\(∀ x c,X.env.cells.lookup x=some c->c≠b) /\ ∀ p∈X.pn++pins,p.1≠b) :
 Inv X pins σ H' { s with heap:=h',gens:=g',drawn:=d',toks:=t' }:=by
 obtain⟨m,⟨o,es,ep,ho,r⟩,_⟩:=id I.loc;obtain⟨sl,hL⟩:=u.any ho I.free fun z=>(hch _ z).2.1 rfl;exact I.step (ch:=ch) hch (fun b o hL hb hc e n=>u.keep b o e n (fun z=>(List.mem_cons.mp (I.stkSub b z)).elim hL hb) hc) (fun b o _ _ hc e n=>u.any e n hc) (fun b o hc e n=>u.free b o e n hc) (fun b o hc e=>u.there b o e hc) u.tups u.frzs u.tbls (fun m' hm=>by
  obtain⟨o',es',ep',ho',r'⟩:=hm;rw[ho]at ho';cases ho';exact⟨_,es',ep',hL,r'⟩) hok hg
theorem Inv.turned{t':Nat}{it:Addr}(I:Inv X pins σ H s)(k:∀ b o,b≠it->s.heap.get? b=some o->h'.get? b=some o)(hn:H it=none)(hL:it≠X.env.locals)
 (h1:it∈X.ex∨X.s₀.heap.objs.size<=it) (h2:∀ x c,X.env.cells.lookup x=some c->c≠it) (h3:∀ p∈X.pn++pins,p.1≠it):Inv X pins σ H { s with heap:=h',toks:=t' }:=by
 have nit:∀ b u,H b=some u->b≠it:=fun b u e z=>by rw[z,hn]at e;cases e
 refine I.step (g':=s.gens) (d':=s.drawn) (ch:=[it]) (fun b hb=>?_) (fun b o _ _ hc e _=>k b o (fun z=>hc (by simp[z])) e) (fun b o _ _ hc e _=>⟨o.slots,k b o (fun z=>hc (by simp[z])) e⟩) (fun _ _ _ _ n=>n)
  (fun b o hc e=>⟨o,k b o (fun z=>hc (by simp[z])) e⟩) (fun _ _ e=>e) (fun _ _ _ e=>e) (fun b ps e=>⟨#[],by rw[e];simp⟩) (fun m hm=>?_) (fun b u e=>?_) I.bare
 · have e:b=it:=by simpa using hb
   subst e;exact⟨h1,hL,h2,h3⟩
 · obtain⟨o,es,ep,ho,r⟩:=hm
   exact⟨o,es,ep,k _ o (Ne.symm hL) ho,r⟩
 refine(I.hok b u e).stay (fun c v hc q=>k c v ?_ q) (fun _ q=>q) fun _ _ q=>q;rcases hc with z | z
 · rw[z];exact nit b u e
 exact nit c _ z
theorem Inv.tok(I:Inv X pins σ H s)(t:Nat):Inv X pins σ H { s with toks:=t }:=I.un (h':=s.heap) (t':=t) Un.refl I.hok
theorem Inv.kept{t':Nat}(I:Inv X pins σ H s)(k:∀ b u,s.heap.get? b=some u->h'.get? b=some u):Inv X pins σ H { s with heap:=h',toks:=t' }:=I.un (Un.kept k) (I.hok.kept k)
theorem Inv.laid{a:Addr}{o:HO}{t':Nat}(I:Inv X pins σ H s)(k:∀ b u,s.heap.get? b=some u->h'.get? b=some u)(hp:s.heap.objs.size<=a)(new:ObjOk X.prog X.w (upd H a o) h' a o) :
 Inv X pins σ (upd H a o) { s with heap:=h',toks:=t' }:=I.un (Un.laid k hp (I.hok.fresh hp)) (I.hok.laid k hp new)
theorem Inv.write{x e:Addr}{o:HO}{t':Nat}(I:Inv X pins σ H s)(mu:Mut (H x))(he:e=x∨H e=some (.own x))(k:∀ b u,b≠e->s.heap.get? b=some u->h'.get? b=some u)(heo:∃ u,h'.get? e=some u)
 (new:ObjOk X.prog X.w (upd H x o) h' x o):Inv X pins σ (upd H x o) { s with heap:=h',toks:=t' }:=I.un (Un.write mu he k heo) (I.hok.write mu he k heo new)
theorem Inv.pins_of{pins':List (Addr×Obj)}(I:Inv X pins σ H s)(h:∀ p∈pins',s.heap.get? p.1=some p.2/\H p.1=none/\p.1≠X.env.locals/\p.1∉X.fs /\ ∀ v,p.2.data ≠ .cell v):Inv X pins' σ H s:=
 ⟨I.ok,I.os,I.bare,I.base,I.loc,I.cell,I.free,I.freeC,fun p hp=>(List.mem_append.mp hp).elim (fun z=>I.pin p (List.mem_append_left _ z)) (h p),I.hok,I.len⟩
theorem nodup_ix{N:List Str}(hN:N.Nodup){i j:Nat}{x:Str}(a:N[i]?=some x)(b:N[j]?=some x):i=j:=by
 obtain⟨h1,e1⟩:=List.getElem?_eq_some_iff.mp a;obtain⟨h2,e2⟩:=List.getElem?_eq_some_iff.mp b;exact(List.getElem_inj hN).mp (e1.trans e2.symm)
theorem store_ok2{M:Model}{A:Around}{E:Value->Shared->Prop}{i:Nat}{x:Str}{v:V}{u:Value}{Q:Unit->Shared->Prop}(I:Inv X pins σ H s)(hN:X.N.Nodup)(hi:X.N[i]?=some x)(hx:Loc X.env.scope x)(r:RelV v u)
 (h:∀ s',Inv X pins (σ.set i (some v)) H s'->(∃ a,Heap.SameBut a s.heap s'.heap/\(a=X.env.locals∨X.env.cells.lookup x=some a))->Q () s') (hf:X.fn x=true∨X.env.scope.names.lookup x=some .local:=by first | exact .inl rfl | exact .inr rfl | assumption):wpAny M A (storeName X.env x u) Q E s:=by
 obtain⟨m,hn,hl⟩:=id I.loc;have hcls:(X.env.scope.kind == .class || (X.env.scope.kind == .module && X.env.locals != X.env.globals))=false:=by rw[I.ok.kind];rfl
 have hiσ:i < σ.length:=by rw[I.len];exact(List.getElem?_eq_some_iff.mp hi).1
 have cne:=I.cne;have tracked:∀{a:Addr}{h':Heap},(∃ o,s.heap.get? a=some o/\H a=none)->Heap.SameBut a s.heap h'->HOk X.prog X.w H h':=fun {a h'} ha hs b ob e=>by
  obtain⟨_,_,hfree⟩:=ha;refine(I.hok b ob e).stay (fun c w' hc q=>(hs.2 c ?_).trans q) (fun _ q=>q) fun _ _ q=>q;rintro rfl;rcases hc with rfl | hc
  · rw[hfree]at e;cases e
  rw[hfree]at hc;cases hc
 rcases hx with hk | hk
 · refine wpAny_storeName_local hk hn (fun h' hn' hs=>?_) hcls
   obtain⟨oL,_,_,hoL,_⟩:=id hn;refine h _ ⟨I.ok,I.os,I.bare,⟨fun b o e n hb hx=>?_,fun b o e n hb hx=>?_,I.base.free,fun b o e hx=>?_,I.base.tups,I.base.frzs,I.base.tbls⟩,⟨_,hn',fun j y v' e1 e2 e3=>?_⟩,fun y c e=>?_,I.free,I.freeC,fun p hp=>?_,tracked ⟨oL,hoL,I.free⟩ hs,by simpa using I.len⟩ ⟨_,hs,.inl rfl⟩
   · exact(hs.2 b (Nat.ne_of_lt (Nat.lt_of_lt_of_le (Heap.lt_size e) I.ok.above))).trans (I.base.keep b o e n hb hx)
   · obtain⟨sl,e1⟩:=I.base.slot b o e n hb hx
     exact⟨sl,(hs.2 b (Nat.ne_of_lt (Nat.lt_of_lt_of_le (Heap.lt_size e) I.ok.above))).trans e1⟩
   · obtain⟨o',e1⟩:=I.base.there b o e hx
     exact⟨o',(hs.2 b (Nat.ne_of_lt (Nat.lt_of_lt_of_le (Heap.lt_size e) I.ok.above))).trans e1⟩
   · by_cases hj:j=i
     · subst hj
       rw[hi]at e1;cases e1;rw[List.getElem?_set_self hiσ]at e2;cases e2;exact⟨u,r,.inl ⟨hk,by simp⟩⟩
     rw[List.getElem?_set_ne (Ne.symm hj)]at e2;obtain⟨u',r',q⟩:=hl j y v' e1 e2 e3;refine⟨u',r',?_⟩;rcases q with ⟨k,e⟩ | ⟨k,c,e,z⟩
     · refine .inl ⟨k,?_⟩
       have:y≠x:=fun e=>hj (nodup_ix hN e1 (e ▸ hi));simp[this,e]
     exact .inr ⟨k,c,e,z.sameBut hs (cne y c e)⟩
   · obtain⟨w',z⟩:=I.cell y c e
     exact⟨w',z.sameBut hs (cne y c e)⟩
   obtain⟨e,n,ne,nf,d⟩:=I.pin p hp;exact⟨(hs.2 p.1 ne).trans e,n,ne,nf,d⟩
 have hfn:X.fn x=true:=by
  rcases hf with z | z
  · exact z
  rw[z]at hk;cases hk
 obtain⟨c,hc⟩:=I.ok.has x (.inl hk);obtain⟨w',z⟩:=I.cell x c hc;refine wpAny_storeName_cell I.ok.kind hk hc z (fun h' hc' hs=>?_);obtain⟨oc,hoc,hocd⟩:=id z;refine h { s with heap:=h' } ⟨I.ok,I.os,I.bare,⟨fun b o e n hb hx=>?_,fun b o e n hb hx=>?_,I.base.free,fun b o e hx=>?_,I.base.tups,I.base.frzs,I.base.tbls⟩,⟨m,hn.sameBut hs (Ne.symm (cne x c hc)),fun j y v' e1 e2 e3=>?_⟩,fun y c' e=>?_,I.free,I.freeC,fun p hp=>?_,tracked ⟨oc,hoc,I.freeC x c hc⟩ hs,by simpa using I.len⟩ ⟨c,hs,.inr hc⟩
 · exact(hs.2 b (Nat.ne_of_lt (Nat.lt_of_lt_of_le (Heap.lt_size e) (I.ok.cab x c hfn hc)))).trans (I.base.keep b o e n hb hx)
 · obtain⟨sl,e1⟩:=I.base.slot b o e n hb hx
   exact⟨sl,(hs.2 b (Nat.ne_of_lt (Nat.lt_of_lt_of_le (Heap.lt_size e) (I.ok.cab x c hfn hc)))).trans e1⟩
 · obtain⟨o',e1⟩:=I.base.there b o e hx
   exact⟨o',(hs.2 b (Nat.ne_of_lt (Nat.lt_of_lt_of_le (Heap.lt_size e) (I.ok.cab x c hfn hc)))).trans e1⟩
 · by_cases hj:j=i
   · subst hj
     rw[hi]at e1;cases e1;rw[List.getElem?_set_self hiσ]at e2;cases e2;exact⟨u,r,.inr ⟨.inl hk,c,hc,hc'⟩⟩
   rw[List.getElem?_set_ne (Ne.symm hj)]at e2;obtain⟨u',r',q⟩:=hl j y v' e1 e2 e3;refine⟨u',r',?_⟩;rcases q with q | ⟨k,c',e,z'⟩
   · exact .inl q
   refine .inr ⟨k,c',e,z'.sameBut hs ?_⟩;rintro rfl;exact hj (nodup_ix hN e1 (I.ok.inj _ _ _ e hc ▸ hi))
 · by_cases hcc:c'=c
   · subst hcc;exact⟨_,hc'⟩
   obtain⟨w2,z2⟩:=I.cell y c' e;exact⟨w2,z2.sameBut hs hcc⟩
 obtain⟨e,n,ne,nf,d⟩:=I.pin p hp;refine⟨(hs.2 p.1 ?_).trans e,n,ne,nf,d⟩;intro q;rw[q,hoc]at e;have q':oc=p.2:=Option.some.inj e;exact d w' (by rw[← q'];exact hocd)
theorem store_ok{M:Model}{A:Around}{E:Value->Shared->Prop}{i:Nat}{x:Str}{v:V}{u:Value}{Q:Unit->Shared->Prop}(I:Inv X pins σ H s)(hN:X.N.Nodup)(hi:X.N[i]?=some x)(hx:Loc X.env.scope x)(r:RelV v u)
 (h:∀ s',Inv X pins (σ.set i (some v)) H s'->Q () s') (hf:X.fn x=true∨X.env.scope.names.lookup x=some .local:=by first | exact .inl rfl | exact .inr rfl | assumption):wpAny M A (storeName X.env x u) Q E s:=
 store_ok2 I hN hi hx r (fun s' I' _=>h s' I') hf
theorem Inv.call'{s':Shared}{ch:List Addr}(I:Inv X pins σ H s)(ho:s'.os=s.os)(u:Un (frs X.stack) ch H H' s.heap s'.heap)(hok:HOk X.prog X.w H' s'.heap)(hg:AllBare s'.gens)
 (hch:∀ b∈ch,(b∈X.ex∨X.s₀.heap.objs.size<=b)/\b≠X.env.locals/\(∀ x c,X.env.cells.lookup x=some c->c≠b) /\ ∀ p∈X.pn++pins,p.1≠b):Inv X pins σ H' s':=by
 obtain⟨h',g',d',t',o'⟩:=s';have e:o'=s.os:=ho;subst e;exact I.call (g':=g') (t':=t') (d':=d') u hok hg hch
end
noncomputable abbrev XK:=Value->Option Addr->Hp->Prop
noncomputable abbrev St:=List (Option V)
noncomputable abbrev VK:=V->Hp->Prop
noncomputable abbrev TE:=St->Hp->VK->Prop
noncomputable abbrev TT:=St->Hp->(Bool->Hp->Prop)->Prop
noncomputable abbrev TA:=St->Hp->(List V->Hp->Prop)->Prop
structure Ends where
 nx:St->Hp->Prop
 rt:VK
 bk:St->Hp->Prop:=fun _ _=>False
 ct:St->Hp->Prop:=fun _ _=>False
noncomputable abbrev TS:=Ends->St->Hp->Prop
noncomputable def EP(X:Cx)(pins:List (Addr×Obj))(σ:St)(Q:VK)(u:Value)(s':Shared):Prop:=∃ v H',Inv X pins σ H' s'/\RelV v u/\Q v H'
noncomputable def TP(X:Cx)(pins:List (Addr×Obj))(σ:St)(Q:Bool->Hp->Prop)(b:Bool)(s':Shared):Prop:=∃ H',Inv X pins σ H' s'/\Q b H'
noncomputable def AP(X:Cx)(pins:List (Addr×Obj))(σ:St)(Q:List V->Hp->Prop)(us:List Value)(s':Shared):Prop:=∃ vs H',Inv X pins σ H' s'/\Vals vs us/\Q vs H'
noncomputable def SP(X:Cx)(pins:List (Addr×Obj))(D:Ends)(f:Flow)(s':Shared):Prop:=
 match f with
 | .next=>∃ σ' H',Inv X pins σ' H' s'/\D.nx σ' H'
 | .brk=>∃ σ' H',Inv X pins σ' H' s'/\D.bk σ' H'
 | .cont=>∃ σ' H',Inv X pins σ' H' s'/\D.ct σ' H'
 | .ret u=>∃ v σ' H',Inv X pins σ' H' s'/\RelV v u/\D.rt v H'
noncomputable def PE(X:Cx)(e:Expr)(t:TE):Prop:=
 ∀(pins:List (Addr×Obj)) (s:Shared) (σ:St) (H:Hp) (Q:VK),Inv X pins σ H s->t σ H Q->wpAny (model X.prog X.w) X.A (eval e X.env) (EP X pins σ Q) X.xe s
noncomputable def PT(X:Cx)(e:Expr)(t:TT):Prop:=
 ∀(pins:List (Addr×Obj)) (s:Shared) (σ:St) (H:Hp) (Q:Bool->Hp->Prop),Inv X pins σ H s->t σ H Q->wpAny (model X.prog X.w) X.A (isTrue e X.env (eval e X.env)) (TP X pins σ Q) X.xe s
noncomputable def PW(X:Cx)(e:Expr)(t:TT):Prop:=
 ∀(whole:Sem Value) (pins:List (Addr×Obj)) (s:Shared) (σ:St) (H:Hp) (Q:Bool->Hp->Prop),Inv X pins σ H s->t σ H Q->wpAny (model X.prog X.w) X.A (isTrue e X.env whole) (TP X pins σ Q) X.xe s
theorem PW.pt{X:Cx}{e:Expr}{t:TT}(h:PW X e t):PT X e t:=h _
noncomputable def PA(X:Cx)(es:List Expr)(t:TA):Prop:=
 ∀(pos:Pos) (pins:List (Addr×Obj)) (s:Shared) (σ:St) (H:Hp) (Q:List V->Hp->Prop),Inv X pins σ H s->t σ H Q->wpAny (model X.prog X.w) X.A (spliced (backTo pos (starEach es X.env))) (AP X pins σ Q) X.xe s
noncomputable def PS(X:Cx)(st:Stmt)(t:TS):Prop:=
 ∀(pins:List (Addr×Obj)) (s:Shared) (σ:St) (H:Hp) (D:Ends),Inv X pins σ H s->t D σ H->wpAny (model X.prog X.w) X.A (exec st X.env) (SP X pins D) X.xe s
noncomputable def PSs(X:Cx)(st:List Stmt)(t:TS):Prop:=
 ∀(pins:List (Addr×Obj)) (s:Shared) (σ:St) (H:Hp) (D:Ends),Inv X pins σ H s->t D σ H->wpAny (model X.prog X.w) X.A (execs st X.env) (SP X pins D) X.xe s
theorem thn{α:Type}{t:Sem α}{Q Q':α -> Shared->Prop}{M:Model}{A:Around}{E:Value->Shared->Prop}{s:Shared}(h:wpAny M A t Q E s)(hQ:∀ a s,Q a s->Q' a s):wpAny M A t Q' E s:=wpAny_mono h hQ fun _ _ x=>x
end L2
namespace L2
open PySem PySem.Spec PyProof.Rows
section
variable{X:Cx}
noncomputable def tVar(i:Nat):TE:=fun σ H Q=>∃ v,σ[i]?=some (some v)/\Q v H
noncomputable def tC(v:V):TE:=fun _ H Q=>Q v H
theorem pe_var{i:Nat}{x:Str}{pos:Pos}(hN:X.N[i]?=some x)(hv:Vis X.env.scope x)(hd:(x == ("__debug__":Str))=false:=by decide)(hcd:(x == ("__classdict__":Str))=false:=by decide):PE X (.Name x pos) (tVar i):=by
 intro pins s σ H Q I h;obtain⟨v,e,h⟩:=h;obtain⟨m,hn,hl⟩:=I.loc;obtain⟨u,r,l⟩:=hl i x v hN e hv;have fin:EP X pins σ Q u s:=⟨v,H,I,r,h⟩;rcases l with ⟨hk,hm⟩ | ⟨hk,c,hc,hcell⟩
 · exact wpAny_Name (wpAny_loadName_local I.ok.kind hk hn hm fin) hd
 rcases hk with hk | hk
 · exact wpAny_Name (wpAny_loadName_cell I.ok.kind hk hc hcell fin) hd
 exact wpAny_Name (wpAny_loadName_free I.ok.kind hk hc hcell fin hcd) hd
theorem pe_int{i j pos}:PE X (.Constant (.int i) j pos) (tC (.int i)):=fun _ _ _ H _ I h=>wpAny_Constant_int ⟨.int i,H,I.tok _,⟨_,rfl⟩,h⟩
theorem pe_bl{b j pos}:PE X (.Constant (.bool b) j pos) (tC (.bl b)):=fun _ _ _ H _ I h=>Constant_bool ⟨.bl b,H,I,rfl,h⟩
theorem pe_non{j pos}:PE X (.Constant .none j pos) (tC .non):=fun _ _ _ H _ I h=>Constant_none ⟨.non,H,I,rfl,h⟩
theorem pe_str{x j pos}:PE X (.Constant (.str x) j pos) (tC (.str x)):=fun _ _ _ H _ I h=>Calls.Constant_str ⟨.str x,H,I.tok _,⟨_,rfl⟩,h⟩
noncomputable def Gl(X:Cx)(x:Str):Prop:=X.env.kindOf x=some .globalImplicit
theorem ld_glob{E:Value->Shared->Prop}{pins:List (Addr×Obj)}{s:Shared}{σ:St}{H:Hp}{x:Str}{u:Value}{pos:Pos}{Q:Value->Shared->Prop}(I:Inv X pins σ H s)(hg:Gl X x)(hm:X.mg x=some u)(h:Q u s)
 (hd:(x == ("__debug__":Str))=false:=by decide):wpAny (model X.prog X.w) X.A (eval (.Name x pos) X.env) Q E s:=
 Calls.Name_function_global I.ok.kind hg (Calls.loadGlobal_global (by rw[I.ok.glob];exact I.mod.glob.keeps I.bk) hm h) hd
theorem ld_blt{E:Value->Shared->Prop}{pins:List (Addr×Obj)}{s:Shared}{σ:St}{H:Hp}{x:Str}{u:Value}{pos:Pos}{Q:Value->Shared->Prop}(I:Inv X pins σ H s)(hg:Gl X x)(hm:X.mg x=none)(hv:bootBuiltins x=some u)(h:Q u s)
 (hn:x ≠ "__name__":=by decide) (hd:(x == ("__debug__":Str))=false:=by decide):wpAny (model X.prog X.w) X.A (eval (.Name x pos) X.env) Q E s:=by
 obtain⟨mb,h1,h2⟩:=I.mod.blt;exact Calls.Name_function_global I.ok.kind hg (Calls.loadGlobal_builtin (by rw[I.ok.glob];exact I.mod.glob.keeps I.bk) hm (by rw[I.ok.blt];exact h1.keeps I.bk) ((h2 x hn).trans hv) h) hd
theorem pe_glob{x:Str}{v:V}{u:Value}{pos:Pos}(hg:Gl X x)(hm:X.mg x=some u)(r:RelV v u)(hd:(x == ("__debug__":Str))=false:=by decide):PE X (.Name x pos) (tC v):=
 fun _ _ _ H _ I h=>ld_glob I hg hm ⟨v,H,I,r,h⟩ hd
theorem pe_bltn{x:Str}{v:V}{u:Value}{pos:Pos}(hg:Gl X x)(hm:X.mg x=none)(hv:bootBuiltins x=some u)(r:RelV v u)(hn:x ≠ "__name__":=by decide)(hd:(x == ("__debug__":Str))=false:=by decide):PE X (.Name x pos) (tC v):=
 fun _ _ _ H _ I h=>ld_blt I hg hm hv ⟨v,H,I,r,h⟩ hn hd
variable{a b:Expr}{ta tb:TE}{pos:Pos}
noncomputable def tB(t:TE):TT:=fun σ H Q=>t σ H fun x H1=>∃ c,x=.bl c/\Q c H1
theorem pt_val{e:Expr}{t:TE}(h:PE X e t)(he:∀ whole,isTrue e X.env whole=(do let v ← whole;standAt e.pos;holding [v] (truthy v)):=by intro _;rfl):PT X e (tB t):=by
 intro pins s σ H Q I hw;refine isTrue_plain (thn (h pins s σ H _ I hw) fun v s1 ⟨x,H1,I1,r1,q1⟩=>?_) (he _);obtain⟨d,rfl,q⟩:=q1;cases r1;exact wpAny_truthy_bool ⟨H1,I1,q⟩
variable{tA tB':TT}{rest:List Expr}
noncomputable def tAnd(t u:TT):TT:=fun σ H Q=>t σ H fun c H1=>if c=true then u σ H1 Q else Q false H1
noncomputable def tOr(t u:TT):TT:=fun σ H Q=>t σ H fun c H1=>if c=true then Q true H1 else u σ H1 Q
noncomputable def tNot(t:TT):TT:=fun σ H Q=>t σ H fun c H1=>Q (!c) H1
theorem pw_and1(ha:PT X a tA):PW X (.BoolOp .And [a] pos) tA:=by
 intro wh pins s σ H Q I h;refine isTrue_and (thn (ha pins s σ H Q I h) fun c s1 e=>?_);cases c with
 | true=>exact isTrue_and_nil e
 | false=>exact e
theorem pw_or1(ha:PT X a tA):PW X (.BoolOp .Or [a] pos) tA:=by
 intro wh pins s σ H Q I h;refine isTrue_or (thn (ha pins s σ H Q I h) fun c s1 e=>?_);cases c with
 | false=>exact isTrue_or_nil e
 | true=>exact e
theorem pw_and(ha:PT X a tA)(hb:PW X (.BoolOp .And (b::rest) pos) tB'):PW X (.BoolOp .And (a::b::rest) pos) (tAnd tA tB'):=by
 intro wh pins s σ H Q I h;refine isTrue_and (thn (ha pins s σ H _ I h) fun c s1 zz=>?_);obtain⟨H1,I1,q1⟩:=zz;cases c with
 | true=>exact hb wh pins s1 σ H1 Q I1 q1
 | false=>exact⟨H1,I1,q1⟩
theorem pw_or(ha:PT X a tA)(hb:PW X (.BoolOp .Or (b::rest) pos) tB'):PW X (.BoolOp .Or (a::b::rest) pos) (tOr tA tB'):=by
 intro wh pins s σ H Q I h;refine isTrue_or (thn (ha pins s σ H _ I h) fun c s1 zz=>?_);obtain⟨H1,I1,q1⟩:=zz;cases c with
 | true=>exact⟨H1,I1,q1⟩
 | false=>exact hb wh pins s1 σ H1 Q I1 q1
theorem pt_not(ha:PT X a tA):PT X (.UnaryOp .Not a pos) (tNot tA):=by
 intro pins s σ H Q I h;exact isTrue_not (ha pins s σ H (fun c H1=>Q (!c) H1) I h)
noncomputable def tAndV(ta tb:TE):TE:=fun σ H Q=>ta σ H fun x H1=>∃ c,x=.bl c/\if c=true then tb σ H1 Q else Q (.bl false) H1
noncomputable def tOrV(ta tb:TE):TE:=fun σ H Q=>ta σ H fun x H1=>∃ c,x=.bl c/\if c=true then Q (.bl true) H1 else tb σ H1 Q
noncomputable def tNotV(ta:TE):TE:=fun σ H Q=>ta σ H fun x H1=>∃ c,x=.bl c/\Q (.bl (!c)) H1
theorem pe_one{op}{t:TE}(h:PE X a t):PE X (.BoolOp op [a] pos) t:=fun pins s σ H Q I hw=>BoolOp_one (h pins s σ H Q I hw)
theorem pe_and(ha:PE X a ta)(hb:PE X (.BoolOp .And (b::rest) pos) tb):PE X (.BoolOp .And (a::b::rest) pos) (tAndV ta tb):=by
 intro pins s σ H Q I h;refine BoolOp_and (thn (ha pins s σ H _ I h) fun v s1 zz=>?_);obtain⟨x,H1,I1,r1,q1⟩:=zz;obtain⟨c,rfl,q1⟩:=q1;cases r1;refine wpAny_truthy_bool ?_;cases c with
 | true=>exact hb pins s1 σ H1 Q I1 q1
 | false=>exact⟨.bl false,H1,I1,rfl,q1⟩
theorem pe_or(ha:PE X a ta)(hb:PE X (.BoolOp .Or (b::rest) pos) tb):PE X (.BoolOp .Or (a::b::rest) pos) (tOrV ta tb):=by
 intro pins s σ H Q I h;refine BoolOp_or (thn (ha pins s σ H _ I h) fun v s1 zz=>?_);obtain⟨x,H1,I1,r1,q1⟩:=zz;obtain⟨c,rfl,q1⟩:=q1;cases r1;refine wpAny_truthy_bool ?_;cases c with
 | false=>exact hb pins s1 σ H1 Q I1 q1
 | true=>exact⟨.bl true,H1,I1,rfl,q1⟩
theorem pe_not(ha:PE X a ta):PE X (.UnaryOp .Not a pos) (tNotV ta):=by
 intro pins s σ H Q I h;refine UnaryOp_ (thn (ha pins s σ H _ I h) fun v s1 zz=>?_);obtain⟨x,H1,I1,r1,q1⟩:=zz;obtain⟨c,rfl,q1⟩:=q1;cases r1;exact not_of (wpAny_truthy_bool ⟨.bl (!c),H1,I1,rfl,q1⟩)
noncomputable def tIf(t:TT)(ta tb:TE):TE:=fun σ H Q=>t σ H fun c H1=>if c=true then ta σ H1 Q else tb σ H1 Q
theorem pe_ifExp{c:Expr}(hc:PT X c tA)(ha:PE X a ta)(hb:PE X b tb):PE X (.IfExp c a b pos) (tIf tA ta tb):=by
 intro pins s σ H Q I h;refine wpAny_IfExp (thn (hc pins s σ H _ I h) fun d s1 zz=>?_);obtain⟨H1,I1,q1⟩:=zz;cases d with
 | true=>exact ha pins s1 σ H1 Q I1 q1
 | false=>exact hb pins s1 σ H1 Q I1 q1
end
end L2
namespace L2
open PySem PySem.Spec PyProof.Rows
noncomputable def SqL(K:W.Frag)(H:Hp)(a:Addr)(xs:List V):Prop:=
 Rd H a (.lst xs) ∨
  ∃(o:Obj) (its:Array Value) (n:Nat),K.lookup a=some o/\o.cls=.type "list" /\ o.dict=none/\o.data=.seq its n/\its.size<=sizeLine/\Vals xs its.toList
noncomputable def SqT(K:W.Frag)(H:Hp)(a:Addr)(xs:List V):Prop:=
 Rd H a (.tup xs) ∨
  ∃(o:Obj) (its:Array Value) (n:Nat),K.lookup a=some o/\o.cls=.type "tuple" /\ o.data=.seq its n/\its.size<=sizeLine/\Vals xs its.toList
noncomputable def absV:Value->Option V
 | .none=>some .non
 | .bool b=>some (.bl b)
 | .int i _=>some (.int i)
 | .str x _=>some (.str x)
 | .bytes b _=>some (.byt b)
 | .float b _=>some (.flt b)
 | .ref a=>some (.ref a)
 | .type n=>some (.ty n)
 | _=>none
theorem RelV.abs{x:V}{u:Value}(r:RelV x u):absV u=some x:=by
 cases x with
 | non=>cases r;rfl
 | bl _=>cases r;rfl
 | int _=>obtain⟨t,rfl⟩:=r;rfl
 | str _=>obtain⟨t,rfl⟩:=r;rfl
 | byt _=>obtain⟨t,rfl⟩:=r;rfl
 | flt _=>obtain⟨t,rfl⟩:=r;rfl
 | ref _=>cases r;rfl
 | ty _=>cases r;rfl
theorem RelV.inj{x y:V}{u:Value}(r:RelV x u)(q:RelV y u):x=y:=Option.some.inj (r.abs.symm.trans q.abs)
theorem Vals.inj:∀{xs ys:List V}{us:List Value},Vals xs us->Vals ys us->xs=ys
 | _,_,_,.nil,.nil=>rfl
 | _,_,_,.cons r t,.cons r' t'=>by rw[r.inj r',Vals.inj t t']
section
variable{X:Cx}{pins:List (Addr×Obj)}{σ:St}{H:Hp}{s:Shared}{a:Addr}{xs ys:List V}
theorem SqL.of{K:W.Frag}(h:H a=some (.lst xs)):SqL K H a xs:=.inl (.inl h)
theorem SqT.of{K:W.Frag}(h:H a=some (.tup xs)):SqT K H a xs:=.inl (.inl h)
theorem Inv.list(I:Inv X pins σ H s)(h:SqL X.K H a xs):∃ its:List Value,Vals xs its/\PlainL s.heap a its.toArray/\xs.length<=sizeLine:=by
 rcases h with h | ⟨o,its,n,hk,hc,hd,hs,hz,r⟩
 · obtain⟨z,its,n,r,e⟩:=h.ok I.hok
   exact⟨its,r,⟨_,n,e,rfl,rfl,rfl⟩,z⟩
 refine⟨its.toList,r,⟨o,n,I.kIn a o hk,hc,hd,by simpa using hs⟩,?_⟩
 have e:=r.length;simp only[Array.length_toList]at e;omega
theorem Inv.tuple(I:Inv X pins σ H s)(h:SqT X.K H a xs):∃ its:List Value,Vals xs its/\IsTup s.heap a its.toArray/\xs.length<=sizeLine:=by
 rcases h with h | ⟨o,its,n,hk,hc,hs,hz,r⟩
 · obtain⟨z,its,r,p⟩:=h.ok I.hok
   exact⟨its,r,p,z⟩
 refine⟨its.toList,r,⟨o,I.kIn a o hk,hc,n,by simpa using hs⟩,?_⟩
 have e:=r.length;simp only[Array.length_toList]at e;omega
theorem Inv.list_inj(I:Inv X pins σ H s)(h:SqL X.K H a xs)(h':SqL X.K H a ys):xs=ys:=by
 obtain⟨its,r,⟨o,n,e,_,_,d⟩,_⟩:=I.list h;obtain⟨its',r',⟨o',n',e',_,_,d'⟩,_⟩:=I.list h';rw[e]at e';cases e';rw[d]at d';injection d' with d1 _;have:its=its':=by simpa using congrArg Array.toList d1
 subst this;exact r.inj r'
theorem Inv.tuple_inj(I:Inv X pins σ H s)(h:SqT X.K H a xs)(h':SqT X.K H a ys):xs=ys:=by
 obtain⟨its,r,⟨o,e,_,n,d⟩,_⟩:=I.tuple h;obtain⟨its',r',⟨o',e',_,n',d'⟩,_⟩:=I.tuple h';rw[e]at e';cases e';rw[d]at d';injection d' with d1 _;have:its=its':=by simpa using congrArg Array.toList d1
 subst this;exact r.inj r'
end
noncomputable abbrev Cx.wish(X:Cx)(E:Value->Shared->Prop):Cx:={ X with xe:=E }
noncomputable abbrev Cx.nox(X:Cx):Cx:=X.wish fun _ _=>False
theorem Cx.Ok.wish{X:Cx}(ok:X.Ok)(E:Value->Shared->Prop):(X.wish E).Ok:=
 ⟨ok.mod,ok.kind,ok.glob,ok.blt,ok.above,ok.inj,ok.has,ok.cab,ok.hd,ok.frames,ok.stk,ok.exf,ok.bs,ok.bsz,ok.noex,ok.exfs,ok.funs,ok.frf⟩
theorem Cx.Ok.unwish{X:Cx}{E:Value->Shared->Prop}(ok:(X.wish E).Ok):X.Ok:=
 ⟨ok.mod,ok.kind,ok.glob,ok.blt,ok.above,ok.inj,ok.has,ok.cab,ok.hd,ok.frames,ok.stk,ok.exf,ok.bs,ok.bsz,ok.noex,ok.exfs,ok.funs,ok.frf⟩
section
variable{X:Cx}{pins:List (Addr×Obj)}{σ:St}{H:Hp}{s:Shared}{E:Value->Shared->Prop}
theorem Inv.wish(I:Inv X pins σ H s)(E:Value->Shared->Prop):Inv (X.wish E) pins σ H s:=⟨I.ok.wish E,I.os,I.bare,I.base,I.loc,I.cell,I.free,I.freeC,I.pin,I.hok,I.len⟩
theorem Inv.unwish(I:Inv (X.wish E) pins σ H s):Inv X pins σ H s:=⟨I.ok.unwish,I.os,I.bare,I.base,I.loc,I.cell,I.free,I.freeC,I.pin,I.hok,I.len⟩
theorem SP.unwish{D:Ends}{f:Flow}{s':Shared}(h:SP (X.wish E) pins D f s'):SP X pins D f s':=by
 cases f with
 | next=>obtain⟨σ',H',I,q⟩:=h;exact⟨σ',H',I.unwish,q⟩
 | brk=>obtain⟨σ',H',I,q⟩:=h;exact⟨σ',H',I.unwish,q⟩
 | cont=>obtain⟨σ',H',I,q⟩:=h;exact⟨σ',H',I.unwish,q⟩
 | ret u=>obtain⟨v,σ',H',I,r,q⟩:=h;exact⟨v,σ',H',I.unwish,r,q⟩
theorem PSs.nox{st:List Stmt}{t:TS}(h:PSs X.nox st t):PSs X st t:=fun pins s σ H D I hw=>
 wpAny_mono (h pins s σ H D (I.wish _) hw) (fun _ _ q=>q.unwish) fun _ _ z=>False.elim z
end
section
variable{X:Cx}{st:Stmt}{rest:List Stmt}{t u:TS}{e:Expr}{te:TE}{pos:Pos}
noncomputable def tNext:TS:=fun D σ H=>D.nx σ H
noncomputable def tSeq(t u:TS):TS:=fun D σ H=>t { D with nx:=u D } σ H
theorem pss_nil:PSs X [] tNext:=fun _ _ σ H _ I h=>wpAny_execs_nil ⟨σ,H,I,h⟩
theorem pss_cons(h1:PS X st t)(h2:PSs X rest u):PSs X (st::rest) (tSeq t u):=by
 intro pins s σ H D I h;refine wpAny_execs_cons (thn (h1 pins s σ H { D with nx:=u D } I h) fun f s1 q=>?_);cases f with
 | next=>
   obtain⟨σ',H',I',q⟩:=q;exact h2 pins s1 σ' H' D I' q
 | ret v=>exact q
 | brk=>exact q
 | cont=>exact q
theorem pss_one(h1:PS X st t):PSs X [st] t:=by
 intro pins s σ H D I h;refine wpAny_execs_cons (thn (h1 pins s σ H D I h) fun f s1 q=>?_);cases f with
 | next=>exact wpAny_execs_nil q
 | ret v=>exact q
 | brk=>exact q
 | cont=>exact q
theorem Inv.quiet{pins:List (Addr×Obj)}{σ:St}{H:Hp}{s:Shared}(I:Inv X pins σ H s):interactive X.env=false:=by simp[interactive,I.ok.kind]
noncomputable def tDrop(te:TE):TS:=fun D σ H=>te σ H fun _ H1=>D.nx σ H1
theorem ps_expr(he:PE X e te)(hs:swapsWith e none pos.line X.env=pure false:=by rfl):PS X (.Expr e pos) (tDrop te):=by
 intro pins s σ H D I h;exact wpAny_Expr_any (thn (he pins s σ H _ I h) fun v s1 ⟨x,H1,I1,r1,q1⟩=>⟨σ,H1,I1,q1⟩) I.quiet hs
noncomputable def tRet(te:TE):TS:=fun D σ H=>te σ H D.rt
theorem ps_ret(he:PE X e te):PS X (.Return (some e) pos) (tRet te):=by
 intro pins s σ H D I h;exact wpAny_Return_some (thn (he pins s σ H _ I h) fun v s1 ⟨x,H1,I1,r1,q1⟩=>⟨x,σ,H1,I1,r1,q1⟩)
noncomputable def tRetN:TS:=fun D _ H=>D.rt .non H
theorem ps_retN:PS X (.Return none pos) tRetN:=fun _ _ σ H _ I h=>wpAny_Return_none ⟨.non,σ,H,I,rfl,h⟩
noncomputable def tIfS(c:TT)(t u:TS):TS:=fun D σ H=>c σ H fun b H1=>if b=true then t D σ H1 else u D σ H1
theorem ps_if{c:Expr}{a b:List Stmt}{tc:TT}(hc:PT X c tc)(ha:PSs X a t)(hb:PSs X b u):PS X (.If c a b pos) (tIfS tc t u):=by
 intro pins s σ H D I h;refine wpAny_If (thn (hc pins s σ H _ I h) fun d s1 zz=>?_);obtain⟨H1,I1,q1⟩:=zz;cases d with
 | true=>exact ha pins s1 σ H1 D I1 q1
 | false=>exact hb pins s1 σ H1 D I1 q1
noncomputable def tNever:TS:=fun _ _ _=>False
theorem ps_never:PS X st tNever:=fun _ _ _ _ _ _ h=>h.elim
end
noncomputable abbrev TG:=V->St->Hp->(St->Hp->Prop)->Prop
noncomputable abbrev TGs:=List V->St->Hp->(St->Hp->Prop)->Prop
noncomputable def PG(X:Cx)(target:Expr)(t:TG):Prop:=
 ∀(pins:List (Addr×Obj)) (s:Shared) (σ:St) (H:Hp) (v:V) (u:Value) (Q:St->Hp->Prop),Inv X pins σ H s->RelV v u->t v σ H Q ->
   wpAny (model X.prog X.w) X.A (assign target X.env u) (fun _ s'=>∃ σ' H',Inv X pins σ' H' s'/\Q σ' H') X.xe s
noncomputable def PGs(X:Cx)(ts:List Expr)(t:TGs):Prop:=
 ∀(pins:List (Addr×Obj)) (s:Shared) (σ:St) (H:Hp) (vs:List V) (us:List Value) (Q:St->Hp->Prop),Inv X pins σ H s->Vals vs us->t vs σ H Q ->
   wpAny (model X.prog X.w) X.A (assignInOrder ((assignEach ts X.env).map (·.2)) us) (fun _ s'=>∃ σ' H',Inv X pins σ' H' s'/\Q σ' H') X.xe s
noncomputable abbrev TSet:=V->V->V->Hp->(Hp->Prop)->Prop
noncomputable def PSet(X:Cx)(t:TSet):Prop:=
 ∀(pins:List (Addr×Obj)) (s:Shared) (σ:St) (H:Hp) (o i v:V) (ov iv u:Value) (Q:Hp->Prop),Inv X pins σ H s->RelV o ov->RelV i iv->RelV v u->t o i v H Q ->
   wpAny (model X.prog X.w) X.A (setItem ov iv u) (fun _ s'=>∃ H',Inv X pins σ H' s'/\Q H') X.xe s
section
variable{X:Cx}{pos:Pos}
noncomputable def gName(i:Nat):TG:=fun v σ H Q=>Q (σ.set i (some v)) H
theorem pg_name{i:Nat}{x:Str}(hN:X.N.Nodup)(hi:X.N[i]?=some x)(hx:Loc X.env.scope x)(hf:X.fn x=true∨X.env.scope.names.lookup x=some .local:=by first | exact .inl rfl | exact .inr rfl | assumption):PG X (.Name x pos) (gName i):=by
 intro pins s σ H v u Q I r h;exact wpAny_assign_Name (store_ok I hN hi hx r (fun s' I'=>⟨_,H,I',h⟩) hf)
noncomputable def gNil:TGs:=fun vs σ H Q=>vs=[]/\Q σ H
noncomputable def gCons(t:TG)(u:TGs):TGs:=fun vs σ H Q=>∃ v r,vs=v::r/\t v σ H fun σ' H'=>u r σ' H' Q
theorem pgs_nil:PGs X [] gNil:=by
 intro pins s σ H vs us Q I r h;obtain⟨e,h⟩:=h;subst e;cases r;exact assignInOrder_nil ⟨σ,H,I,h⟩
theorem pgs_cons{e:Expr}{es:List Expr}{t:TG}{u:TGs}(h1:PG X e t)(h2:PGs X es u)
 (hs:(assignEach (e::es) X.env).map (·.2)=assign e X.env::(assignEach es X.env).map (·.2):=by rfl):PGs X (e::es) (gCons t u):=by
 intro pins s σ H vs us Q I r h;obtain⟨v,vr,e1,h⟩:=h;subst e1;cases r with
 | cons r rr=>
   rw[hs];refine assignInOrder_cons (thn (h1 pins s σ H _ _ _ I r h) fun _ s1 zz=>?_);obtain⟨σ1,H1,I1,q1⟩:=zz;exact h2 pins s1 σ1 H1 _ _ Q I1 rr q1
noncomputable def gTup(K:W.Frag)(n:Nat)(t:TGs):TG:=fun v σ H Q=>∃ a xs,v=.ref a/\SqT K H a xs/\xs.length=n/\t xs σ H Q
theorem pg_tup{es:List Expr}{k:Nat}{t:TGs}{n:Nat}(hc:X.calm=true)(h:PGs X es t)
 (hn:(assignEach es X.env).length=n:=by rfl) (hst:(assignEach es X.env).findIdx? (·.1)=none:=by rfl):PG X (.Tuple es k pos) (gTup X.K n t):=by
 intro pins s σ H v u Q I r hw;obtain⟨a,xs,e1,hq,hl,hw⟩:=hw;subst e1;cases r;obtain⟨its,rv,ht,hz⟩:=I.tuple hq;refine assign_Tuple_tuple (I.ok.hd hc) ht (by simp[hn,← hl,rv.length]) hst fun h' hx=>?_
 have I1:Inv X pins σ H { s with heap:=h' }:=I.kept (t':=s.toks) fun b o e=>hx b o (Nat.ne_of_lt (Heap.lt_size e)) e;exact h pins _ σ H xs _ Q I1 (by simpa using rv) hw
noncomputable def gSub(to ti:TE)(t:TSet):TG:=fun v σ H Q=>to σ H fun o H1=>ti σ H1 fun i H2=>t o i v H2 fun H3=>Q σ H3
theorem pg_sub{o i:Expr}{to ti:TE}{t:TSet}(ho:PE X o to)(hi:PE X i ti)(hs:PSet X t)
 (ha:∀ v,assign (.Subscript o i pos) X.env v=(do
  let ov ← holding [v] (eval o X.env)
  let iv ← holding [v,ov] (eval i X.env)
  standAt pos
  holding [v,ov,iv] (setItem ov iv v)
  release [v,ov,iv] []):=by intro _;rfl):PG X (.Subscript o i pos) (gSub to ti t):=by
 intro pins s σ H v u Q I r h;rw[ha];refine wpAny_bind (wpAny_holding (thn (ho pins s σ H _ I h) fun ov s1 zz=>?_));obtain⟨x,H1,I1,r1,q1⟩:=zz;refine wpAny_bind (wpAny_holding (thn (hi pins s1 σ H1 _ I1 q1) fun iv s2 zz=>?_));obtain⟨y,H2,I2,r2,q2⟩:=zz;refine wpAny_bind (wpAny_standAt (wpAny_bind (wpAny_holding (thn (hs pins s2 σ H2 x y v ov iv u _ I2 r1 r2 r q2) fun _ s3 zz=>?_))));obtain⟨H3,I3,q3⟩:=zz;exact wpAny_release ⟨σ,H3,I3,q3⟩
noncomputable def tAsg(te:TE)(g:TG):TS:=fun D σ H=>te σ H fun x H1=>g x σ H1 D.nx
theorem ps_asg{tg e:Expr}{te:TE}{g:TG}(he:PE X e te)(hg:PG X tg g)(hs:swapsWithSole [tg] e pos.line X.env=pure false:=by rfl)(hw:swappedStores [tg] e X.env=pure none:=by rfl)
 (h1:(assignEach [tg] X.env).map (·.2)=[assign tg X.env]:=by rfl):PS X (.Assign [tg] e pos) (tAsg te g):=by
 intro pins s σ H D I h;refine wpAny_Assign_stores (thn (he pins s σ H _ I h) fun v s1 ⟨x,H1,I1,r1,q1⟩=>?_) hs hw;rw[h1];exact thn (hg pins s1 σ H1 x v _ I1 r1 q1) fun _ s2 q=>q
theorem ps_set{i:Nat}{x:Str}{e:Expr}{te:TE}{pos':Pos}(hN:X.N.Nodup)(hi:X.N[i]?=some x)(hx:Loc X.env.scope x)(he:PE X e te)(hs:swapsWith e (some (.Name x pos')) pos.line X.env=pure false:=by rfl)(hf:X.fn x=true∨X.env.scope.names.lookup x=some .local:=by first | exact .inl rfl | exact .inr rfl | assumption) :
 PS X (.Assign [.Name x pos'] e pos) (tAsg te (gName i)):=by
 intro pins s σ H D I h;refine wpAny_Assign_Name (thn (he pins s σ H _ I h) fun v s1 ⟨y,H1,I1,r1,q1⟩=>?_) hs;exact store_ok I1 hN hi hx r1 (fun s2 I2=>⟨_,H1,I2,q1⟩) hf
end
section
variable{X:Cx}{pos:Pos}
end
structure It where
 go:Nat->Hp->Prop
 yld:Nat->Hp->V->Hp->Prop
 stop:Nat->Hp->Prop
noncomputable def FpOk(X:Cx)(pins:List (Addr×Obj))(H:Hp)(b:Addr):Prop:=
 H b=none/\b≠X.env.locals/\b∉X.fs/\(b∈X.ex∨X.s₀.heap.objs.size<=b)/\(∀ x c,X.env.cells.lookup x=some c->c≠b) /\ ∀ p∈X.pn++pins,p.1≠b
theorem Inv.fpOk{X:Cx}{pins:List (Addr×Obj)}{σ:St}{H H':Hp}{s:Shared}{b:Addr}(I:Inv X pins σ H s)(hb:s.heap.objs.size<=b)(hn:H' b=none):FpOk X pins H' b:=by
 refine⟨hn,Nat.ne_of_gt (Nat.lt_of_lt_of_le I.lt hb),I.nofs hb,.inr (Nat.le_trans I.sz hb),fun x c e z=>?_,fun p hp z=>?_⟩
 · obtain⟨v,q⟩:=I.cell x c e
   exact absurd (Nat.lt_of_lt_of_le q.lt (by rw[z];exact hb)) (Nat.lt_irrefl _)
 exact absurd (Nat.lt_of_lt_of_le (Heap.lt_size (I.pin p hp).1) (by rw[z];exact hb)) (Nat.lt_irrefl _)
structure Turn(P:Program)(w:World)(K:W.Frag)(tg:Expr)(J:It)(fp:List Addr)(it:Addr)(tn:Nat->Heap->Prop):Prop where
 mem:it∈fp
 obj:∀ i h,tn i h -> ∀ b∈fp,∃ o,h.get? b=some o /\ ∀ v,o.data ≠ .cell v
 keep:∀ i h h',tn i h->(∀ b∈fp,∀ o,h.get? b=some o->h'.get? b=some o)->tn i h'
 item:∀(X:Cx),X.prog=P->X.w=w->X.K=K->X.calm=true -> ∀(i:Nat) (pins:List (Addr×Obj)) (s:Shared) (σ:St) (H:Hp) (E:Value->Shared->Prop),Inv X pins σ H s->(∀ b∈fp,FpOk X pins H b)->tn i s.heap->J.go i H ->
  wpAny (model P w) X.A (pyNext (.ref it)) (fun r s1=>∃ u,r=some u /\
   wpAny (model P w) X.A (letOwnedTupleGo tg (.ref it) u) (fun _ s2=>∃ x H',Inv X pins σ H' s2/\RelV x u/\J.yld i H x H'/\tn (i+1) s2.heap /\ ∀ b∈fp,H' b=none) E s1) E s
 done:∀(X:Cx),X.prog=P->X.w=w->X.K=K->X.calm=true -> ∀(i:Nat) (pins:List (Addr×Obj)) (s:Shared) (σ:St) (H:Hp) (E:Value->Shared->Prop),Inv X pins σ H s->(∀ b∈fp,FpOk X pins H b)->tn i s.heap->J.stop i H ->
  wpAny (model P w) X.A (pyNext (.ref it)) (fun r s1=>r=none/\Inv X pins σ H s1) E s
 self:∀(A:Around) (i:Nat) (s:Shared) (Q:Value->Shared->Prop) (E:Value->Shared->Prop),tn i s.heap->Q (.ref it) s->wpAny (model P w) A (pyIter (.ref it)) Q E s
noncomputable abbrev TI:=St->Hp->(It->Hp->Prop)->Prop
noncomputable def PIE(X:Cx)(pins:List (Addr×Obj))(σ:St)(tg:Expr)(R:It->Hp->Prop)(itv:Value)(s2:Shared):Prop:=
 ∃(it:Addr) (fp:List Addr) (tn:Nat->Heap->Prop) (J:It) (H':Hp),itv=.ref it/\Inv X pins σ H' s2/\Turn X.prog X.w X.K tg J fp it tn/\tn 0 s2.heap/\(∀ b∈fp,FpOk X pins H' b)/\R J H'
noncomputable def PI(X:Cx)(tg iter:Expr)(wi:TI):Prop:=
 ∀(pins:List (Addr×Obj)) (s:Shared) (σ:St) (H:Hp) (R:It->Hp->Prop),Inv X pins σ H s->wi σ H R ->
   wpAny (model X.prog X.w) X.A (eval iter X.env) (fun v s1=>wpAny (model X.prog X.w) X.A (pyIter v) (PIE X pins σ tg R) X.xe s1) X.xe s
theorem go_of{M:Model}{A:Around}{E:Value->Shared->Prop}{s:Shared}{tg:Expr}{it:Addr}{u:Value}{o:Obj}{n:String}{vs:Array Value}{Q:Unit->Shared->Prop}(ho:s.heap.get? it=some o)(hc:o.cls=.type n)(hd:o.data=.fields vs)
 (hn:["enumerate","zip","dict_itemiterator","dict_reverseitemiterator","odict_iterator","itertools.zip_longest","itertools.pairwise"].contains n=false) (hQ:Q () s):wpAny M A (letOwnedTupleGo tg (.ref it) u) Q E s:=by
 unfold letOwnedTupleGo;cases tg <;> first
  | exact wpAny_pure hQ
  | (cases u <;> first
   | exact wpAny_pure hQ
   | (refine wpAny_bind (wpAny_load ho ?_)
      rw[hc,hd];show wpAny M A (if(["enumerate","zip","dict_itemiterator","dict_reverseitemiterator","odict_iterator","itertools.zip_longest","itertools.pairwise"].contains n && vs[0]? == some (rawInt _))=true then _ else _) Q E s;rw[if_neg (by intro h;rw[hn,Bool.false_and]at h;cases h)]
      exact wpAny_pure hQ))
noncomputable def Itl(K:W.Frag)(a:Addr):It:=
 ⟨fun i H=>∃ xs x,SqL K H a xs/\xs[i]?=some x,fun i H x H'=>H'=H /\ ∀ xs,SqL K H a xs->xs[i]?=some x,fun i H=>∃ xs,SqL K H a xs/\xs.length<=i⟩
noncomputable def Itt(K:W.Frag)(a:Addr):It:=
 ⟨fun i H=>∃ xs x,SqT K H a xs/\xs[i]?=some x,fun i H x H'=>H'=H /\ ∀ xs,SqT K H a xs->xs[i]?=some x,fun i H=>∃ xs,SqT K H a xs/\xs.length<=i⟩
noncomputable def Itr(lo:Int)(n:Nat):It:=⟨fun i _=>i < n,fun i H x H'=>H'=H/\x=.int (lo+i),fun i _=>n<=i⟩
theorem turn_list{P:Program}{w:World}{K:W.Frag}{tg:Expr}(a it:Addr):Turn P w K tg (Itl K a) [it] it (fun i h=>h.IsListIter it a i) where
 mem:=by simp
 obj:=fun i h st b hb=>by
  have e:b=it:=by simpa using hb
  subst e;obtain⟨o,e,c,d⟩:=st;exact⟨o,e,fun v z=>by rw[d]at z;cases z⟩
 keep:=fun i h h' st k=>st.at fun o e=>k it (by simp) o e
 item:=by
  intro X hP hw hK hc i pins s σ H E I hf st hg;subst hP hw hK;obtain⟨xs,x,hq,hx⟩:=hg;obtain⟨its,rv,p,hz⟩:=I.list hq;obtain⟨u,hu,ru⟩:=rv.get hx;obtain⟨f0,f1,f2,f3,f4,f5⟩:=hf it (by simp)
  refine wpAny_pyNext_list_item st p.isList (x:=u) (by simpa using hu) fun h' st' sb=>?_
  have I1:Inv X pins σ H { s with heap:=h' }:=I.turned (t':=s.toks) (fun b o hb e=>(sb.2 b hb).trans e) f0 f1 f3 f4 f5;obtain⟨o,e,c,d⟩:=id st';exact⟨u,rfl,go_of (s:={ s with heap:=h' }) e c d (by decide) ⟨x,H,I1,ru,⟨rfl,fun ys hy=>by rw[I.list_inj hy hq];exact hx⟩,st',fun b hb=>(hf b hb).1⟩⟩
 done:=by
  intro X hP hw hK hc i pins s σ H E I hf st hg;subst hP hw hK;obtain⟨xs,hq,hx⟩:=hg;obtain⟨its,rv,p,hz⟩:=I.list hq;obtain⟨f0,f1,f2,f3,f4,f5⟩:=hf it (by simp)
  have hl:=rv.length;exact wpAny_pyNext_list_end (I.ok.hd hc) st p.isList (by simp;omega) fun h' eb=>⟨rfl,I.turned (t':=s.toks) (fun b o hb e=>eb b o hb e) f0 f1 f3 f4 f5⟩
 self:=fun _ _ _ _ _ st h=>wpAny_pyIter_listiter st h
theorem turn_tuple{P:Program}{w:World}{K:W.Frag}{tg:Expr}(a it:Addr):Turn P w K tg (Itt K a) [it] it (fun i h=>h.IsTupleIter it a i) where
 mem:=by simp
 obj:=fun i h st b hb=>by
  have e:b=it:=by simpa using hb
  subst e;obtain⟨o,e,c,d⟩:=st;exact⟨o,e,fun v z=>by rw[d]at z;cases z⟩
 keep:=fun i h h' st k=>st.at fun o e=>k it (by simp) o e
 item:=by
  intro X hP hw hK hc i pins s σ H E I hf st hg;subst hP hw hK;obtain⟨xs,x,hq,hx⟩:=hg;obtain⟨its,rv,p,hz⟩:=I.tuple hq;obtain⟨u,hu,ru⟩:=rv.get hx;obtain⟨f0,f1,f2,f3,f4,f5⟩:=hf it (by simp)
  refine wpAny_pyNext_tuple_item st (show s.heap.IsTuple a its.toArray from p) (x:=u) (by simpa using hu) fun h' st' sb=>?_
  have I1:Inv X pins σ H { s with heap:=h' }:=I.turned (t':=s.toks) (fun b o hb e=>(sb.2 b hb).trans e) f0 f1 f3 f4 f5;obtain⟨o,e,c,d⟩:=id st';exact⟨u,rfl,go_of (s:={ s with heap:=h' }) e c d (by decide) ⟨x,H,I1,ru,⟨rfl,fun ys hy=>by rw[I.tuple_inj hy hq];exact hx⟩,st',fun b hb=>(hf b hb).1⟩⟩
 done:=by
  intro X hP hw hK hc i pins s σ H E I hf st hg;subst hP hw hK;obtain⟨xs,hq,hx⟩:=hg;obtain⟨its,rv,p,hz⟩:=I.tuple hq;obtain⟨f0,f1,f2,f3,f4,f5⟩:=hf it (by simp)
  have hl:=rv.length;exact wpAny_pyNext_tuple_end (I.ok.hd hc) st (show s.heap.IsTuple a its.toArray from p) (by simp;omega) fun h' eb=>⟨rfl,I.turned (t':=s.toks) (fun b o hb e=>eb b o hb e) f0 f1 f3 f4 f5⟩
 self:=fun _ _ _ _ _ st h=>wpAny_pyIter_tupleiter st h
theorem turn_range{P:Program}{w:World}{K:PySem.W.Frag}{tg:Expr}(it:Addr)(lo:Int)(n:Nat):Turn P w K tg (Itr lo n) [it] it (fun i h=>IsRangeIter h it (lo+(i:Nat)*1) ((n:Int) - (i:Nat)) 1) where
 mem:=by simp
 obj:=fun i h st b hb=>by
  have e:b=it:=by simpa using hb
  subst e;exact⟨_,st,fun v z=>by
   have z':Data.fields _=Data.cell v:=z;cases z'⟩
 keep:=fun i h h' st k=>k it (by simp) _ st
 item:=by
  intro X hP hw hK hc i pins s σ H E I hf st hg;subst hP hw hK;obtain⟨f0,f1,f2,f3,f4,f5⟩:=hf it (by simp)
  have W:=Walks.range (prog:=X.prog) (w:=X.w) (I.ok.hd hc) it lo 1 n;refine W.item i s _ _ hg st fun v h' tk hv st' kk=>?_;obtain⟨t,rfl⟩:=hv;have I1:Inv X pins σ H { s with heap:=h',toks:=tk }:=I.turned (fun b o hb e=>kk b o (by simpa using hb) e) f0 f1 f3 f4 f5
  refine⟨_,rfl,go_of (s:={ s with heap:=h',toks:=tk }) (n:="range_iterator") st' rfl rfl (by decide) ⟨.int (lo+i),H,I1,⟨t,?_⟩,⟨rfl,rfl⟩,st',fun b hb=>(hf b hb).1⟩⟩
  rw[Int.mul_one]
 done:=by
  intro X hP hw hK hc i pins s σ H E I hf st hg;subst hP hw hK;obtain⟨f0,f1,f2,f3,f4,f5⟩:=hf it (by simp)
  exact wpAny_pyNext_range_end (I.ok.hd hc) st (by have:n<=i:=hg;omega) fun h' eb=>⟨rfl,I.turned (t':=s.toks) (fun b o hb e=>eb b o hb e) f0 f1 f3 f4 f5⟩
 self:=fun _ _ _ _ _ st h=>wpAny_pyIter_rangeiter st h
end L2
namespace L2
open PySem PySem.Spec PyProof.Rows
section
variable{X:Cx}{tg:Expr}
noncomputable def iList(K:W.Frag)(tl:TE):TI:=fun σ H R=>tl σ H fun x H1=>∃ a,x=.ref a/\(∃ xs,SqL K H1 a xs)/\R (Itl K a) H1
noncomputable def iTup(K:W.Frag)(tl:TE):TI:=fun σ H R=>tl σ H fun x H1=>∃ a,x=.ref a/\(∃ xs,SqT K H1 a xs)/\R (Itt K a) H1
theorem pi_list{l:Expr}{tl:TE}(hl:PE X l tl):PI X tg l (iList X.K tl):=by
 intro pins s σ H R I h;refine thn (hl pins s σ H _ I h) fun v s1 zz=>?_;obtain⟨x,H1,I1,r1,q1⟩:=zz;obtain⟨a,e,⟨xs,hq⟩,q⟩:=q1;subst e;cases r1;obtain⟨its,rv,p,hz⟩:=I1.list hq;refine wpAny_pyIter_list p.isList ?_;refine⟨s1.heap.objs.size,[s1.heap.objs.size],_,_,H1,rfl,I1.kept (t':=s1.toks) fun b o e=>Heap.get?_push_of_some _ e,turn_list a _,⟨_,Heap.get?_push_size _ rfl,rfl,rfl⟩,fun b hb=>?_,q⟩;have e:b=s1.heap.objs.size:=by simpa using hb
 subst e;exact I1.fpOk (Nat.le_refl _) (I1.hok.fresh (Nat.le_refl _))
theorem pi_tup{l:Expr}{tl:TE}(hl:PE X l tl):PI X tg l (iTup X.K tl):=by
 intro pins s σ H R I h;refine thn (hl pins s σ H _ I h) fun v s1 zz=>?_;obtain⟨x,H1,I1,r1,q1⟩:=zz;obtain⟨a,e,⟨xs,hq⟩,q⟩:=q1;subst e;cases r1;obtain⟨its,rv,p,hz⟩:=I1.tuple hq;refine wpAny_pyIter_tuple (show s1.heap.IsTuple a its.toArray from p) ?_;refine⟨s1.heap.objs.size,[s1.heap.objs.size],_,_,H1,rfl,I1.kept (t':=s1.toks) fun b o e=>Heap.get?_push_of_some _ e,turn_tuple a _,⟨_,Heap.get?_push_size _ rfl,rfl,rfl⟩,fun b hb=>?_,q⟩;have e:b=s1.heap.objs.size:=by simpa using hb
 subst e;exact I1.fpOk (Nat.le_refl _) (I1.hok.fresh (Nat.le_refl _))
theorem range_it{pins:List (Addr×Obj)}{σ:St}{H:Hp}{s:Shared}{R:It->Hp->Prop}{E:Value->Shared->Prop}{lo hi:Int}{t u v:Tok}{tk:Nat}(I:Inv X pins σ H s)(h1:-(2 ^ 62)<=lo)(h2:lo < 2 ^ 62)(h3:-(2 ^ 62)<=hi)(h4:hi < 2 ^ 62)
 (q:R (Itr lo (hi - lo).toNat) H):wpAny (model X.prog X.w) X.A (pyIter (.ref s.heap.objs.size)) (PIE X pins σ tg R) E { s with heap:=s.heap.push { cls:=.type "range",data:=.fields #[.int lo t,.int hi u,.int 1 v] },toks:=tk }:=by
 refine wpAny_pyIter_range (IsRange.new ..) (small_one h1 h2 h3 h4) ?_;have I1:Inv X pins σ H { s with heap:=s.heap.push { cls:=.type "range",data:=.fields #[.int lo t,.int hi u,.int 1 v] },toks:=tk }:=I.kept fun b o e=>Heap.get?_push_of_some _ e;refine⟨(s.heap.push { cls:=.type "range",data:=.fields #[.int lo t,.int hi u,.int 1 v] }).objs.size,[(s.heap.push { cls:=.type "range",data:=.fields #[.int lo t,.int hi u,.int 1 v] }).objs.size],_,_,H,rfl,
  I1.kept (t':=tk) fun b o e=>Heap.get?_push_of_some _ e,turn_range _ lo (hi - lo).toNat,?_,fun b hb=>?_,q⟩
 · have e1:lo+((0:Nat):Int)*1=lo:=by simp
   have e2:(((hi - lo).toNat:Nat):Int) - ((0:Nat):Int)=Builtin.Range.rangeSize lo hi 1:=by rw[rangeSize_one];split <;> omega
   show IsRangeIter _ _ (lo+((0:Nat):Int)*1) ((((hi - lo).toNat:Nat):Int) - ((0:Nat):Int)) 1;rw[e1,e2];exact Heap.get?_push_size _ rfl
 have e:b=(s.heap.push { cls:=.type "range",data:=.fields #[.int lo t,.int hi u,.int 1 v] }).objs.size:=by simpa using hb
 subst e;exact I1.fpOk (Nat.le_refl _) (I1.hok.fresh (Nat.le_refl _))
noncomputable def iRng1(ta:TA):TI:=fun σ H R=>ta σ H fun vs H1=>∃ j:Int,vs=[.int j] /\ -(2 ^ 62)<=j/\j < 2 ^ 62/\R (Itr 0 j.toNat) H1
theorem pi_range1{a:Expr}{ta:TA}{p pos:Pos}(hg:Gl X "range")(hm:X.mg "range"=none)(ha:PA X [a] ta)(hs:starEach [a] X.env=[(false,eval a X.env)]:=by rfl):PI X tg (.Call (.Name "range" p) [a] [] pos) (iRng1 ta):=by
 intro pins s σ H R I h;refine Call_ (ld_blt I hg hm boot_range (PyProof.Rows.callWith_type1 (thn (ha pos pins s σ H _ I h) fun us s1 ⟨vs,H1,I1,r1,q1⟩=>?_) hs rfl));obtain⟨j,e,q1,q2,q⟩:=q1;subst e;cases r1 with
 | cons r rr=>
   cases rr;obtain⟨t,rfl⟩:=r;exact call_range_1 (range_it I1 (by omega) (by omega) q1 q2 (by simpa using q))
noncomputable def tFor(wi:TI)(g:TG)(tb:TS):TS:=fun D σ H=>wi σ H fun J H1=>∃ W:Nat->Nat->St->Hp->Prop,(∃ m,W 0 m σ H1) /\ ∀ i m σ H,W i m σ H ->
 (J.stop i H/\D.nx σ H)∨(J.go i H /\ ∃ N:St->Hp->Prop,(∀ σ' H',N σ' H' -> ∃ m',m' < m/\W (i+1) m' σ' H') /\ ∀ x H',J.yld i H x H'->g x σ H' fun σ2 H2=>tb { D with nx:=N,ct:=N,bk:=D.nx } σ2 H2)
noncomputable def pinsAt(fp:List Addr)(h:Heap):List (Addr×Obj):=fp.filterMap fun b=>(h.get? b).map fun o=>(b,o)
theorem mem_pinsAt{fp:List Addr}{h:Heap}{b:Addr}{o:Obj}(hb:b∈fp)(e:h.get? b=some o):(b,o)∈pinsAt fp h:=List.mem_filterMap.mpr ⟨b,hb,by rw[e];rfl⟩
theorem of_pinsAt{fp:List Addr}{h:Heap}{p:Addr×Obj}(hp:p∈pinsAt fp h):p.1∈fp/\h.get? p.1=some p.2:=by
 obtain⟨b,hb,e⟩:=List.mem_filterMap.mp hp;cases q:h.get? b with
 | none=>rw[q]at e;cases e
 | some o=>
   rw[q]at e;have e':(b,o)=p:=Option.some.inj e;subst e';exact⟨hb,q⟩
theorem Inv.pinned{pins:List (Addr×Obj)}{σ:St}{H:Hp}{s:Shared}{fp:List Addr}(I:Inv X pins σ H s)(hf:∀ b∈fp,FpOk X pins H b)(ho:∀ b∈fp,∃ o,s.heap.get? b=some o /\ ∀ v,o.data ≠ .cell v):Inv X (pins++pinsAt fp s.heap) σ H s:=
 I.pins_of fun p hp=>(List.mem_append.mp hp).elim (fun z=>I.pin p (List.mem_append_right _ z)) fun z=>by
  obtain⟨hb,e⟩:=of_pinsAt z;obtain⟨f0,f1,f2,_⟩:=hf p.1 hb;obtain⟨o,e',d⟩:=ho p.1 hb;rw[e]at e';cases e';exact⟨e,f0,f1,f2,d⟩
theorem Inv.unpinned{pins pl:List (Addr×Obj)}{σ:St}{H:Hp}{s:Shared}(I:Inv X (pins++pl) σ H s):Inv X pins σ H s:=I.pins_of fun p hp=>I.pin p (List.mem_append_right _ (List.mem_append_left _ hp))
theorem ps_for{iter:Expr}{body:List Stmt}{wi:TI}{g:TG}{tb:TS}{pos:Pos}(hp:PassesOwn (model X.prog X.w) X.A X.env X.xe)(hc:X.calm=true)(hi:PI X tg iter wi)(hg:PG X tg g)(hb:PSs X body tb)
 (hs:∀ x,foldedSetIterable iter X.env x=pure x:=by intro _;rfl):PS X (.For tg iter body [] pos) (tFor wi g tb):=by
 intro pins s σ H D I h;refine wpAny_For (thn (hi pins s σ H _ I h) fun v s1 h1=>thn h1 fun itv s2 h2=>?_) hs;obtain⟨it,fp,tn,J,H2,e,I2,T,st2,f2,W,⟨m0,w0⟩,turn⟩:=h2;subst e
 -- what stays true of the iterator's objects through the loop
 have stat:∀{H':Hp},(∀ b∈fp,H' b=none) -> ∀ b∈fp,FpOk X pins H' b:=fun hn b hb=>⟨hn b hb,(f2 b hb).2⟩;refine codeAny_forLoop_any (fun n s'=>∃ i σ' H',Inv X pins σ' H' s'/\tn i s'.heap/\(∀ b∈fp,H' b=none)/\W i n σ' H') ?_ m0 ⟨0,σ,H2,I2,st2,fun b hb=>(f2 b hb).1,w0⟩;rintro n s3 ⟨i,σ3,H3,I3,st3,fr3,w3⟩;rcases turn i n σ3 H3 w3 with ⟨stop,qn⟩ | ⟨go,N,hN,step⟩
 · refine wpAny_passesOwn hp (thn (T.done X rfl rfl rfl hc i pins s3 σ3 H3 X.xe I3 (stat fr3) st3 stop) fun r s4 zz=>?_)
   obtain⟨hr,I4⟩:=zz;subst hr;exact wpAny_execs_nil ⟨σ3,H3,I4,qn⟩
 refine wpAny_passesOwn hp (thn (T.item X rfl rfl rfl hc i pins s3 σ3 H3 X.xe I3 (stat fr3) st3 go) fun r s4 zz=>?_);obtain⟨u,hr,h4⟩:=zz;subst hr;refine wpAny_passesOwn hp (thn h4 fun _ s5 zz=>?_);obtain⟨x,H5,I5,r5,y5,st5,fr5⟩:=zz;have I5':=I5.pinned (stat fr5) (T.obj _ _ st5);refine wpAny_passesOwn hp (thn (hg _ s5 σ3 H5 x u _ I5' r5 (step x H5 y5)) fun _ s6 zz=>?_);obtain⟨σ6,H6,I6,q6⟩:=zz;refine wpAny_passesOwn hp (thn (hb _ s6 σ6 H6 _ I6 q6) fun f s7 q7=>?_);have again:∀{σ7:St}{H7:Hp},Inv X (pins++pinsAt fp s5.heap) σ7 H7 s7->N σ7 H7 -> ∃ m,m < n /\ ∃ i σ' H',Inv X pins σ' H' s7/\tn i s7.heap/\(∀ b∈fp,H' b=none)/\W i m σ' H':=fun {σ7 H7} I7 n7=>by
  obtain⟨m',hm,w7⟩:=hN σ7 H7 n7;refine⟨m',hm,i+1,σ7,H7,I7.unpinned,T.keep _ _ _ st5 fun b hb o e=>(I7.pin (b,o) (List.mem_append_right _ (List.mem_append_right _ (mem_pinsAt hb e)))).1,fun b hb=>?_,w7⟩;obtain⟨o,e,d⟩:=T.obj _ _ st5 b hb;exact(I7.pin (b,o) (List.mem_append_right _ (List.mem_append_right _ (mem_pinsAt hb e)))).2.1
 cases f with
 | next=>obtain⟨σ7,H7,I7,n7⟩:=q7;exact again I7 n7
 | cont=>obtain⟨σ7,H7,I7,n7⟩:=q7;exact again I7 n7
 | brk=>obtain⟨σ7,H7,I7,q7⟩:=q7;exact⟨σ7,H7,I7.unpinned,q7⟩
 | ret v=>obtain⟨x7,σ7,H7,I7,r7,q7⟩:=q7;exact⟨x7,σ7,H7,I7.unpinned,r7,q7⟩
end
theorem for_list{K:PySem.W.Frag}{a:Addr}{xs:List V}{g:TG}{tb:TS}{D:Ends}{σ:St}{H:Hp}(Pv:Nat->St->Hp->Prop)(h0:Pv 0 σ H)(hl:∀ i σ H,i<=xs.length->Pv i σ H->SqL K H a xs)
 (hs:∀ i x σ H,xs[i]?=some x->Pv i σ H->g x σ H fun σ2 H2=>tb { D with nx:=Pv (i+1),ct:=Pv (i+1),bk:=D.nx } σ2 H2) (hd:∀ σ H,Pv xs.length σ H->D.nx σ H) :
 ∃ W:Nat->Nat->St->Hp->Prop,(∃ m,W 0 m σ H) /\ ∀ i m σ H,W i m σ H ->
   ((Itl K a).stop i H/\D.nx σ H)∨((Itl K a).go i H /\ ∃ N:St->Hp->Prop,(∀ σ' H',N σ' H' -> ∃ m',m' < m/\W (i+1) m' σ' H') /\ ∀ x H',(Itl K a).yld i H x H'->g x σ H' fun σ2 H2=>tb { D with nx:=N,ct:=N,bk:=D.nx } σ2 H2):=by
 refine⟨fun i m σ H=>m=xs.length - i/\i<=xs.length/\Pv i σ H,⟨xs.length,by simp,Nat.zero_le _,h0⟩,?_⟩
 rintro i m σ H ⟨rfl,hi,p⟩;have q:=hl i σ H hi p;by_cases hlt:i < xs.length
 · refine .inr ⟨⟨xs,xs[i],q,by simp[hlt]⟩,Pv (i+1),fun σ' H' p'=>⟨xs.length - (i+1),by omega,rfl,hlt,p'⟩,fun x H' y=>?_⟩
   obtain⟨e,y⟩:=y;subst e;exact hs i x σ _ (y xs q) p
 have e:i=xs.length:=by omega
 subst e;exact .inl ⟨⟨xs,q,Nat.le_refl _⟩,hd σ H p⟩
theorem for_tup{K:PySem.W.Frag}{a:Addr}{xs:List V}{g:TG}{tb:TS}{D:Ends}{σ:St}{H:Hp}(Pv:Nat->St->Hp->Prop)(h0:Pv 0 σ H)(hl:∀ i σ H,i<=xs.length->Pv i σ H->SqT K H a xs)
 (hs:∀ i x σ H,xs[i]?=some x->Pv i σ H->g x σ H fun σ2 H2=>tb { D with nx:=Pv (i+1),ct:=Pv (i+1),bk:=D.nx } σ2 H2) (hd:∀ σ H,Pv xs.length σ H->D.nx σ H) :
 ∃ W:Nat->Nat->St->Hp->Prop,(∃ m,W 0 m σ H) /\ ∀ i m σ H,W i m σ H ->
   ((Itt K a).stop i H/\D.nx σ H)∨((Itt K a).go i H /\ ∃ N:St->Hp->Prop,(∀ σ' H',N σ' H' -> ∃ m',m' < m/\W (i+1) m' σ' H') /\ ∀ x H',(Itt K a).yld i H x H'->g x σ H' fun σ2 H2=>tb { D with nx:=N,ct:=N,bk:=D.nx } σ2 H2):=by
 refine⟨fun i m σ H=>m=xs.length - i/\i<=xs.length/\Pv i σ H,⟨xs.length,by simp,Nat.zero_le _,h0⟩,?_⟩
 rintro i m σ H ⟨rfl,hi,p⟩;have q:=hl i σ H hi p;by_cases hlt:i < xs.length
 · refine .inr ⟨⟨xs,xs[i],q,by simp[hlt]⟩,Pv (i+1),fun σ' H' p'=>⟨xs.length - (i+1),by omega,rfl,hlt,p'⟩,fun x H' y=>?_⟩
   obtain⟨e,y⟩:=y;subst e;exact hs i x σ _ (y xs q) p
 have e:i=xs.length:=by omega
 subst e;exact .inl ⟨⟨xs,q,Nat.le_refl _⟩,hd σ H p⟩
theorem for_range{lo:Int}{n:Nat}{g:TG}{tb:TS}{D:Ends}{σ:St}{H:Hp}(Pv:Nat->St->Hp->Prop)(h0:Pv 0 σ H)
 (hs:∀ i σ H,i < n->Pv i σ H->g (.int (lo+i)) σ H fun σ2 H2=>tb { D with nx:=Pv (i+1),ct:=Pv (i+1),bk:=D.nx } σ2 H2) (hd:∀ σ H,Pv n σ H->D.nx σ H) :
 ∃ W:Nat->Nat->St->Hp->Prop,(∃ m,W 0 m σ H) /\ ∀ i m σ H,W i m σ H ->
   ((Itr lo n).stop i H/\D.nx σ H)∨((Itr lo n).go i H /\ ∃ N:St->Hp->Prop,(∀ σ' H',N σ' H' -> ∃ m',m' < m/\W (i+1) m' σ' H') /\ ∀ x H',(Itr lo n).yld i H x H'->g x σ H' fun σ2 H2=>tb { D with nx:=N,ct:=N,bk:=D.nx } σ2 H2):=by
 refine⟨fun i m σ H=>m=n - i/\i<=n/\Pv i σ H,⟨n,by simp,Nat.zero_le _,h0⟩,?_⟩
 rintro i m σ H ⟨rfl,hi,p⟩;by_cases hlt:i < n
 · refine .inr ⟨hlt,Pv (i+1),fun σ' H' p'=>⟨n - (i+1),by omega,rfl,hlt,p'⟩,fun x H' y=>?_⟩
   obtain⟨e,y⟩:=y;subst e y;exact hs i σ _ hlt p
 have e:i=n:=by omega
 subst e;exact .inl ⟨Nat.le_refl _,hd σ H p⟩
end L2
namespace L2
open PySem PySem.Spec PyProof.Rows
noncomputable abbrev R2:=V->V->Hp->VK->Prop
noncomputable def OpR(X:Cx)(f:Value->Value->Sem Value)(r:R2):Prop:=
 ∀(pins:List (Addr×Obj)) (s:Shared) (σ:St) (H:Hp) (x y:V) (v u:Value) (Q:VK),Inv X pins σ H s->RelV x v->RelV y u->r x y H Q ->
   wpAny (model X.prog X.w) X.A (f v u) (EP X pins σ Q) X.xe s
noncomputable def UnR(X:Cx)(f:Value->Sem Value)(r:V->Hp->VK->Prop):Prop:=
 ∀(pins:List (Addr×Obj)) (s:Shared) (σ:St) (H:Hp) (x:V) (v:Value) (Q:VK),Inv X pins σ H s->RelV x v->r x H Q ->
   wpAny (model X.prog X.w) X.A (f v) (EP X pins σ Q) X.xe s
noncomputable def CallR(X:Cx)(f:Value)(r:List V->Hp->VK->Prop):Prop:=
 ∀(pins:List (Addr×Obj)) (s:Shared) (σ:St) (H:Hp) (xs:List V) (us:List Value) (Q:VK),Inv X pins σ H s->Vals xs us->r xs H Q ->
   wpAny (model X.prog X.w) X.A (call f us) (EP X pins σ Q) X.xe s
noncomputable def tOp(r:R2)(ta tb:TE):TE:=fun σ H Q=>ta σ H fun x H1=>tb σ H1 fun y H2=>r x y H2 Q
noncomputable def tUn(r:V->Hp->VK->Prop)(ta:TE):TE:=fun σ H Q=>ta σ H fun x H1=>r x H1 Q
noncomputable def rI(C:Int->Int->Prop)(g:Int->Int->V):R2:=fun x y H Q=>∃ i j,x=.int i/\y=.int j/\C i j/\Q (g i j) H
noncomputable def rI0(g:Int->Int->V):R2:=fun x y H Q=>∃ i j,x=.int i/\y=.int j/\Q (g i j) H
noncomputable def rU(g:Int->V):V->Hp->VK->Prop:=fun x H Q=>∃ i,x=.int i/\Q (g i) H
section
variable{X:Cx}{a b c:Expr}{ta tb tc:TE}{pos:Pos}
theorem binT(ha:PE X a ta)(hb:PE X b tb){pins:List (Addr×Obj)}{s:Shared}{σ:St}{H:Hp}{R:V->V->Hp->Prop}(I:Inv X pins σ H s)
 (h:ta σ H fun x H1=>tb σ H1 fun y H2=>R x y H2) {Q:Value->Shared->Prop}{f:Value->Value->Sem Value}
 (hf:∀ v u s2 x y H2,Inv X pins σ H2 s2->RelV x v->RelV y u->R x y H2->wpAny (model X.prog X.w) X.A (f v u) Q X.xe s2) :
 wpAny (model X.prog X.w) X.A (eval a X.env) (fun v s₁=>wpAny (model X.prog X.w) X.A (eval b X.env) (fun u s₂=>wpAny (model X.prog X.w) X.A (f v u) Q X.xe s₂) X.xe s₁) X.xe s:=by
 refine thn (ha pins s σ H _ I h) fun v s1 zz=>?_;obtain⟨x,H1,I1,r1,q1⟩:=zz;refine thn (hb pins s1 σ H1 _ I1 q1) fun u s2 zz=>?_;obtain⟨y,H2,I2,r2,q2⟩:=zz;exact hf v u s2 x y H2 I2 r1 r2 q2
theorem pe_op{op:Operator}{r:R2}(ho:OpR X (binaryOp op) r)(ha:PE X a ta)(hb:PE X b tb):PE X (.BinOp a op b pos) (tOp r ta tb):=by
 intro pins s σ H Q I h;exact wpAny_BinOp (binT ha hb I h fun v u s2 x y H2 I2 rx ry q=>ho pins s2 σ H2 x y v u Q I2 rx ry q)
theorem pe_un{op:UnaryOp}{r:V->Hp->VK->Prop}(ho:UnR X (unaryOp op) r)(ha:PE X a ta):PE X (.UnaryOp op a pos) (tUn r ta):=by
 intro pins s σ H Q I h;exact UnaryOp_ (thn (ha pins s σ H _ I h) fun v s1 ⟨x,H1,I1,r1,q1⟩=>ho pins s1 σ H1 x v Q I1 r1 q1)
theorem opI{f:Value->Value->Sem Value}{C:Int->Int->Prop}{g:Int->Int->Int}
 (rule:∀(i j:Int) (t u:Tok) (s:Shared) (Q:Value->Shared->Prop) (E:Value->Shared->Prop),C i j->Q (.int (g i j) s.toks) { s with toks:=s.toks+1 } -> wpAny (model X.prog X.w) X.A (f (.int i t) (.int j u)) Q E s) :
 OpR X f (rI C fun i j=>.int (g i j)):=by
 intro pins s σ H x y v u Q I rx ry h;obtain⟨i,j,rfl,rfl,hc,q⟩:=h;obtain⟨t,rfl⟩:=rx;obtain⟨t',rfl⟩:=ry;exact rule i j t t' s _ _ hc ⟨.int (g i j),H,I.tok _,⟨_,rfl⟩,q⟩
theorem opI0{f:Value->Value->Sem Value}{g:Int->Int->Int}
 (rule:∀(i j:Int) (t u:Tok) (s:Shared) (Q:Value->Shared->Prop) (E:Value->Shared->Prop),Q (.int (g i j) s.toks) { s with toks:=s.toks+1 } -> wpAny (model X.prog X.w) X.A (f (.int i t) (.int j u)) Q E s) :
 OpR X f (rI0 fun i j=>.int (g i j)):=by
 intro pins s σ H x y v u Q I rx ry h;obtain⟨i,j,rfl,rfl,q⟩:=h;obtain⟨t,rfl⟩:=rx;obtain⟨t',rfl⟩:=ry;exact rule i j t t' s _ _ ⟨.int (g i j),H,I.tok _,⟨_,rfl⟩,q⟩
theorem opB0{f:Value->Value->Sem Value}{g:Int->Int->Bool}
 (rule:∀(i j:Int) (t u:Tok) (s:Shared) (Q:Value->Shared->Prop) (E:Value->Shared->Prop),Q (.bool (g i j)) s->wpAny (model X.prog X.w) X.A (f (.int i t) (.int j u)) Q E s) :
 OpR X f (rI0 fun i j=>.bl (g i j)):=by
 intro pins s σ H x y v u Q I rx ry h;obtain⟨i,j,rfl,rfl,q⟩:=h;obtain⟨t,rfl⟩:=rx;obtain⟨t',rfl⟩:=ry;exact rule i j t t' s _ _ ⟨.bl (g i j),H,I,rfl,q⟩
noncomputable def CPow(i j:Int):Prop:=0<=j/\j<=1000000/\i.natAbs < 2 ^ 64
noncomputable def CMul(i j:Int):Prop:=(-(2 ^ 64) < i/\i < 2 ^ 64)∨(-(2 ^ 64) < j/\j < 2 ^ 64)
theorem CMul.ok{i j:Int}(h:CMul i j):IntMulOk i j:=by
 rcases h with ⟨h1,h2⟩ | ⟨h1,h2⟩
 · exact .of_left (intBits_le_64 h1 h2)
 exact .of_right (intBits_le_64 h1 h2)
theorem two_pow_nn(k:Nat):(0:Int)<=2 ^ k:=by
 rw[two_pow_cast];exact Int.natCast_nonneg _
theorem op_add:OpR X (binaryOp .Add) (rI0 fun i j=>.int (i+j)):=opI0 fun _ _ _ _ _ _ _ q=>add_int q
theorem op_sub:OpR X (binaryOp .Sub) (rI0 fun i j=>.int (i - j)):=opI0 fun _ _ _ _ _ _ _ q=>sub_int q
theorem op_mul:OpR X (binaryOp .Mult) (rI CMul fun i j=>.int (i*j)):=opI fun _ _ _ _ _ _ _ hc q=>mul_int q hc.ok
theorem op_mod:OpR X (binaryOp .Mod) (rI (fun _ j=>0 < j) fun i j=>.int (i % j)):=opI fun i j _ _ _ _ _ hc q=>by
 have h1:(0:Int) < j:=hc;exact mod_int' (by omega) (by rw[Int.fmod_eq_emod_of_nonneg i (by omega)];exact q)
theorem op_pow:OpR X (binaryOp .Pow) (rI CPow fun i j=>.int (i ^ j.toNat)):=opI fun _ _ _ _ _ _ _ hc q=>pow_int_small hc.1 hc.2.1 hc.2.2 q
theorem op_shr:OpR X (binaryOp .RShift) (rI (fun _ j=>0<=j) fun i j=>.int (i / 2 ^ j.toNat)):=opI fun i j _ _ _ _ _ hc q=>
 rshift_int hc (by rw[Int.fdiv_eq_ediv_of_nonneg i (two_pow_nn _)];exact q)
theorem unI{f:Value->Sem Value}{g:Int->Int}
 (rule:∀(i:Int) (t:Tok) (s:Shared) (Q:Value->Shared->Prop) (E:Value->Shared->Prop),Q (.int (g i) s.toks) { s with toks:=s.toks+1 } -> wpAny (model X.prog X.w) X.A (f (.int i t)) Q E s) :
 UnR X f (rU fun i=>.int (g i)):=by
 intro pins s σ H x v Q I rx h;obtain⟨i,rfl,q⟩:=h;obtain⟨t,rfl⟩:=rx;exact rule i t s _ _ ⟨.int (g i),H,I.tok _,⟨_,rfl⟩,q⟩
theorem un_neg:UnR X (unaryOp .USub) (rU fun i=>.int (-i)):=unI fun _ _ _ _ _ q=>neg_int q
end
noncomputable def scal:V->V->Bool
 | .non,.non=>true | .non,.int _=>true | .int _,.non=>true | .non,.bl _=>true | .bl _,.non=>true | .non,.str _=>true | .str _,.non=>true
 | .int _,.int _=>true | .bl _,.bl _=>true | .str _,.str _=>true | .byt _,.byt _=>true
 | .int _,.str _=>true | .str _,.int _=>true | .bl _,.str _=>true | .str _,.bl _=>true
 | _,_=>false
noncomputable def rEq:R2:=fun x y H Q=>scal x y=true/\Q (.bl (decide (x=y))) H
noncomputable def rNe:R2:=fun x y H Q=>scal x y=true/\Q (.bl (!decide (x=y))) H
theorem dec_int{i j:Int}:decide (V.int i=V.int j)=(i == j):=by
 rw[Bool.eq_iff_iff];simp
theorem dec_bl{i j:Bool}:decide (V.bl i=V.bl j)=(i == j):=by
 rw[Bool.eq_iff_iff];simp
theorem dec_str{i j:Str}:decide (V.str i=V.str j)=(i == j):=by
 rw[Bool.eq_iff_iff];simp
theorem dec_byt{i j:Array UInt8}:decide (V.byt i=V.byt j)=(i.toList == j.toList):=by
 rw[Bool.eq_iff_iff];cases i;cases j;simp
section
variable{X:Cx}{a b c:Expr}{ta tb tc:TE}{pos:Pos}
theorem fin_bl{pins:List (Addr×Obj)}{σ:St}{H:Hp}{s:Shared}{Q:VK}{k k':Bool}(I:Inv X pins σ H s)(q:Q (.bl k) H)(e:k=k'):EP X pins σ Q (.bool k') s:=by
 subst e;exact⟨.bl k,H,I,rfl,q⟩
theorem op_eq:OpR X (compareOp .Eq) rEq:=by
 intro pins s σ H x y v u Q I rx ry h;obtain⟨hs,q⟩:=h;cases x with
 | non=>
   cases rx;cases y with
   | non=>cases ry;exact PySem.EqNone.eq_none_none (fin_bl I q (by simp))
   | bl j=>cases ry;exact PySem.EqNone.eq_none_bool (fin_bl I q (by simp))
   | int j=>obtain⟨t',rfl⟩:=ry;exact PySem.EqNone.eq_none_int (fin_bl I q (by simp))
   | str j=>obtain⟨t',rfl⟩:=ry;exact PySem.EqNone.eq_none_str (fin_bl I q (by simp))
   | _=>exact absurd (show false=true from hs) Bool.false_ne_true
 | bl i=>
   cases rx;cases y with
   | non=>cases ry;exact PySem.EqNone.eq_bool_none (fin_bl I q (by simp))
   | bl j=>cases ry;exact eq_bool (fin_bl I q dec_bl)
   | str j=>obtain⟨t',rfl⟩:=ry;exact PySem.EqMixed.eq_bool_str (fin_bl I q (by simp))
   | _=>exact absurd (show false=true from hs) Bool.false_ne_true
 | int i=>
   obtain⟨t,rfl⟩:=rx;cases y with
   | non=>cases ry;exact PySem.EqNone.eq_int_none (fin_bl I q (by simp))
   | int j=>obtain⟨t',rfl⟩:=ry;exact eq_int (fin_bl I q dec_int)
   | str j=>obtain⟨t',rfl⟩:=ry;exact PySem.EqMixed.eq_int_str (fin_bl I q (by simp))
   | _=>exact absurd (show false=true from hs) Bool.false_ne_true
 | str i=>
   obtain⟨t,rfl⟩:=rx;cases y with
   | non=>cases ry;exact PySem.EqNone.eq_str_none (fin_bl I q (by simp))
   | bl j=>cases ry;exact PySem.EqMixed.eq_str_bool (fin_bl I q (by simp))
   | int j=>obtain⟨t',rfl⟩:=ry;exact PySem.EqMixed.eq_str_int (fin_bl I q (by simp))
   | str j=>obtain⟨t',rfl⟩:=ry;exact eq_str (fin_bl I q dec_str)
   | _=>exact absurd (show false=true from hs) Bool.false_ne_true
 | byt i=>
   obtain⟨t,rfl⟩:=rx;cases y with
   | byt j=>obtain⟨t',rfl⟩:=ry;exact W.eq_bytes (fin_bl I q dec_byt)
   | _=>exact absurd (show false=true from hs) Bool.false_ne_true
 | _=>cases y <;> exact absurd (show false=true from hs) Bool.false_ne_true
theorem op_ne:OpR X (compareOp .NotEq) rNe:=by
 intro pins s σ H x y v u Q I rx ry h;obtain⟨hs,q⟩:=h;cases x with
 | non=>
   cases rx;cases y with
   | non=>cases ry;exact PySem.EqNone.ne_none_none (fin_bl I q (by simp))
   | bl j=>cases ry;exact PySem.EqNone.ne_none_bool (fin_bl I q (by simp))
   | int j=>obtain⟨t',rfl⟩:=ry;exact PySem.EqNone.ne_none_int (fin_bl I q (by simp))
   | str j=>obtain⟨t',rfl⟩:=ry;exact PySem.EqNone.ne_none_str (fin_bl I q (by simp))
   | _=>exact absurd (show false=true from hs) Bool.false_ne_true
 | bl i=>
   cases rx;cases y with
   | non=>cases ry;exact PySem.EqNone.ne_bool_none (fin_bl I q (by simp))
   | bl j=>cases ry;exact ne_bool (fin_bl I q (congrArg not dec_bl))
   | str j=>obtain⟨t',rfl⟩:=ry;exact PySem.EqMixed.ne_bool_str (fin_bl I q (by simp))
   | _=>exact absurd (show false=true from hs) Bool.false_ne_true
 | int i=>
   obtain⟨t,rfl⟩:=rx;cases y with
   | non=>cases ry;exact PySem.EqNone.ne_int_none (fin_bl I q (by simp))
   | int j=>obtain⟨t',rfl⟩:=ry;exact ne_int (fin_bl I q (congrArg not dec_int))
   | str j=>obtain⟨t',rfl⟩:=ry;exact PySem.EqMixed.ne_int_str (fin_bl I q (by simp))
   | _=>exact absurd (show false=true from hs) Bool.false_ne_true
 | str i=>
   obtain⟨t,rfl⟩:=rx;cases y with
   | non=>cases ry;exact PySem.EqNone.ne_str_none (fin_bl I q (by simp))
   | bl j=>cases ry;exact PySem.EqMixed.ne_str_bool (fin_bl I q (by simp))
   | int j=>obtain⟨t',rfl⟩:=ry;exact PySem.EqMixed.ne_str_int (fin_bl I q (by simp))
   | str j=>obtain⟨t',rfl⟩:=ry;exact ne_str (fin_bl I q (congrArg not dec_str))
   | _=>exact absurd (show false=true from hs) Bool.false_ne_true
 | byt i=>
   obtain⟨t,rfl⟩:=rx;cases y with
   | byt j=>obtain⟨t',rfl⟩:=ry;exact W.ne_bytes (fin_bl I q (congrArg not dec_byt))
   | _=>exact absurd (show false=true from hs) Bool.false_ne_true
 | _=>cases y <;> exact absurd (show false=true from hs) Bool.false_ne_true
theorem op_lt:OpR X (compareOp .Lt) (rI0 fun i j=>.bl (decide (i < j))):=opB0 fun _ _ _ _ _ _ _ q=>lt_int q
theorem op_le:OpR X (compareOp .LtE) (rI0 fun i j=>.bl (decide (i<=j))):=opB0 fun _ _ _ _ _ _ _ q=>le_int q
theorem op_gt:OpR X (compareOp .Gt) (rI0 fun i j=>.bl (decide (j < i))):=opB0 fun _ _ _ _ _ _ _ q=>gt_int q
theorem op_ge:OpR X (compareOp .GtE) (rI0 fun i j=>.bl (decide (j<=i))):=opB0 fun _ _ _ _ _ _ _ q=>ge_int q
theorem op_in_str:OpR X (compareOp .In) (fun x y H Q=>∃ i j,x=.str i/\y=.str j/\Q (.bl (!(Builtin.Str.occurrences j i 0 j.length 1).isEmpty)) H):=by
 intro pins s σ H x y v u Q I rx ry h;obtain⟨i,j,rfl,rfl,q⟩:=h;obtain⟨t,rfl⟩:=rx;obtain⟨t',rfl⟩:=ry;exact in_str (fin_bl I q rfl)
theorem op_isN:OpR X (compareOp .Is) (fun x y H Q=>y=.non/\Q (.bl (decide (x=.non))) H):=by
 intro pins s σ H x y v u Q I rx ry h;obtain⟨rfl,q⟩:=h;cases ry;refine is_none_gen (fin_bl I q ?_);cases x <;> first
  | (cases rx;rfl)
  | (obtain⟨t,rfl⟩:=rx;rfl)
theorem op_notN:OpR X (compareOp .IsNot) (fun x y H Q=>y=.non/\Q (.bl (!decide (x=.non))) H):=by
 intro pins s σ H x y v u Q I rx ry h;obtain⟨rfl,q⟩:=h;cases ry;refine isnot_none_gen (fin_bl I q ?_);cases x <;> first
  | (cases rx;rfl)
  | (obtain⟨t,rfl⟩:=rx;rfl)
theorem nomark(b:Expr){op:CmpOp}(h:op ≠ .In:=by decide)(h2:op ≠ .NotIn:=by decide):behindInMarks op b=false:=by
 have e1:(op == CmpOp.In)=false:=by cases op <;> first | rfl | exact absurd rfl h
 have e2:(op == CmpOp.NotIn)=false:=by cases op <;> first | rfl | exact absurd rfl h2
 cases b <;> simp[behindInMarks,e1,e2]
theorem pe_cmpR{op:CmpOp}{r:R2}(ho:OpR X (compareOp op) r)(ha:PE X a ta)(hb:PE X b tb)(hm:behindInMarks op b=false):PE X (.Compare a [op] [b] pos) (tOp r ta tb):=by
 intro pins s σ H Q I h;exact wpAny_Compare1 (binT ha hb I h fun v u s2 x y H2 I2 rx ry q=>ho pins s2 σ H2 x y v u Q I2 rx ry q) hm
noncomputable def tTest(t:TE):TT:=fun σ H Q=>t σ H fun x H'=>∃ k,x=.bl k/\Q k H'
theorem pt_cmpR{op:CmpOp}{r:R2}(ho:OpR X (compareOp op) r)(ha:PE X a ta)(hb:PE X b tb)(hm:behindInMarks op b=false):PT X (.Compare a [op] [b] pos) (tTest (tOp r ta tb)):=by
 intro pins s σ H Q I h;refine wpAny_isTrue_Compare1 (thn (ha pins s σ H _ I h) fun v s1 ⟨x,H1,I1,r1,q1⟩=>thn (hb pins s1 σ H1 _ I1 q1) fun u s2 ⟨y,H2,I2,r2,q2⟩=>
  thn (ho pins s2 σ H2 x y v u _ I2 r1 r2 q2) fun c s3 ⟨z,H3,I3,r3,k,e,q3⟩=>?_) hm
 subst e;cases r3;exact wpAny_truthy_bool ⟨H3,I3,q3⟩
noncomputable def tChain(r r':R2)(ta tb tc:TE):TE:=fun σ H Q=>ta σ H fun x H1=>tb σ H1 fun y H2=>r x y H2 fun z H3=>∃ k,z=.bl k /\
 (if k=true then tc σ H3 fun w' H4=>r' y w' H4 Q else Q (.bl false) H3)
theorem pe_chain{op op':CmpOp}{r r':R2}(ho:OpR X (compareOp op) r)(ho':OpR X (compareOp op') r')(ha:PE X a ta)(hb:PE X b tb)(hc:PE X c tc)
 (hm:lastMarks [op,op'] [b,c]=false:=by with_unfolding_all rfl):PE X (.Compare a [op,op'] [b,c] pos) (tChain r r' ta tb tc):=by
 intro pins s σ H Q I h;refine Compare_chain (thn (ha pins s σ H _ I h) fun v s1 ⟨x,H1,I1,r1,q1⟩=>chain_link (thn (hb pins s1 σ H1 _ I1 q1) fun u s2 ⟨y,H2,I2,r2,q2⟩=>
  thn (ho pins s2 σ H2 x y v u _ I2 r1 r2 q2) fun d s3 ⟨z,H3,I3,r3,k,e,q3⟩=>?_)) hm
 subst e;cases r3;refine wpAny_truthy_bool ?_;cases k with
 | false=>exact ite_ff ⟨.bl false,H3,I3,rfl,q3⟩
 | true=>exact ite_tt (chain_last (thn (hc pins s3 σ H3 _ I3 q3) fun w' s4 ⟨z',H4,I4,r4,q4⟩=>ho' pins s4 σ H4 y z' u w' Q I4 r2 r4 q4))
theorem pt_chain{op op':CmpOp}{r r':R2}(ho:OpR X (compareOp op) r)(ho':OpR X (compareOp op') r')(ha:PE X a ta)(hb:PE X b tb)(hc:PE X c tc)
 (hm:lastMarks [op,op'] [b,c]=false:=by with_unfolding_all rfl):PT X (.Compare a [op,op'] [b,c] pos) (tTest (tChain r r' ta tb tc)):=by
 intro pins s σ H Q I h;refine isTrue_chain (thn (ha pins s σ H _ I h) fun v s1 ⟨x,H1,I1,r1,q1⟩=>test_link (thn (hb pins s1 σ H1 _ I1 q1) fun u s2 ⟨y,H2,I2,r2,q2⟩=>
  thn (ho pins s2 σ H2 x y v u _ I2 r1 r2 q2) fun d s3 ⟨z,H3,I3,r3,k,e,q3⟩=>?_)) hm
 subst e;cases r3;refine wpAny_truthy_bool ?_;cases k with
 | false=>
   obtain⟨k',e',q'⟩:=q3;cases e';exact ite_ff ⟨H3,I3,q'⟩
 | true=>
   refine ite_tt (test_last (thn (hc pins s3 σ H3 _ I3 q3) fun w' s4 ⟨z',H4,I4,r4,q4⟩=>thn (ho' pins s4 σ H4 y z' u w' _ I4 r2 r4 q4) fun d' s5 zz=>?_));obtain⟨z2,H5,I5,r5,k2,e2,q5⟩:=zz;subst e2;cases r5;exact wpAny_truthy_bool ⟨H5,I5,q5⟩
theorem line63:(sizeLine:Nat) < 2 ^ 63:=by rw[sizeLine_eq];decide
theorem op_add_str:OpR X (binaryOp .Add) (fun x y H Q=>∃ i j,x=.str i/\y=.str j/\i.length+j.length<=sizeLine/\Q (.str (i++j)) H):=by
 intro pins s σ H x y v u Q I rx ry h;obtain⟨i,j,rfl,rfl,hz,q⟩:=h;obtain⟨t,rfl⟩:=rx;obtain⟨t',rfl⟩:=ry;exact add_str (fun t' tk=>⟨.str (i++j),H,I.tok _,⟨_,rfl⟩,q⟩) hz
theorem vals1{x:V}{us:List Value}(r:Vals [x] us):∃ u,us=[u]/\RelV x u:=by
 cases r with
 | cons r1 r2=>cases r2;exact⟨_,rfl,r1⟩
theorem vals2{x y:V}{us:List Value}(r:Vals [x,y] us):∃ u w',us=[u,w']/\RelV x u/\RelV y w':=by
 cases r with
 | cons r1 r2=>
   cases r2 with
   | cons r3 r4=>cases r4;exact⟨_,_,rfl,r1,r3⟩
theorem call_max2(hc:X.calm=true):CallR X (.builtin "max") (fun xs H Q=>∃ i j,xs=[.int i,.int j]/\Q (.int (if j > i then j else i)) H):=by
 intro pins s σ H xs us Q I r h;obtain⟨i,j,rfl,q⟩:=h;obtain⟨u,w',rfl,⟨t,rfl⟩,⟨t',rfl⟩⟩:=vals2 r;refine max_two_ints (I.ok.hd hc) fun h' tk k=>⟨_,H,I.kept k,?_,q⟩;by_cases hj:j > i
 · rw[if_pos hj,if_pos hj];exact⟨_,rfl⟩
 rw[if_neg hj,if_neg hj];exact⟨_,rfl⟩
theorem call_min2(hc:X.calm=true):CallR X (.builtin "min") (fun xs H Q=>∃ i j,xs=[.int i,.int j]/\Q (.int (if j < i then j else i)) H):=by
 intro pins s σ H xs us Q I r h;obtain⟨i,j,rfl,q⟩:=h;obtain⟨u,w',rfl,⟨t,rfl⟩,⟨t',rfl⟩⟩:=vals2 r;refine min_two_ints (I.ok.hd hc) fun h' tk k=>⟨_,H,I.kept k,?_,q⟩;by_cases hj:j < i
 · rw[if_pos hj,if_pos hj];exact⟨_,rfl⟩
 rw[if_neg hj,if_neg hj];exact⟨_,rfl⟩
theorem call_str_int:CallR X (.type "str") (fun xs H Q=>∃ i,xs=[.int i]/\i.natAbs.log2 < 1920/\Q (.str (toString i)) H):=by
 intro pins s σ H xs us Q I r h;obtain⟨i,rfl,hz,q⟩:=h;obtain⟨u,rfl,t,rfl⟩:=vals1 r;exact PySem.P.str_of_int hz ⟨.str _,H,I.tok _,⟨_,rfl⟩,q⟩
end
end L2
namespace L2
open PySem PySem.Spec PyProof.Rows
structure ObjM(h:Heap)(x dx C:Addr)(mA:Str->Option Value):Prop where
 obj:h.get? x=some (W.instObj C dx)
 ns:h.Ns1 dx mA
 ne:dx≠x
theorem lookIn_ns{h:Heap}{dx:Addr}{mA:Str->Option Value}(n:h.Ns1 dx mA):∃ od,h.get? dx=some od /\ ∀ name,W.lookIn name od=some (mA name):=by
 obtain⟨o,es,ep,ho,hd,hk,_,hm⟩:=n;refine⟨o,ho,fun name=>?_⟩;have e:=hm name;unfold nsFind findBy at e;rw[← Array.find?_toList]at e;unfold W.lookIn;rw[hd]
 dsimp only
 split
 · rename_i y q
   rw[q]at e;exact congrArg some e
 rename_i q;rw[q]at e;have a:es.toList.any (·.refKey)=false:=by
  rw[List.any_eq_false];intro y hy;obtain⟨z,t,hkey⟩:=hk y (Array.mem_toList_iff.mp hy);simp[DictEntry.refKey,hkey]
 have a':¬ es.toList.any (·.refKey)=true:=by rw[a];exact Bool.false_ne_true
 rw[if_neg a'];exact congrArg some e
theorem ObjM.look{h:Heap}{x dx C:Addr}{mA:Str->Option Value}(I:ObjM h x dx C mA):∃ od,W.InstAt h x (W.instObj C dx) C (some od) /\ ∀ name,W.lookIn name od=some (mA name):=
 let⟨od,ho,hl⟩:=lookIn_ns I.ns
 ⟨od,⟨I.obj,rfl,rfl,ho⟩,hl⟩
section
variable{prog:Program}{w:World}{A:Around}{E:Value->Shared->Prop}{s:Shared}{K:W.Frag}{x dx C f:Addr}{mA:Str->Option Value}{name:Str}{v:Value}
theorem get_map{expr:Bool}{Q:Value->Shared->Prop}(X:K.In s.heap)(I:ObjM s.heap x dx C mA)(hg:W.plainGet K C name=true)(hh:W.hasDictIn K C=true)
 (ha:W.findIn K (.ref C) name=some none) (hv:mA name=some v) (hv':W.handedIn v=true) (h:Q v { s with toks:=s.toks+1 }) :
 wpAny (model prog w) A (getAttr (.ref x) name expr) Q E s:=by
 obtain⟨od,J,hl⟩:=I.look;exact W.get_value X J (W.plainGet_of hg).1 (W.findObj_own hh ha rfl (by rw[hl,hv])) hv' h
theorem get_meth{pl:Sem Bool}{Q:Value×List Value->Shared->Prop}(X:K.In s.heap)(I:ObjM s.heap x dx C mA)(hg:W.plainGet K C name=true)
 (hf:W.findIn K (.ref C) name=some (some (.ref f))) (ht:W.isFn K (.ref f)=true) (hv:mA name=none) (h:Q (.ref f,[.ref x]) s) :
 wpAny (model prog w) A (getMethod (.ref x) name pl) Q E s:=by
 obtain⟨od,J,hl⟩:=I.look;exact W.method_fn X J (W.plainGet_of hg).1 (W.plainGet_of hg).2 hf (beq_iff_eq.mp ht) (by show(W.lookIn name od).map (·.isSome)=some false;rw[hl,hv];rfl) h
theorem set_map{ns:List Str}{Q:Unit->Shared->Prop}(X:K.In s.heap)(I:ObjM s.heap x dx C mA)
 (hs:W.findIn K (.ref C) "__setattr__"=some (some (.builtin "object.__setattr__"))) (hp:W.plainOver K C=true) (ht:W.takerIn K C name=some none) (hh:W.hasDictIn K C=true)
 (hw:PySem.Within mA ns) (hsz:ns.length<=sizeLine)
 (h:∀ h',ObjM h' x dx C (fun y=>if y=name then some v else mA y)->Heap.SameBut dx s.heap h'->Q () { s with heap:=h',toks:=s.toks+2 }) :
 wpAny (model prog w) A (setAttr (.ref x) name v) Q E s:=by
 obtain⟨od,J,hl⟩:=I.look;refine W.set_plain X J hs (W.osa_open (s:={ s with toks:=s.toks+1 }) (r:=none) X J hp ht fun b=>?_);obtain⟨cd,hc,hd'⟩:=W.any_some hh;have hx:s.heap.get? x=some ⟨.ref C,some dx,.plain,#[]⟩:=I.obj;refine wpAny_bind (wpAny_pure (wpAny_bind (wpAny_bind (wpAny_loadPart hx (wpAny_bind (W.Looks.here (s:={ s with toks:=s.toks+1 }) (W.looks_clsIn X hc) ?_))))));rw[hd'];refine wpAny_pure (a:=some dx) (wpAny_bind (wpAny_pure (wpAny_bind ?_)));refine wpAny_nsSet1 (s:={ s with toks:=s.toks+1 }) I.ns fun h' hn2 hs2=>?_;obtain⟨oD,esD,epD,hoD,hdD,hcD⟩:=hn2.count (PySem.Within.cons name v hw);refine wpAny_bind (wpAny_lookBehind hoD (by rw[hdD];exact pastItsLine_dict (Nat.le_trans hcD (by rw[List.length_cons];omega))) ?_)
 exact wpAny_pure (h _ ⟨(hs2.2 _ (Ne.symm I.ne)).trans I.obj,hn2,I.ne⟩ hs2)
theorem make_map{R:Result->Shared->Prop}{vs:List Value}{kw:List (Str×Value)}(X:K.In s.heap)(hm:W.makesIn K C=true)
 (hi:W.findIn K (.ref C) "__init__"=some (some (.ref f))) (hf:W.typeIn K (.ref f)=some (.type "function"))
 (h:codeAny (model prog w) (A.under (.builtin "type.__call__" ⟨.ref C::vs,kw⟩)) (.call (.ref f) ⟨.ref (s.heap.objs.size+1)::vs,kw⟩) (W.InitBack (s.heap.objs.size+1) R)
  { s with heap:=(s.heap.push W.emptyDict).push (W.instObj C s.heap.objs.size) }) :
 codeAny (model prog w) A (.call (.ref C) ⟨vs,kw⟩) R s:=by
 obtain⟨hh,g,d,t,os⟩:=s;exact W.make_core (W.makes_of X hm) (W.looks_findIn X hi) (fun self=>W.bind_fn X self hf) (.inl rfl) h
end
noncomputable def putF(f:Str)(v:V):List (Str×V)->List (Str×V)
 | []=>[(f,v)]
 | (g,x)::r=>if g=f then(g,v)::r else(g,x)::putF f v r
theorem lookup_putF(f g:Str)(v:V):∀ fs:List (Str×V),(putF f v fs).lookup g=if g=f then some v else fs.lookup g
 | []=>by
   show List.lookup g [(f,v)]=_;by_cases h:g=f
   · have hb:(g == f)=true:=beq_iff_eq.mpr h
     simp only[List.lookup,hb,if_pos h]
   have hb:(g == f)=false:=beq_eq_false_iff_ne.mpr h;simp only[List.lookup,hb,if_neg h]
 | (k,x)::r=>by
   have ih:=lookup_putF f g v r;rw[show putF f v ((k,x)::r)=(if k=f then(k,v)::r else(k,x)::putF f v r)from rfl];by_cases hk:k=f
   · rw[if_pos hk]
     by_cases h:g=k
     · have hb:(g == k)=true:=beq_iff_eq.mpr h
       simp only[List.lookup,hb,if_pos (h.trans hk)]
     have hb:(g == k)=false:=beq_eq_false_iff_ne.mpr h;simp only[List.lookup,hb,if_neg (fun e:g=f=>h (e.trans hk.symm))]
   rw[if_neg hk];by_cases h:g=k
   · have hb:(g == k)=true:=beq_iff_eq.mpr h
     simp only[List.lookup,hb,if_neg (fun e:g=f=>hk (h.symm.trans e))]
   have hb:(g == k)=false:=beq_eq_false_iff_ne.mpr h;simp only[List.lookup,hb];exact ih
theorem keys_putF(f:Str)(v:V):∀ fs:List (Str×V),f∈(putF f v fs).map (·.1) /\ ∀ g,g∈fs.map (·.1)->g∈(putF f v fs).map (·.1)
 | []=>⟨by simp[putF],fun g h=>by simp at h⟩
 | (k,x)::r=>by
   obtain⟨i1,i2⟩:=keys_putF f v r;rw[show putF f v ((k,x)::r)=(if k=f then(k,v)::r else(k,x)::putF f v r)from rfl];by_cases hk:k=f
   · rw[if_pos hk]
     subst hk;exact⟨by simp,fun g h=>by simpa using h⟩
   rw[if_neg hk];refine⟨?_,fun g h=>?_⟩
   · rw[List.map_cons]
     exact List.mem_cons_of_mem _ i1
   rw[List.map_cons]at h ⊢;rcases List.mem_cons.mp h with e | e
   · exact List.mem_cons.mpr (.inl e)
   exact List.mem_cons_of_mem _ (i2 g e)
theorem length_putF(f:Str)(v:V):∀ fs:List (Str×V),(putF f v fs).length<=fs.length+1
 | []=>by simp[putF]
 | (k,x)::r=>by
   have ih:=length_putF f v r;rw[show putF f v ((k,x)::r)=(if k=f then(k,v)::r else(k,x)::putF f v r)from rfl];by_cases hk:k=f
   · rw[if_pos hk,List.length_cons,List.length_cons];omega
   rw[if_neg hk,List.length_cons,List.length_cons];omega
theorem RelO.some_of{v:V}{o:Option Value}(r:RelO (some v) o):∃ u,o=some u/\RelV v u:=by
 cases o with
 | none=>exact(show False from r).elim
 | some u=>exact⟨u,rfl,r⟩
theorem RelO.none_of{o:Option Value}(r:RelO none o):o=none:=by
 cases o with
 | none=>rfl
 | some u=>exact(show False from r).elim
theorem handed_of{v:V}{u:Value}(r:RelV v u):W.handedIn u=true:=by
 cases v with
 | non=>cases (show u=Value.none from r);rfl
 | bl b=>cases (show u=Value.bool b from r);rfl
 | int i=>obtain⟨t,e⟩:=(show ∃ t,u=Value.int i t from r);cases e;rfl
 | str x=>obtain⟨t,e⟩:=(show ∃ t,u=Value.str x t from r);cases e;rfl
 | byt b=>obtain⟨t,e⟩:=(show ∃ t,u=Value.bytes b t from r);cases e;rfl
 | flt b=>obtain⟨t,e⟩:=(show ∃ t,u=Value.float b t from r);cases e;rfl
 | ref a=>cases (show u=Value.ref a from r);rfl
 | ty n=>cases (show u=Value.type n from r);rfl
section
variable{P:Program}{w:World}{H H':Hp}{h h':Heap}{a C dx:Addr}{fs fs':List (Str×V)}
theorem ins_get(hok:HOk P w H h)(e:H a=some (.ins C dx fs)):∃ mA,ObjM h a dx C mA/\(∀ f,RelO (fs.lookup f) (mA f))/\PySem.Within mA (fs.map (·.1))/\fs.length<=1000/\H dx=some (.own a):=by
 obtain⟨d,z,ne,ob,mA,n,r,q⟩:=(show ObjOk P w H h a (.ins C dx fs)from hok a _ e);exact⟨mA,⟨ob,n,ne⟩,r,q,z,d⟩
end
structure Cls(K:W.Frag)(C:Addr):Prop where
 pg:W.plainGet K C Str.empty=true
 hd:W.hasDictIn K C=true
 po:W.plainOver K C=true
 sa:W.findIn K (.ref C) "__setattr__"=some (some (.builtin "object.__setattr__"))
theorem Cls.get{K:W.Frag}{C:Addr}(c:Cls K C)(f:Str):W.plainGet K C f=true:=c.pg
noncomputable def NoAttr(K:W.Frag)(C:Addr)(f:Str):Prop:=W.findIn K (.ref C) f=some none
theorem NoAttr.taker{K:W.Frag}{C:Addr}{f:Str}(n:NoAttr K C f):W.takerIn K C f=some none:=by
 unfold W.takerIn;rw[show W.findIn K (.ref C) f=some none from n]
 rfl
structure Meth(K:W.Frag)(C:Addr)(m:Str)(f:Addr):Prop where
 at_:W.findIn K (.ref C) m=some (some (.ref f))
 fn:W.isFn K (.ref f)=true
 kp:W.keepIn K (.ref f)=true
section
variable{X:Cx}{pins:List (Addr×Obj)}{σ:St}{H:Hp}{s:Shared}{a C dx:Addr}{fs:List (Str×V)}{f:Str}{v:V}{A:Around}{E:Value->Shared->Prop}
theorem getattr_ok{b:Bool}{Q:Value->Shared->Prop}(I:Inv X pins σ H s)(e:H a=some (.ins C dx fs))(c:Cls X.K C)(n:NoAttr X.K C f)(l:fs.lookup f=some v)
 (h:∀ u s',Inv X pins σ H s'->RelV v u->Q u s'):wpAny (model X.prog X.w) A (getAttr (.ref a) f b) Q E s:=by
 obtain⟨mA,O,r,_,_,_⟩:=ins_get I.hok e;obtain⟨u,hu,ru⟩:=RelO.some_of (v:=v) (o:=mA f) (by rw[← l];exact r f)
 exact get_map I.kIn O (c.get f) c.hd n hu (handed_of ru) (h u _ (I.tok _) ru)
theorem getmeth_ok{m:Str}{g:Addr}{pl:Sem Bool}{Q:Value×List Value->Shared->Prop}(I:Inv X pins σ H s)(e:H a=some (.ins C dx fs))(c:Cls X.K C)(k:Meth X.K C m g)(l:fs.lookup m=none)
 (h:Q (.ref g,[.ref a]) s):wpAny (model X.prog X.w) A (getMethod (.ref a) m pl) Q E s:=by
 obtain⟨mA,O,r,_,_,_⟩:=ins_get I.hok e;have hn:mA m=none:=RelO.none_of (by rw[← l];exact r m)
 exact get_meth I.kIn O (c.get m) k.at_ k.fn hn h
theorem setattr_ok{y:V}{u:Value}{Q:Unit->Shared->Prop}(I:Inv X pins σ H s)(e:H a=some (.ins C dx fs))(c:Cls X.K C)(n:NoAttr X.K C f)(hl:fs.length < 1000)(ry:RelV y u)
 (h:∀ s',Inv X pins σ (upd H a (.ins C dx (putF f y fs))) s'->Q () s'):wpAny (model X.prog X.w) A (setAttr (.ref a) f u) Q E s:=by
 obtain⟨mA,O,r,wi,_,ho⟩:=ins_get I.hok e;have hz:(fs.map (·.1)).length<=sizeLine:=by rw[List.length_map,sizeLine_eq];omega
 refine set_map I.kIn O c.sa c.po n.taker c.hd wi hz fun h' O' sb=>h _ ?_;have hd:∃ o,h'.get? dx=some o:=let⟨o,_,_,e',_⟩:=O'.ns;⟨o,e'⟩;refine I.write (x:=a) (e:=dx) (by rw[e];exact True.intro) (.inr ho) (fun b q hb z=>(sb.2 b hb).trans z) hd ?_
 refine⟨by rw[upd_ne O.ne];exact ho,?_,O.ne,O'.obj,_,O'.ns,fun g=>?_,fun g hg=>?_⟩
 · have:=length_putF f y fs;omega
 · show RelO ((putF f y fs).lookup g) (if g=f then some u else mA g)
   rw[lookup_putF];by_cases q:g=f
   · rw[if_pos q,if_pos q];exact ry
   rw[if_neg q,if_neg q];exact r g
 by_cases q:g=f
 · rw[q];exact(keys_putF f y fs).1
 refine(keys_putF f y fs).2 g (wi g fun z=>hg ?_);show(if g=f then some u else mA g)=none;rw[if_neg q];exact z
theorem Inv.made(I:Inv X pins σ H s):Inv X pins σ (upd (upd H s.heap.objs.size (.own (s.heap.objs.size+1))) (s.heap.objs.size+1) (.ins C s.heap.objs.size []))
 { s with heap:=(s.heap.push W.emptyDict).push (W.instObj C s.heap.objs.size) }:=by
 have e1:(s.heap.push W.emptyDict).get? s.heap.objs.size=some W.emptyDict:=Heap.get?_push_size s.heap rfl;have e2:((s.heap.push W.emptyDict).push (W.instObj C s.heap.objs.size)).get? (s.heap.objs.size+1)=some (W.instObj C s.heap.objs.size):=by
  have:=Heap.get?_push_size (s.heap.push W.emptyDict) (o:=W.instObj C s.heap.objs.size) rfl
  rwa [Heap.size_push]at this
 have e3:(s.heap.push W.emptyDict).Ns s.heap.objs.size (fun _=>none):=⟨W.emptyDict,#[],_,e1,rfl,(fun e he=>absurd he (by simp)),fun _=>rfl⟩
 have I1:=I.laid (a:=s.heap.objs.size) (o:=.own (s.heap.objs.size+1)) (h':=s.heap.push W.emptyDict) (t':=s.toks) (fun b u q=>Heap.get?_push_of_some _ q) (Nat.le_refl _) ⟨_,e1⟩;refine I1.laid (a:=s.heap.objs.size+1) (o:=.ins C s.heap.objs.size []) (t':=s.toks) (fun b u q=>Heap.get?_push_of_some _ q) (Nat.le_of_eq (Heap.size_push _ _)) ?_;have ne:s.heap.objs.size≠s.heap.objs.size+1:=Nat.ne_of_lt (Nat.lt_succ_self _);refine⟨by rw[upd_ne ne,upd_same],Nat.zero_le _,ne,e2,fun _=>none,(Heap.Ns1.of_empty e3).at fun o q=>Heap.get?_push_of_some _ q,fun _=>True.intro,fun y hy=>absurd rfl hy⟩
theorem attr_of{prog:Program}{w:World}{env:Env}{e:Expr}{f:Str}{pos:Pos}{s:Shared}{Q:Value->Shared->Prop}(hb:attributeBase e f env (eval e env)=eval e env)
 (h:wpAny (model prog w) A (eval e env) (fun o s₁=>wpAny (model prog w) A (getAttr o f true) Q E s₁) E s):wpAny (model prog w) A (eval (.Attribute e f pos) env) Q E s:=
 Attribute_any_ h (by rw[arm_eval_Attribute,hb])
end
noncomputable def tFld(K:W.Frag)(ta:TE)(f:Str):TE:=fun σ H Q=>ta σ H fun x H1=>∃ a C dx fs v,x=.ref a/\H1 a=some (.ins C dx fs)/\Cls K C/\NoAttr K C f/\fs.lookup f=some v/\Q v H1
noncomputable def sFld(K:W.Frag)(ta tv:TE)(f:Str):TS:=fun D σ H=>tv σ H fun y H1=>ta σ H1 fun x H2=>∃ a C dx fs,x=.ref a/\H2 a=some (.ins C dx fs)/\Cls K C/\NoAttr K C f/\fs.length < 1000 /\
 D.nx σ (upd H2 a (.ins C dx (putF f y fs)))
noncomputable def InOp(X:Cx)(op:Operator)(rd:V->V->Hp->VK->Prop):Prop:=
 ∀(pins:List (Addr×Obj)) (s:Shared) (σ:St) (H:Hp) (x y:V) (u v:Value) (Q:VK),Inv X pins σ H s->RelV x u->RelV y v->rd x y H Q->wpAny (model X.prog X.w) X.A (inplaceOp op u v) (EP X pins σ Q) X.xe s
noncomputable def sFldAug(K:W.Frag)(ta tv:TE)(rd:V->V->Hp->VK->Prop)(f:Str):TS:=fun D σ H=>ta σ H fun x H1=>∃ a C dx fs v,x=.ref a/\H1 a=some (.ins C dx fs)/\Cls K C/\NoAttr K C f/\fs.lookup f=some v /\
 tv σ H1 fun y H2=>rd v y H2 fun z H3=>∃ dx' fs',H3 a=some (.ins C dx' fs')/\fs'.length < 1000/\D.nx σ (upd H3 a (.ins C dx' (putF f z fs')))
section
variable{X:Cx}{o e value:Expr}{f:Str}{pos pos' tpos:Pos}{ta tv:TE}
theorem pe_fld(he:PE X e ta)(hb:attributeBase e f X.env (eval e X.env)=eval e X.env):PE X (.Attribute e f pos) (tFld X.K ta f):=by
 intro pins s σ H Q I h;refine attr_of hb (thn (he pins s σ H _ I h) fun u s1 zz=>?_);obtain⟨x,H1,I1,rx,a,C,dx,fs,v,ex,ea,c,n,l,q⟩:=zz;subst ex;obtain rfl:u=Value.ref a:=rx;exact getattr_ok I1 ea c n l fun u' s2 I2 ru=>⟨v,H1,I2,ru,q⟩
theorem ps_fld(ha:PE X o ta)(hv:PE X value tv)(hs:swapsWith value (some (.Attribute o f pos')) pos.line X.env=pure false):PS X (.Assign [.Attribute o f pos'] value pos) (sFld X.K ta tv f):=by
 intro pins s σ H D I h;refine plainObj_wpAny_Assign_Attribute (thn (hv pins s σ H _ I h) fun u s1 ⟨y,H1,I1,ry,q⟩=>thn (ha pins s1 σ H1 _ I1 q) fun ov s2 ⟨x,H2,I2,rx,a,C,dx,fs,ex,ea,c,n,l,q2⟩=>?_) hs;subst ex;obtain rfl:ov=Value.ref a:=rx;exact setattr_ok I2 ea c n l ry fun s3 I3=>⟨σ,_,I3,q2⟩
theorem ps_fldaug{op:Operator}{rd:V->V->Hp->VK->Prop}(ha:PE X o ta)(hv:PE X value tv)(hop:InOp X op rd):PS X (.AugAssign (.Attribute o f tpos) op value pos) (sFldAug X.K ta tv rd f):=by
 intro pins s σ H D I h;refine wpAny_AugAssign_AttributeAny (thn (ha pins s σ H _ I h) fun ov s1 zz=>?_);obtain⟨x,H1,I1,rx,a,C,dx,fs,v,ex,ea,c,n,l,q⟩:=zz;subst ex;obtain rfl:ov=Value.ref a:=rx;refine getattr_ok I1 ea c n l fun u s2 I2 ru=>thn (hv pins s2 σ H1 _ I2 q) fun w3 s3 ⟨y,H2,I3,ry,q3⟩=>thn (hop pins s3 σ H2 v y u w3 _ I3 ru ry q3) fun w4 s4 zz=>?_;obtain⟨z,H3,I4,rz,dx',fs',ea',l',q4⟩:=zz;exact setattr_ok I4 ea' c n l' rz fun s5 I5=>⟨σ,_,I5,q4⟩
noncomputable def rAdd:V->V->Hp->VK->Prop:=fun x y H Q=>∃ i j,x=.int i/\y=.int j/\Q (.int (i+j)) H
noncomputable def rSub:V->V->Hp->VK->Prop:=fun x y H Q=>∃ i j,x=.int i/\y=.int j/\Q (.int (i - j)) H
theorem in_add:InOp X .Add rAdd:=by
 rintro pins s σ H x y u v Q I rx ry ⟨i,j,rfl,rfl,q⟩;obtain⟨t,rfl⟩:=(show ∃ t,u=Value.int i t from rx);obtain⟨t',rfl⟩:=(show ∃ t',v=Value.int j t' from ry);exact PyProof.Rows.iadd_int ⟨.int (i+j),H,I.tok _,⟨_,rfl⟩,q⟩
theorem in_sub:InOp X .Sub rSub:=by
 rintro pins s σ H x y u v Q I rx ry ⟨i,j,rfl,rfl,q⟩;obtain⟨t,rfl⟩:=(show ∃ t,u=Value.int i t from rx);obtain⟨t',rfl⟩:=(show ∃ t',v=Value.int j t' from ry);exact PyProof.Rows.isub_int ⟨.int (i - j),H,I.tok _,⟨_,rfl⟩,q⟩
end
section
variable{X:Cx}{pins:List (Addr×Obj)}{σ:St}{H:Hp}{s:Shared}{A:Around}{E:Value->Shared->Prop}{Q:Value->Shared->Prop}{c:Value}{b:Bool}
inductive TyOf(K:W.Frag)(H:Hp):V->Value->Prop where
 | non:TyOf K H .non (.type "NoneType")
 | bl (x:Bool):TyOf K H (.bl x) (.type "bool")
 | int (i:Int):TyOf K H (.int i) (.type "int")
 | str (x:Str):TyOf K H (.str x) (.type "str")
 | flt (x:UInt64):TyOf K H (.flt x) (.type "float")
 | lst {a:Addr}{xs:List V} (e:H a=some (.lst xs)):TyOf K H (.ref a) (.type "list")
 | frz {a:Addr}{o:Obj}{xs:List V} (e:H a=some (.frz o (.lst xs))):TyOf K H (.ref a) (.type "list")
 | tup {a:Addr}{xs:List V} (e:H a=some (.tup xs)):TyOf K H (.ref a) (.type "tuple")
 | dK {a:Addr}{kvs:List (Key×V)} (e:H a=some (.dK kvs)):TyOf K H (.ref a) (.type "dict")
 | dT {a:Addr}{kvs:List (List Key×V)} (e:H a=some (.dT kvs)):TyOf K H (.ref a) (.type "dict")
 | ins {a C dx:Addr}{fs:List (Str×V)} (e:H a=some (.ins C dx fs)) (cl:Cls K C) (ha:W.findIn K (.ref C) "__class__"=some (some (.builtin "object.__class__")))
  (hn:W.specialIn K (.builtin "object.__class__") "__get__"=some (some (.builtin "getset_descriptor.__get__"))) (htk:W.takesIn K (.builtin "object.__class__")=some true)
  (hm:W.mroIn K C (.type "object")=some true):TyOf K H (.ref a) (.ref C)
theorem isinst_ok{x:V}{u t:Value}(I:Inv X pins σ H s)(rx:RelV x u)(ty:TyOf X.K H x t)(e:W.kitOne X.K t c=some b)(h:∀ tk,Q (.bool b) { s with toks:=tk }) :
 wpAny (model X.prog X.w) A (call (.builtin "isinstance") [u,c]) Q E s:=by
 cases ty with
 | non=>cases (show u=Value.none from rx);exact W.kia_one W.kitx_none I.kIn True.intro e (fun z=>nomatch z) h
 | bl y=>cases (show u=Value.bool y from rx);exact W.kia_one W.kitx_bool I.kIn True.intro e (fun z=>nomatch z) h
 | int i=>obtain⟨t,q⟩:=(show ∃ t,u=Value.int i t from rx);cases q;exact W.kia_one W.kitx_int I.kIn True.intro e (fun z=>nomatch z) h
 | str y=>obtain⟨t,q⟩:=(show ∃ t,u=Value.str y t from rx);cases q;exact W.kia_one W.kitx_str I.kIn True.intro e (fun z=>nomatch z) h
 | flt y=>obtain⟨t,q⟩:=(show ∃ t,u=Value.float y t from rx);cases q;exact W.kia_one W.kitx_float I.kIn True.intro e (fun z=>nomatch z) h
 | @lst a xs ea=>
   cases (show u=Value.ref a from rx);obtain⟨_,_,n,_,h1⟩:=(show ObjOk X.prog X.w H s.heap a (.lst xs)from I.hok a _ ea);exact W.kia_one W.kitx_list I.kIn ⟨_,h1,rfl⟩ e (fun z=>nomatch z) h
 | @frz a ob xs ea=>
   cases (show u=Value.ref a from rx);obtain⟨_,_,_,n,_,h1⟩:=(show ObjOk X.prog X.w H s.heap a (.frz ob (.lst xs))from I.hok a _ ea);exact W.kia_one W.kitx_list I.kIn ⟨_,h1,rfl⟩ e (fun z=>nomatch z) h
 | @tup a xs ea=>
   cases (show u=Value.ref a from rx);obtain⟨_,_,_,p⟩:=(show ObjOk X.prog X.w H s.heap a (.tup xs)from I.hok a _ ea);obtain⟨o,h1,h2,_⟩:=p;exact W.kia_one W.kitx_tuple I.kIn ⟨o,h1,h2⟩ e (fun z=>nomatch z) h
 | @dK a kvs ea=>
   cases (show u=Value.ref a from rx);obtain⟨_,_,vs,_,p⟩:=(show ObjOk X.prog X.w H s.heap a (.dK kvs)from I.hok a _ ea);obtain⟨o,es,ep,h1,h2,_⟩:=p;exact W.kia_one W.kitx_dict I.kIn ⟨o,h1,h2.1⟩ e (fun z=>nomatch z) h
 | @dT a kvs ea=>
   cases (show u=Value.ref a from rx);obtain⟨_,_,xs,_,o,es,ep,h1,h2,_⟩:=(show ObjOk X.prog X.w H s.heap a (.dT kvs)from I.hok a _ ea);exact W.kia_one W.kitx_dict I.kIn ⟨o,h1,h2.1⟩ e (fun z=>nomatch z) h
 | @ins a C dx fs ea cl ha hn htk hm=>
   cases (show u=Value.ref a from rx);obtain⟨mA,O,_⟩:=ins_get I.hok ea;obtain⟨od,J,_⟩:=O.look;exact W.kia_one (W.kitx_own (cl.get _) cl.hd ha hn htk hm) I.kIn J e (fun z=>nomatch z) h
end
end L2
namespace L2
open PySem PySem.Spec PyProof.Rows
structure Room(k:Nat)(A:Around):Prop where
 hd:A.handled=none
 dp:A.depth+3*k+5 < recursionLimit
 un:A.units+16*k+200 < cLine
theorem Room.mono{j k:Nat}{A:Around}(r:Room k A)(h:j<=k):Room j A:=⟨r.hd,by have:=r.dp;omega,by have:=r.un;omega⟩
theorem Room.up{j k:Nat}{A:Around}(r:Room k A)(h:j<=k:=by first | decide | omega):Room j A:=r.mono h
theorem Room.deeper{k:Nat}{A:Around}(r:Room (k+1) A)(env:Env):Room k (A.deeper env):=
 ⟨r.hd,by have:=r.dp;show A.depth+1+3*k+5 < _;omega,by have:=r.un;show A.units+3+16*k+200 < _;omega⟩
theorem Room.in1{k:Nat}{A:Around}(r:Room (k+1) A):Room k A.in1:=
 ⟨r.hd,by have:=r.dp;show A.depth+3*k+5 < _;omega,by have:=r.un;show A.units+1+16*k+200 < _;omega⟩
theorem make_depth{A:Around}{C:Addr}{us:List Value}{kw:List (Str×Value)}:(A.under (.builtin "type.__call__" ⟨.ref C::us,kw⟩)).depth=A.depth+1:=by
 first | rfl | simp[Around.under,Code.weight,Code.isCreation,Code.isGuard,Code.isCaller,Code.frames,Code.isFrame,guardIds]
theorem make_units{A:Around}{C:Addr}{us:List Value}{kw:List (Str×Value)}:(A.under (.builtin "type.__call__" ⟨.ref C::us,kw⟩)).units=A.units+1:=by
 first | rfl | simp[Around.under,Code.cUnits,Code.frames,Code.isFrame]
theorem Room.make{k:Nat}{A:Around}(r:Room (k+1) A)(C:Addr)(us:List Value)(kw:List (Str×Value)):Room k (A.under (.builtin "type.__call__" ⟨.ref C::us,kw⟩)):=
 ⟨r.hd,by have:=r.dp;rw[make_depth];omega,by have:=r.un;rw[make_units];omega⟩
theorem Room.depth{k:Nat}{A:Around}(r:Room k A):A.depth < recursionLimit:=by have:=r.dp;omega
theorem Room.units{k:Nat}{A:Around}(r:Room k A):A.units+64 < cLine:=by have:=r.un;omega
noncomputable def tNil:TA:=fun _ H Q=>Q [] H
noncomputable def tCons(ta:TE)(tr:TA):TA:=fun σ H Q=>ta σ H fun x H1=>tr σ H1 fun xs H2=>Q (x::xs) H2
section
variable{X:Cx}{e:Expr}{es:List Expr}{te:TE}{t:TA}{pos:Pos}
theorem pa_nil:PA X [] tNil:=fun _ _ _ _ H Q I h=>Calls.spliced_nil ⟨[],H,I,.nil,h⟩
theorem pa_cons(ha:PE X e te)(hr:PA X es t)(hs:starEach (e::es) X.env=(false,eval e X.env)::starEach es X.env:=by rfl):PA X (e::es) (tCons te t):=by
 intro pos pins s σ H Q I h;rw[hs];show wpAny _ _ (spliced ((false,eval e X.env)::backTo pos (starEach es X.env))) _ _ s;refine Calls.spliced_cons (thn (ha pins s σ H _ I h) fun u s1 zz=>?_);obtain⟨x,H1,I1,r1,q1⟩:=zz;exact thn (hr pos pins s1 σ H1 _ I1 q1) fun us s2 ⟨xs,H2,I2,r2,q2⟩=>⟨x::xs,H2,I2,.cons r1 r2,q2⟩
noncomputable def tTup(t:TA):TE:=fun σ H Q=>t σ H fun xs H1=>xs.length<=sizeLine /\ ∀ p,H1 p=none->Q (.ref p) (upd H1 p (.tup xs))
noncomputable def tLst(t:TA):TE:=fun σ H Q=>t σ H fun xs H1=>xs.length<=sizeLine /\ ∀ p,H1 p=none->Q (.ref p) (upd H1 p (.lst xs))
theorem pe_tup{x1}(h:PA X es t):PE X (.Tuple es x1 pos) (tTup t):=by
 intro pins s σ H Q I hq;refine wpAny_Tuple_spliced (thn (h pos pins s σ H _ I hq) fun us s1 ⟨xs,H1,I1,r,z,q⟩=>⟨by rw[← r.length];exact z,?_⟩)
 have hf:H1 s1.heap.objs.size=none:=I1.hok.fresh (Nat.le_refl _);refine⟨.ref s1.heap.objs.size,upd H1 s1.heap.objs.size (.tup xs),I1.laid (t':=s1.toks) (fun b u e=>Heap.get?_push_of_some _ e) (Nat.le_refl _) ?_,rfl,q _ hf⟩;exact⟨z,us,r,⟨_,Heap.get?_push_size _ rfl,rfl,_,rfl⟩⟩
theorem pe_lst(h:PA X es t):PE X (.List es pos) (tLst t):=by
 intro pins s σ H Q I hq;refine wpAny_List_spliced (thn (h pos pins s σ H _ I hq) fun us s1 ⟨xs,H1,I1,r,z,q⟩=>⟨by rw[← r.length];exact z,?_⟩)
 have hf:H1 s1.heap.objs.size=none:=I1.hok.fresh (Nat.le_refl _);refine⟨.ref s1.heap.objs.size,upd H1 s1.heap.objs.size (.lst xs),I1.laid (t':=s1.toks) (fun b u e=>Heap.get?_push_of_some _ e) (Nat.le_refl _) ?_,rfl,q _ hf⟩;exact⟨z,us,0,r,Heap.get?_push_size _ rfl⟩
end
noncomputable abbrev Sp:=List V->Hp->VK->XK->Prop
noncomputable abbrev CXT:=List Env->Hp->Shared->XK->Value->Shared->Prop
structure Env0(P:Program)(w:World)(K:W.Frag)(mg:Str->Option Value)(base:Heap)(A:Around)(outer:List Env)(s:Shared)(H:Hp):Prop where
 frames:A.frames=some outer
 mod:Mod K mg base
 bs:∀ b o,base.get? b=some o->s.heap.get? b=some o/\H b=none
 bsz:base.objs.size<=s.heap.objs.size
 funs:s.heap.FunFrames base outer
 frf:∀ b∈frs outer,H b=none
 hok:HOk P w H s.heap
 bare:AllBare s.gens
noncomputable def CE(outer:List Env)(P:Program)(w:World)(H:Hp)(s:Shared)(Q:VK)(u:Value)(s':Shared):Prop:=
 ∃ v H',s'.os=s.os/\AllBare s'.gens/\Un (frs outer) [] H H' s.heap s'.heap/\HOk P w H' s'.heap/\RelV v u/\Q v H'
noncomputable def CR(CX:CXT)(outer:List Env)(P:Program)(w:World)(H:Hp)(s:Shared)(Q:VK)(E:XK)(r:Result)(s':Shared):Prop:=
 match r with
 | .ok (.ret u)=>CE outer P w H s Q u s'
 | .ok _=>False
 | .error e=>CX outer H s E e s'
structure FnOk(P:Program)(w:World)(K:W.Frag)(mg:Str->Option Value)(base:Heap)(CX:CXT)(k:Nat)(f:Addr)(fd:FuncData)(ps:List Str)(sp:Sp):Prop where
 len:∀ vs H Q E,sp vs H Q E->vs.length=ps.length
 run:∀(A:Around) (outer:List Env) (s:Shared) (H:Hp) (args:Args) (us:List Value) (vs:List V) (Q:VK) (E:XK),Room k A->Env0 P w K mg base A outer s H->BindsTo s fd args (ps.zip us)->Vals vs us->sp vs H Q E ->
  codeAny (model P w) A (.call (.ref f) args) (CR CX outer P w H s Q E) s
theorem Env0.make{P:Program}{w:World}{K:W.Frag}{mg:Str->Option Value}{base:Heap}{A:Around}{outer:List Env}{s:Shared}{H:Hp}(e:Env0 P w K mg base A outer s H)(C:Addr)(us:List Value)(kw:List (Str×Value)) :
 Env0 P w K mg base (A.under (.builtin "type.__call__" ⟨.ref C::us,kw⟩)) outer s H:=⟨by first | exact e.frames | (simpa [Around.under,Code.envs,Code.isFrame,pushEnvs] using e.frames),e.mod,e.bs,e.bsz,e.funs,e.frf,e.hok,e.bare⟩
theorem Env0.in1{P:Program}{w:World}{K:W.Frag}{mg:Str->Option Value}{base:Heap}{A:Around}{outer:List Env}{s:Shared}{H:Hp}(e:Env0 P w K mg base A outer s H) :
 Env0 P w K mg base A.in1 outer s H:=⟨e.frames,e.mod,e.bs,e.bsz,e.funs,e.frf,e.hok,e.bare⟩
section
variable{X:Cx}{pins:List (Addr×Obj)}{σ:St}{H:Hp}{s s':Shared}
theorem Inv.env0(I:Inv X pins σ H s):Env0 X.prog X.w X.K X.mg X.base X.A X.stack s H:=
 ⟨I.ok.frames,I.ok.mod,I.bs,Nat.le_trans I.ok.bsz I.sz,I.stack,I.stkFree,I.hok,I.bare⟩
theorem Inv.after{Q:VK}{u:Value}(I:Inv X pins σ H s)(h:CE X.stack X.prog X.w H s Q u s'):EP X pins σ Q u s':=by
 obtain⟨v,H',os,bare,un,hok,r,q⟩:=h;obtain⟨hh,g,d,t,os'⟩:=s';obtain rfl:os'=s.os:=os;exact⟨v,H',I.call (h':=hh) (g':=g) (d':=d) (t':=t) (ch:=[]) un hok bare (fun b z=>absurd z (by simp)),r,q⟩
end
noncomputable def tCall(sp:Sp)(dvs:List V)(E:XK)(t:TA):TE:=fun σ H Q=>t σ H fun vs H1=>sp (vs++dvs) H1 Q E
noncomputable def tMeth(C:Addr)(m:Str)(sp:Sp)(dvs:List V)(E:XK)(ta:TE)(t:TA):TE:=fun σ H Q=>ta σ H fun x H1=>∃ a dx fs,x=.ref a/\H1 a=some (.ins C dx fs)/\fs.lookup m=none /\
 t σ H1 fun vs H2=>sp (x::(vs++dvs)) H2 Q E
noncomputable def tMake(C:Addr)(sp:Sp)(dvs:List V)(E:XK)(t:TA):TE:=fun σ H Q=>t σ H fun vs H1=>∀ x dx,H1 x=none->H1 dx=none->dx≠x ->
 sp (.ref x::(vs++dvs)) (upd (upd H1 dx (.own x)) x (.ins C dx [])) (fun v H2=>v=.non/\Q (.ref x) H2) E
noncomputable def Binds(K:W.Frag)(fd:FuncData)(ps:List Str)(ds:List Value):Prop:=
 ∀(s:Shared) (us:List Value),K.In s.heap->(us++ds).length=ps.length->BindsTo s fd ⟨us,[]⟩ (ps.zip (us++ds))
theorem Binds.all{K:W.Frag}{fd:FuncData}{ps:List Str}(h:∀ us:List Value,us.length=ps.length->bindArgs fd ⟨us,[]⟩=pure (ps.zip us)):Binds K fd ps []:=fun s us _ hl=>by
 rw[List.append_nil]at hl ⊢;exact .of_eq (h us hl)
noncomputable def Passes(CX:CXT)(X:Cx)(E:XK):Prop:=∀(pins:List (Addr×Obj)) (σ:St) (H:Hp) (s:Shared) (e:Value) (s':Shared),Inv X pins σ H s->CX X.stack H s E e s'->X.xe e s'
section
variable{X:Cx}{CX:CXT}{k:Nat}{f C:Addr}{fd:FuncData}{ps:List Str}{sp:Sp}{dvs:List V}{ds:List Value}{E:XK}{x m:Str}{p pos apos:Pos}{e o:Expr}{es:List Expr}{ta:TE}{t:TA}
theorem run_fn{pins:List (Addr×Obj)}{σ:St}{H:Hp}{s:Shared}{Q:VK}{us:List Value}{vs:List V}(F:FnOk X.prog X.w X.K X.mg X.base CX k f fd ps sp)(hr:Room k X.A)(hb:Binds X.K fd ps ds)(hd:Vals dvs ds)(hx:Passes CX X E)
 (I:Inv X pins σ H s) (r:Vals vs us) (h:sp (vs++dvs) H Q E):wpAny (model X.prog X.w) X.A (call (.ref f) us) (EP X pins σ Q) X.xe s:=by
 have r2:Vals (vs++dvs) (us++ds):=r.append hd;have hl:(us++ds).length=ps.length:=by rw[← r2.length];exact F.len _ _ _ _ h
 refine wpAny_call (codeAny_mono (F.run X.A X.stack s H ⟨us,[]⟩ (us++ds) (vs++dvs) Q E hr I.env0 (hb s us I.kIn hl) r2 h) fun r s' hq=>?_);cases r with
 | error e=>exact hx pins σ H s e s' I hq
 | ok fl=>
   cases fl with
   | ret u=>exact I.after hq
   | next=>exact False.elim hq
   | brk=>exact False.elim hq
   | cont=>exact False.elim hq
theorem pe_call(F:FnOk X.prog X.w X.K X.mg X.base CX k f fd ps sp)(hr:Room k X.A)(hg:Gl X x)(hm:X.mg x=some (.ref f))(hk:W.keepIn X.K (.ref f)=true)(hb:Binds X.K fd ps ds)(hd:Vals dvs ds)(hx:Passes CX X E)
 (ha:PA X (e::es) t) (hdb:(x == ("__debug__":Str))=false:=by decide) (he:starEach (e::es) X.env=(false,eval e X.env)::starEach es X.env:=by rfl) (hpl:(backTo pos (starEach es X.env)).any (·.1)=false:=by rfl) :
 PE X (.Call (.Name x p) (e::es) [] pos) (tCall sp dvs E t):=by
 intro pins s σ H Q I h;refine wpAny_Call_Name_kw (ld_glob I hg hm ?_ hdb);refine W.callWith_K (h₀:=X.base) I.ok.mod.kin hk (thn (ha pos pins s σ H _ I h) fun us s1 ⟨vs,H1,I1,r,q⟩=>⟨I1.kIn,?_⟩) he hpl;exact run_fn F hr hb hd hx I1 r q
theorem pe_call0(F:FnOk X.prog X.w X.K X.mg X.base CX k f fd ps sp)(hr:Room k X.A)(hg:Gl X x)(hm:X.mg x=some (.ref f))(hk:W.keepIn X.K (.ref f)=true)(hb:Binds X.K fd ps ds)(hd:Vals dvs ds)(hx:Passes CX X E)
 (hdb:(x == ("__debug__":Str))=false:=by decide):PE X (.Call (.Name x p) [] [] pos) (tCall sp dvs E tNil):=by
 intro pins s σ H Q I h;refine wpAny_Call_Name_kw (ld_glob I hg hm ?_ hdb);exact W.callWith_K0 I.kIn hk (run_fn (us:=[]) F hr hb hd hx I .nil h)
theorem pe_meth{pl:Sem Bool}(he:PE X o ta)(c:Cls X.K C)(hm:Meth X.K C m f)(F:FnOk X.prog X.w X.K X.mg X.base CX k f fd ps sp)(hr:Room k X.A)(hb:Binds X.K fd ps ds)(hd:Vals dvs ds)(hx:Passes CX X E)(ha:PA X (e::es) t)
 (hst:starEach (e::es) X.env=(false,eval e X.env)::starEach es X.env:=by rfl) (hpl:(backTo pos (starEach es X.env)).any (·.1)=false:=by rfl)
 (ht:eval (.Call (.Attribute o m apos) (e::es) [] pos) X.env=(do
  let ov ← eval o X.env
  standAt apos.atName
  let(f,first) ← holding [ov] (getMethod ov m pl)
  callWith pos f first (backTo pos (starEach (e::es) X.env)) (backToKw pos (keywordEach [] X.env))):=by rfl) :
 PE X (.Call (.Attribute o m apos) (e::es) [] pos) (tMeth C m sp dvs E ta t):=by
 intro pins s σ H Q I h;refine W.methodCall_KW (pl:=pl) (thn (he pins s σ H _ I h) fun u s1 ⟨x,H1,I1,rx,a,dx,fs,ex,ea,l,q⟩=>?_) ht;subst ex;obtain rfl:u=Value.ref a:=rx;refine getmeth_ok I1 ea c hm l ?_;refine W.callWith_K (first:=[.ref a]) (h₀:=X.base) I.ok.mod.kin hm.kp (thn (ha pos pins s1 σ H1 _ I1 q) fun us s2 ⟨vs,H2,I2,r,q2⟩=>⟨I2.kIn,?_⟩) hst hpl;exact run_fn (us:=.ref a::us) (vs:=.ref a::vs) F hr hb hd hx I2 (.cons rfl r) q2
theorem pe_meth0{pl:Sem Bool}(he:PE X o ta)(c:Cls X.K C)(hm:Meth X.K C m f)(F:FnOk X.prog X.w X.K X.mg X.base CX k f fd ps sp)(hr:Room k X.A)(hb:Binds X.K fd ps ds)(hd:Vals dvs ds)(hx:Passes CX X E)
 (ht:eval (.Call (.Attribute o m apos) [] [] pos) X.env=(do
  let ov ← eval o X.env
  standAt apos.atName
  let(f,first) ← holding [ov] (getMethod ov m pl)
  callWith pos f first (backTo pos (starEach [] X.env)) (backToKw pos (keywordEach [] X.env))):=by rfl) :
 PE X (.Call (.Attribute o m apos) [] [] pos) (tMeth C m sp dvs E ta tNil):=by
 intro pins s σ H Q I h;refine W.methodCall_KW (pl:=pl) (thn (he pins s σ H _ I h) fun u s1 ⟨x,H1,I1,rx,a,dx,fs,ex,ea,l,q⟩=>?_) ht;subst ex;obtain rfl:u=Value.ref a:=rx;refine getmeth_ok I1 ea c hm l ?_;exact W.callWith_K0 (first:=[.ref a]) I1.kIn hm.kp (run_fn (us:=[.ref a]) (vs:=[.ref a]) F hr hb hd hx I1 (.cons rfl .nil) q)
structure Mk(K:W.Frag)(C f:Addr):Prop where
 makes:W.makesIn K C=true
 init:W.findIn K (.ref C) "__init__"=some (some (.ref f))
 fn:W.isFn K (.ref f)=true
 kp:W.keepIn K (.ref C)=true
theorem run_make{pins:List (Addr×Obj)}{σ:St}{H:Hp}{s:Shared}{Q:VK}{us:List Value}{vs:List V}(M:Mk X.K C f)(F:FnOk X.prog X.w X.K X.mg X.base CX k f fd ps sp)(hr:Room (k+1) X.A)(hb:Binds X.K fd ps ds)(hd:Vals dvs ds)
 (hx:Passes CX X E) (I:Inv X pins σ H s) (r:Vals vs us)
 (h:∀ x dx,H x=none->H dx=none->dx≠x->sp (.ref x::(vs++dvs)) (upd (upd H dx (.own x)) x (.ins C dx [])) (fun v H2=>v=.non/\Q (.ref x) H2) E) :
 wpAny (model X.prog X.w) X.A (call (.ref C) us) (EP X pins σ Q) X.xe s:=by
 have hq:=h (s.heap.objs.size+1) s.heap.objs.size (I.hok.fresh (Nat.le_succ _)) (I.hok.fresh (Nat.le_refl _)) (Nat.ne_of_lt (Nat.lt_succ_self _));have I2:=Inv.made (C:=C) I;have r2:Vals (V.ref (s.heap.objs.size+1)::(vs++dvs)) (Value.ref (s.heap.objs.size+1)::(us++ds)):=.cons rfl (r.append hd);have hl:(Value.ref (s.heap.objs.size+1)::us++ds).length=ps.length:=by
  have e:=r2.length;rw[F.len _ _ _ _ hq]at e;exact e.symm
 refine wpAny_call (make_map (f:=f) I.kIn M.makes M.init (beq_iff_eq.mp M.fn) (codeAny_mono (F.run _ X.stack _ _ ⟨Value.ref (s.heap.objs.size+1)::us,[]⟩ (Value.ref (s.heap.objs.size+1)::(us++ds)) _ _ E (hr.make C us [])
  (I2.env0.make C us []) (hb _ (Value.ref (s.heap.objs.size+1)::us) I2.kIn hl) r2 hq) fun r s' hq'=>?_))
 cases r with
 | error e=>exact hx pins σ _ _ e s' I2 hq'
 | ok fl=>
   cases fl with
   | ret u=>
     obtain⟨v,H',I3,rv,ev,q3⟩:=I2.after hq';subst ev;exact⟨rv,⟨V.ref (s.heap.objs.size+1),H',I3,rfl,q3⟩⟩
   | next=>exact False.elim hq'
   | brk=>exact False.elim hq'
   | cont=>exact False.elim hq'
theorem pe_make(M:Mk X.K C f)(F:FnOk X.prog X.w X.K X.mg X.base CX k f fd ps sp)(hr:Room (k+1) X.A)(hg:Gl X x)(hm:X.mg x=some (.ref C))(hb:Binds X.K fd ps ds)(hd:Vals dvs ds)(hx:Passes CX X E)
 (ha:PA X (e::es) t) (hdb:(x == ("__debug__":Str))=false:=by decide) (he:starEach (e::es) X.env=(false,eval e X.env)::starEach es X.env:=by rfl) (hpl:(backTo pos (starEach es X.env)).any (·.1)=false:=by rfl) :
 PE X (.Call (.Name x p) (e::es) [] pos) (tMake C sp dvs E t):=by
 intro pins s σ H Q I h;refine wpAny_Call_Name_kw (ld_glob I hg hm ?_ hdb);refine W.callWith_K (h₀:=X.base) I.ok.mod.kin M.kp (thn (ha pos pins s σ H _ I h) fun us s1 ⟨vs,H1,I1,r,q⟩=>⟨I1.kIn,?_⟩) he hpl;exact run_make M F hr hb hd hx I1 r q
theorem pe_make0(M:Mk X.K C f)(F:FnOk X.prog X.w X.K X.mg X.base CX k f fd ps sp)(hr:Room (k+1) X.A)(hg:Gl X x)(hm:X.mg x=some (.ref C))(hb:Binds X.K fd ps ds)(hd:Vals dvs ds)(hx:Passes CX X E)
 (hdb:(x == ("__debug__":Str))=false:=by decide):PE X (.Call (.Name x p) [] [] pos) (tMake C sp dvs E tNil):=by
 intro pins s σ H Q I h;refine wpAny_Call_Name_kw (ld_glob I hg hm ?_ hdb);exact W.callWith_K0 I.kIn M.kp (run_make (us:=[]) M F hr hb hd hx I .nil h)
end
section
variable{X:Cx}{CX:CXT}{k:Nat}{f C:Addr}{fd:FuncData}{ps ks:List Str}{sp:Sp}{E:XK}{x m:Str}{p pos apos kpos:Pos}{e o:Expr}{es:List Expr}{kws:List Keyword}{te ta:TE}{t tk:TA}{nm:Option Str}
variable{g:List Value->List Value->List Value}{gV:List V->List V->List V}
end
structure FnScope(N P:List Str)(sc:Scope):Prop where
 kind:sc.kind=.function
 co:sc.isCoroutine=false
 gen:sc.isGenerator=false
 nd:N.Nodup
 pre:N.take P.length=P
 par:∀ x∈P,sc.names.lookup x=some .local∨sc.names.lookup x=some .cell
 nofree:∀ y∈sc.names,y.2 ≠ .free
theorem bindL_out{kindOf:Str->Option NameKind}{x:Str}:∀{binds:List (Str×Value)}{m:Str->Option Value},(∀ v,(x,v)∉binds)->bindL kindOf binds m x=m x
 | [],_,_=>rfl
 | (n,v)::r,m,h=>by
   unfold bindL;rw[bindL_out fun w hw=>h w (List.mem_cons_of_mem _ hw)];split
   · have:x≠n:=by rintro rfl;exact h v List.mem_cons_self
     simp[this]
   rfl
theorem bindC_out{kindOf:Str->Option NameKind}{x:Str}:∀{binds:List (Str×Value)}{m:Str->Option Value},(∀ v,(x,v)∉binds)->bindC kindOf binds m x=m x
 | [],_,_=>rfl
 | (n,v)::r,m,h=>by
   unfold bindC;rw[bindC_out fun w hw=>h w (List.mem_cons_of_mem _ hw)];split
   · rfl
   have:x≠n:=by rintro rfl;exact h v List.mem_cons_self
   simp[this]
theorem bindL_get{kindOf:Str->Option NameKind}{x:Str}{v:Value}:∀{P:List Str}{vs:List Value}{i:Nat}{m:Str->Option Value},P.Nodup->P[i]?=some x->vs[i]?=some v->kindOf x=some .local ->
 bindL kindOf (P.zip vs) m x=some v
 | [],_,_,_,_,h,_,_=>by simp at h
 | _::_,[],_,_,_,_,h,_=>by simp at h
 | p::P,w::vs,0,m,nd,h1,h2,hk=>by
   simp at h1 h2;subst h1;subst h2;show bindL kindOf ((p,w)::P.zip vs) m p=_;unfold bindL;rw[bindL_out fun v hv=>(List.nodup_cons.mp nd).1 (List.of_mem_zip hv).1,if_pos hk];simp
 | p::P,w::vs,i+1,m,nd,h1,h2,hk=>by
   show bindL kindOf ((p,w)::P.zip vs) m x=_;unfold bindL;exact bindL_get (i:=i) (List.nodup_cons.mp nd).2 (by simpa using h1) (by simpa using h2) hk
theorem bindC_get{kindOf:Str->Option NameKind}{x:Str}{v:Value}:∀{P:List Str}{vs:List Value}{i:Nat}{m:Str->Option Value},P.Nodup->P[i]?=some x->vs[i]?=some v->kindOf x≠some .local ->
 bindC kindOf (P.zip vs) m x=some v
 | [],_,_,_,_,h,_,_=>by simp at h
 | _::_,[],_,_,_,_,h,_=>by simp at h
 | p::P,w::vs,0,m,nd,h1,h2,hk=>by
   simp at h1 h2;subst h1;subst h2;show bindC kindOf ((p,w)::P.zip vs) m p=_;unfold bindC;rw[bindC_out fun v hv=>(List.nodup_cons.mp nd).1 (List.of_mem_zip hv).1,if_neg hk];simp
 | p::P,w::vs,i+1,m,nd,h1,h2,hk=>by
   show bindC kindOf ((p,w)::P.zip vs) m x=_;unfold bindC;exact bindC_get (i:=i) (List.nodup_cons.mp nd).2 (by simpa using h1) (by simpa using h2) hk
noncomputable def start(N:List Str)(vs:List V):St:=vs.map some++List.replicate (N.length - vs.length) none
noncomputable def cxOf(CX:CXT)(P:Program)(w:World)(K:W.Frag)(mg:Str->Option Value)(base:Heap)(N:List Str)(qual:Str)(scope:Scope)(f:Addr)(cd:Value)(A:Around)(outer:List Env)(s:Shared)(H:Hp)(E:XK):Cx where
 prog:=P
 w:=w
 K:=K
 mg:=mg
 base:=base
 A:=A.deeper (envOfC qual scope s.heap.objs.size f cd)
 N:=N
 s₀:=s
 H₀:=H
 env:=envOfC qual scope s.heap.objs.size f cd
 outer:=outer
 stack:=envOfC qual scope s.heap.objs.size f cd::outer
 ex:=[]
 calm:=true
 fn:=fun _=>true
 pn:=[]
 xe:=fun e s'=>wpAny (model P w) (A.deeper (envOfC qual scope s.heap.objs.size f cd)) (leaving (envOfC qual scope s.heap.objs.size f cd) e) (fun _ s''=>CX outer H s E e s'') (fun e' s''=>CX outer H s E e' s'') s'
theorem cell_has{sc:Scope}{n:Nat}{x:Str}(h:sc.names.lookup x=some .cell):∃ c,(cellsFrom n sc.names []).lookup x=some c:=by
 have q:=W.cellsFrom_some sc.names n [] (.inl h);exact Option.isSome_iff_exists.mp q
theorem inv_start{CX:CXT}{P:Program}{w:World}{K:W.Frag}{mg:Str->Option Value}{base:Heap}{N ps:List Str}{qual:Str}{scope:Scope}{f:Addr}{cd:Value}{A:Around}{outer:List Env}{s s1:Shared}{H:Hp}{E:XK}{us:List Value}{vs:List V}
 (S:FnScope N ps scope) (hd:A.handled=none) (e0:Env0 P w K mg base A outer s H) (hl:vs.length=ps.length) (r:Vals vs us)
 (x:InCallC s s.heap.objs.size (bindL (envOfC qual scope s.heap.objs.size f cd).kindOf (ps.zip us) fun _=>none) (cellsFrom (s.heap.objs.size+1) scope.names []) (bindC (envOfC qual scope s.heap.objs.size f cd).kindOf (ps.zip us) fun _=>none) s1) :
 Inv (cxOf CX P w K mg base N qual scope f cd A outer s H E) [] (start N vs) H s1:=by
 have hpl:ps.length<=N.length:=by have:=congrArg List.length S.pre;rw[List.length_take]at this;omega
 obtain⟨h1,tk,rfl,hk⟩:=x.done;have noA:∀ b:Addr,b∉(cxOf CX P w K mg base N qual scope f cd A outer s H E).ex:=fun b z=>absurd (show b∈([]:List Addr)from z) (by simp)
 refine⟨⟨e0.mod,S.kind,rfl,rfl,Nat.le_refl _,fun y z c h1 h2=>?_,fun y hy=>?_,fun y c _ h=>?_,fun _=>hd,Around.frames_deeper e0.frames,.inr ⟨rfl,rfl⟩,fun b z=>absurd z (noA b),e0.bs,e0.bsz,fun b _ _=>noA b,fun b z=>absurd z (noA b),e0.funs,e0.frf⟩,
  rfl,e0.bare,Un.kept hk,⟨_,x.toInCall.ns,fun i y v h1 h2 h3=>?_⟩,fun y c h=>⟨_,x.cell y c h⟩,e0.hok.fresh (Nat.le_refl _),fun y c h=>?_,fun p hp=>absurd (show p∈([]:List (Addr×Obj))from hp) (by simp),e0.hok.kept hk,?_⟩
 · exact name_of_addr x.apart (PySem.mem_of_lookup h1) (PySem.mem_of_lookup h2)
 · have hy:scope.names.lookup y=some .cell∨scope.names.lookup y=some .free:=hy
   rcases hy with hy | hy
   · exact cell_has hy
   exact absurd rfl (S.nofree _ (PySem.mem_of_lookup hy))
 · exact Nat.le_of_lt (x.above y c (PySem.mem_of_lookup h))
 · have hi:i < vs.length:=by
    unfold start at h2;by_cases hi:i < vs.length
    · exact hi
    rw[List.getElem?_append_right (by simpa using hi)]at h2
    rw[List.getElem?_replicate]at h2;split at h2 <;> cases h2
   have ha:vs[i]?=some v:=by
    unfold start at h2;rw[List.getElem?_append_left (by simpa using hi),List.getElem?_map]at h2
    cases e:vs[i]? with
    | none=>rw[e]at h2;cases h2
    | some a=>rw[e]at h2;cases h2;rfl
   obtain⟨u,hu,rv⟩:=r.get ha;have hp:ps[i]?=some y:=by
    rw[← S.pre,List.getElem?_take_of_lt (by omega)];exact h1
   have ndP:ps.Nodup:=by rw[← S.pre];exact S.nd.sublist (List.take_sublist _ _)
   refine⟨u,rv,?_⟩;rcases S.par y (List.mem_of_getElem? hp)with k | k
   · exact .inl ⟨k,bindL_get ndP hp hu k⟩
   obtain⟨c,e⟩:=cell_has (n:=s.heap.objs.size+1) k;refine .inr ⟨.inl k,c,e,?_⟩;have q:=x.cell y c e;rw[bindC_get ndP hp hu (by show scope.names.lookup y≠_;rw[k];decide)]at q
   exact q
 · exact e0.hok.fresh (Nat.le_of_lt (x.above y c (PySem.mem_of_lookup h)))
 unfold start;show _=N.length;rw[List.length_append,List.length_map,List.length_replicate];omega
theorem fn_of{CX:CXT}{P:Program}{w:World}{K:W.Frag}{mg:Str->Option Value}{base:Heap}{k:Nat}{f:Addr}{name qual:Str}{params:Arguments}{body:List Stmt}{scope:Scope}{dV kV doc pm cdv ct oc:Value}{an od:Option Addr}
 {osl:Array (Option Value)}{N ps:List Str}{sp:Sp} (lk:K.lookup f=some ⟨oc,od,.func (W.fnOf name qual params body scope dV kV doc pm an cdv ct),osl⟩) (hcd:W.codeIn K cdv qual=true) (S:FnScope N ps scope)
 (len:∀ vs H Q E,sp vs H Q E->vs.length=ps.length)
 (hbody:∀(A:Around) (outer:List Env) (s:Shared) (H:Hp) (vs:List V) (Q:VK) (E:XK),Room k (A.deeper (envOfC qual scope s.heap.objs.size f cdv))->sp vs H Q E ->
  ∃ t,PSs (cxOf CX P w K mg base N qual scope f cdv A outer s H E) body t/\t { nx:=fun _ H'=>Q .non H',rt:=Q } (start N vs) H) :
 FnOk P w K mg base CX (k+1) f (W.fnOf name qual params body scope dV kV doc pm an cdv ct) ps sp:=by
 refine⟨len,fun A outer s H args us vs Q E hr e0 hb r hsp=>?_⟩;have hl:=len _ _ _ _ hsp;have KX:K.In s.heap:=e0.mod.kin.keeps fun b o e=>(e0.bs b o e).1;have lim:s.heap.NoLimit:=e0.mod.nolimit.keeps fun b o e=>(e0.bs b o e).1;have hkind:∀ y∈ps.zip us,scope.names.lookup y.1=some .local∨(scope.names.lookup y.1=some .cell/\((cellsFrom (s.heap.objs.size+1) scope.names []).lookup y.1).isSome=true):=fun⟨n,v⟩ hy=>by
  rcases S.par n (List.of_mem_zip hy).1 with q | q
  · exact .inl q
  exact .inr ⟨q,W.cellsFrom_some _ _ _ (.inl q)⟩
 refine codeAny_call_function hr.depth (KX _ _ lk) rfl S.co S.gen rfl (W.codeRec_of KX hcd) (hb _ _ _ _ ?_);refine wpAny_newFunctionEnv_cells S.kind hkind fun env he s1 x=>?_;subst he;refine⟨lim.keeps x.toInCall.keep,codeAny_func ?_⟩;obtain⟨t,ht,hq⟩:=hbody A outer s H vs Q E (hr.deeper _) hsp;have I:Inv (cxOf CX P w K mg base N qual scope f cdv A outer s H E) [] (start N vs) H s1:=inv_start S hr.hd e0 hl r x;refine wpAny_mono (ht [] s1 (start N vs) H _ I hq) (fun fl s' hs=>?_) fun e s' hs=>hs;have fin:∀{σ':St}{H':Hp}{v:V}{u:Value},Inv (cxOf CX P w K mg base N qual scope f cdv A outer s H E) [] σ' H' s'->RelV v u->Q v H'->CE outer P w H s Q u s':=
  fun {σ' H' v u} J rv q=>⟨v,H',J.os,J.bare,J.base,J.hok,rv,q⟩
 cases fl with
 | ret u=>
   obtain⟨v,σ',H',J,rv,q⟩:=hs;exact fin J rv q
 | next=>
   obtain⟨σ',H',J,q⟩:=hs;exact fin (v:=V.non) (u:=Value.none) J rfl q
 | brk=>
   obtain⟨_,_,_,q⟩:=hs;exact False.elim q
 | cont=>
   obtain⟨_,_,_,q⟩:=hs;exact False.elim q
end L2
namespace L2
open PySem PySem.Spec PyProof.Rows
section
variable{X:Cx}{x:Str}{p pos:Pos}{e:Expr}{es:List Expr}{t:TA}{id T:String}{r:List V->Hp->VK->Prop}
noncomputable def tCB(r:List V->Hp->VK->Prop)(t:TA):TE:=fun σ H Q=>t σ H fun vs H1=>r vs H1 Q
theorem pe_callB(hc:CallR X (.builtin id) r)(hg:Gl X x)(hm:X.mg x=none)(hv:bootBuiltins x=some (.builtin id))(ha:PA X (e::es) t)(hn:x ≠ "__name__":=by decide)(hdb:(x == ("__debug__":Str))=false:=by decide)
 (he:starEach (e::es) X.env=(false,eval e X.env)::starEach es X.env:=by rfl) (hpl:(backTo pos (starEach es X.env)).any (·.1)=false:=by rfl):PE X (.Call (.Name x p) (e::es) [] pos) (tCB r t):=by
 intro pins s σ H Q I h;refine wpAny_Call_Name_kw (ld_blt I hg hm hv ?_ hn hdb);exact PyProof.Rows.callWith_builtin1 (thn (ha pos pins s σ H _ I h) fun us s1 ⟨vs,H1,I1,r1,q1⟩=>hc pins s1 σ H1 vs us Q I1 r1 q1) he hpl
theorem pe_callTy(hc:CallR X (.type T) r)(hg:Gl X x)(hm:X.mg x=none)(hv:bootBuiltins x=some (.type T))(ha:PA X (e::es) t)(hn:x ≠ "__name__":=by decide)(hdb:(x == ("__debug__":Str))=false:=by decide)
 (he:starEach (e::es) X.env=(false,eval e X.env)::starEach es X.env:=by rfl) (hpl:(backTo pos (starEach es X.env)).any (·.1)=false:=by rfl):PE X (.Call (.Name x p) (e::es) [] pos) (tCB r t):=by
 intro pins s σ H Q I h;refine wpAny_Call_Name_kw (ld_blt I hg hm hv ?_ hn hdb);exact PyProof.Rows.callWith_type1 (thn (ha pos pins s σ H _ I h) fun us s1 ⟨vs,H1,I1,r1,q1⟩=>hc pins s1 σ H1 vs us Q I1 r1 q1) he hpl
end
end L2
namespace HT
open PySem PyProof.Rows
section
open PySem.SeqAt
open PySem.AutoSeq1 (wpAny_loadPart')
open PySem.MeetsSeq PySem.MeetsSeq2 PySem.MeetsSeq3
end
section
variable{prog:Program}{w:World}{A:Around}{E:Value->Shared->Prop}{s:Shared}
noncomputable def sIx(n d:Nat):Option Int->Nat
 | none=>d
 | some v=>if v < 0 then(v+(n:Int)).toNat else min v.toNat n
theorem sIx_none(n d:Nat):sIx n d none=d:=rfl
theorem sIx_nat(n d k:Nat):sIx n d (some (k:Int))=min k n:=by
 show(if(k:Int) < 0 then((k:Int)+(n:Int)).toNat else min (k:Int).toNat n)=min k n;rw[if_neg (by omega),Int.toNat_natCast]
end
end HT
namespace L2
open PySem PySem.Spec PyProof.Rows
noncomputable abbrev TO:=St->Hp->(Option Int->Hp->Prop)->Prop
noncomputable def PO(X:Cx)(e:Option Expr)(t:TO):Prop:=
 ∀(pins:List (Addr×Obj)) (s:Shared) (σ:St) (H:Hp) (Q:Option Int->Hp->Prop),Inv X pins σ H s->t σ H Q ->
   wpAny (model X.prog X.w) X.A (evalPart e X.env) (fun u s'=>∃ o H',Inv X pins σ H' s'/\IsPart u o/\Q o H') X.xe s
noncomputable def tNoPart:TO:=fun _ H Q=>Q none H
noncomputable def tPart(t:TE):TO:=fun σ H Q=>t σ H fun x H1=>∃ i,x=.int i/\Q (some i) H1
theorem intsAre_of{ns:List Int}:∀{us:List Value},Vals (ns.map V.int) us->IntsAre us ns:=by
 induction ns with
 | nil=>intro us r;rw[List.map_nil]at r;cases r;exact .nil
 | cons n ns ih=>
   intro us r;rw[List.map_cons]at r;cases r with
   | cons r1 r2=>
     obtain⟨t,e⟩:=r1;subst e;exact .cons n t (ih r2)
section
variable{X:Cx}{e:Expr}{te:TE}{lo hi:Option Expr}{tl th:TO}{pos p2:Pos}
theorem po_none:PO X none tNoPart:=by
 intro pins s σ H Q I h;rw[evalPart_none];exact wpAny_pure ⟨none,H,I,.none,h⟩
theorem po_some(h:PE X e te):PO X (some e) (tPart te):=by
 intro pins s σ H Q I hw;rw[evalPart_some];refine thn (h pins s σ H _ I hw) fun u s1 zz=>?_;obtain⟨x,H1,I1,r1,q1⟩:=zz;obtain⟨i,rfl,q⟩:=q1;obtain⟨t,rfl⟩:=r1;exact⟨some i,H1,I1,.int i t,q⟩
noncomputable def SlR(X:Cx)(r:V->Option Int->Option Int->Hp->VK->Prop):Prop:=
 ∀(pins:List (Addr×Obj)) (s:Shared) (σ:St) (H:Hp) (x:V) (v vl vu:Value) (lo hi:Option Int) (sl:Addr) (Q:VK),Inv X pins σ H s->RelV x v->s.heap.IsSliceOf sl vl vu .none->IsPart vl lo->IsPart vu hi->r x lo hi H Q ->
   ∃ T id,typeLookup (.type T) "__getitem__"=pure (some (.builtin id))/\s.TypeIs v T/\wpAny (model X.prog X.w) X.A (getItem v (.ref sl)) (EP X pins σ Q) X.xe s
noncomputable def tSl(r:V->Option Int->Option Int->Hp->VK->Prop)(te:TE)(tl th:TO):TE:=fun σ H Q=>te σ H fun x H1=>tl σ H1 fun l H2=>th σ H2 fun u H3=>r x l u H3 Q
theorem pe_slice{r:V->Option Int->Option Int->Hp->VK->Prop}(hr:SlR X r)(he:PE X e te)(hl:PO X lo tl)(hu:PO X hi th):PE X (.Subscript e (.Slice lo hi none p2) pos) (tSl r te tl th):=by
 intro pins s σ H Q I h;refine Subscript_ (thn (he pins s σ H _ I h) fun v s1 zz=>?_);obtain⟨x,H1,I1,r1,q1⟩:=zz;refine wpAny_Slice (thn (hl pins s1 σ H1 _ I1 q1) fun vl s2 ⟨l,H2,I2,pl,q2⟩=>thn (hu pins s2 σ H2 _ I2 q2) fun vu s3 zz=>?_);obtain⟨u,H3,I3,pu,q3⟩:=zz;rw[evalPart_none];refine wpAny_pure ?_;have I4:Inv X pins σ H3 { s3 with heap:=s3.heap.push { cls:=.type "slice",data:=.fields #[vl,vu,.none] } }:=I3.kept (t':=s3.toks) fun b ob q=>Heap.get?_push_of_some _ q;obtain⟨T,id,hT,ht,hg⟩:=hr pins { s3 with heap:=s3.heap.push { cls:=.type "slice",data:=.fields #[vl,vu,.none] } } σ H3 x v vl vu l u s3.heap.objs.size Q I4 r1 (Heap.IsSliceOf.new ..) pl pu q3;show wpAny (model X.prog X.w) X.A (subscriptTail e (.Slice lo hi none p2) v (.ref s3.heap.objs.size)) (EP X pins σ Q) X.xe { s3 with heap:=s3.heap.push { cls:=.type "slice",data:=.fields #[vl,vu,.none] } };exact tail_any (ops:=[.ref s3.heap.objs.size,v]) ht hT hg (by with_unfolding_all rfl)
noncomputable def cutV(xs:List V)(lo hi:Option Int):List V:=(xs.drop (HT.sIx xs.length 0 lo)).take (HT.sIx xs.length xs.length hi - HT.sIx xs.length 0 lo)
theorem cutV_length(xs:List V)(lo hi:Option Int):(cutV xs lo hi).length<=xs.length:=by
 unfold cutV;rw[List.length_take,List.length_drop];omega
end
end L2
namespace L2
open PySem PySem.Spec PyProof.Rows
noncomputable def ixN(n:Nat)(i:Int):Option Nat:=if 0<=i then(if i < n then some i.toNat else none)else if -(n:Int)<=i then some (i+n).toNat else none
noncomputable def atI{α:Type}(xs:List α)(i:Int):Option α:=(ixN xs.length i).bind fun j=>xs[j]?
theorem ixN_seq{n:Nat}{i:Int}{j:Nat}(h:ixN n i=some j):seqIndex? i n=some j/\j < n /\ -(n:Int)<=i/\i < n:=by
 unfold ixN at h;by_cases h0:0<=i
 · rw[if_pos h0]at h
   by_cases h1:i < n
   · rw[if_pos h1]at h
     have e:i.toNat=j:=Option.some.inj h;exact⟨by rw[seqIndex_of h0 h1,e],by omega,by omega,h1⟩
   rw[if_neg h1]at h;cases h
 rw[if_neg h0]at h;by_cases h1:-(n:Int)<=i
 · rw[if_pos h1]at h
   have e:(i+n).toNat=j:=Option.some.inj h;exact⟨by rw[seqIndex_neg (by omega) h1,e],by omega,h1,by omega⟩
 rw[if_neg h1]at h;cases h
theorem atI_get{α:Type}{xs:List α}{i:Int}{v:α}(h:atI xs i=some v):∃ j,seqIndex? i xs.length=some j/\xs[j]?=some v/\j < xs.length /\ -(xs.length:Int)<=i/\i < xs.length:=by
 unfold atI at h;cases e:ixN xs.length i with
 | none=>rw[e]at h;cases h
 | some j=>
   rw[e]at h;obtain⟨h1,h2,h3,h4⟩:=ixN_seq e;exact⟨j,h1,h,h2,h3,h4⟩
theorem atI_nat{α:Type}{xs:List α}{j:Nat}{v:α}(h:xs[j]?=some v):atI xs (j:Int)=some v:=by
 have hj:j < xs.length:=(List.getElem?_eq_some_iff.mp h).1;have e:ixN xs.length (j:Int)=some j:=by
  unfold ixN;rw[if_pos (by omega),if_pos (by omega)];simp
 unfold atI;rw[e];exact h
noncomputable def PlainIx(b:Expr):Prop:=∀ o i,subscripted b false o i=operate [o,i] (getItem o i)
noncomputable def IxR(X:Cx)(r:R2):Prop:=
 ∀(value slice:Expr) (pins:List (Addr×Obj)) (s:Shared) (σ:St) (H:Hp) (x y:V) (v u:Value) (Q:VK),Inv X pins σ H s->RelV x v->RelV y u->r x y H Q ->
   subscripted slice false v u=operate [v,u] (getItem v u)->wpAny (model X.prog X.w) X.A (subscriptTail value slice v u) (EP X pins σ Q) X.xe s
noncomputable def MtR(X:Cx)(id:String)(r:V->List V->Hp->VK->Prop):Prop:=
 ∀(pins:List (Addr×Obj)) (s:Shared) (σ:St) (H:Hp) (x:V) (xs:List V) (v:Value) (us:List Value) (Q:VK),Inv X pins σ H s->RelV x v->Vals xs us->r x xs H Q ->
   wpAny (model X.prog X.w) X.A (call (.builtin id) (v::us)) (EP X pins σ Q) X.xe s
section
variable{X:Cx}{a b:Expr}{ta tb:TE}{pos:Pos}
theorem pe_ix{r:R2}(hr:IxR X r)(ha:PE X a ta)(hb:PE X b tb)(hs:PlainIx b):PE X (.Subscript a b pos) (tOp r ta tb):=by
 intro pins s σ H Q I h;exact Subscript_ (binT ha hb I h fun v u s2 x y H2 I2 rx ry q=>hr a b pins s2 σ H2 x y v u Q I2 rx ry q (hs _ _))
noncomputable def rIxL(K:W.Frag):R2:=fun x y H Q=>∃ p xs i v,x=.ref p/\y=.int i/\SqL K H p xs/\atI xs i=some v/\Q v H
noncomputable def rIxT(K:W.Frag):R2:=fun x y H Q=>∃ p xs i v,x=.ref p/\y=.int i/\SqT K H p xs/\atI xs i=some v/\Q v H
theorem ix_list:IxR X (rIxL X.K):=by
 intro value slice pins s σ H x y v u Q I rx ry h hs;obtain⟨p,xs,i,z,rfl,rfl,hq,he,q⟩:=h;cases rx;obtain⟨t,rfl⟩:=ry;obtain⟨its,r,pl,hz⟩:=I.list hq;obtain⟨j,h1,h2,h3,h4,h5⟩:=atI_get he;obtain⟨w,ew,rw'⟩:=r.get h2;have hl:=r.length;have hn:=line63;have fin:EP X pins σ Q w s:=⟨z,H,I,rw',q⟩;by_cases h0:0<=i
 · have hj:i.toNat=j:=by
    rw[seqIndex_of h0 h5]at h1;exact Option.some.inj h1
   exact item_listR pl.isList h0 (by omega) (by rw[hj];simpa using ew) fin hs
 have hj:(i+(its.toArray.size:Int)).toNat=j:=by
  rw[seqIndex_neg (by omega) h4]at h1
  rw[List.size_toArray,← hl];exact Option.some.inj h1
 exact subscriptTail_builtinR (x:=w) pl.isList.typeIs slot_list_getitem.lookup
  (wpAny_getItem_list_neg (Q:=fun r s'=>r=w/\EP X pins σ Q r s') pl.isList (by omega) (by rw[List.size_toArray] <;> omega) (by omega) (by rw[hj];simpa using ew) ⟨rfl,fin⟩) hs
theorem ix_tup:IxR X (rIxT X.K):=by
 intro value slice pins s σ H x y v u Q I rx ry h hs;obtain⟨p,xs,i,z,rfl,rfl,hq,he,q⟩:=h;cases rx;obtain⟨t,rfl⟩:=ry;obtain⟨its,r,pl,hz⟩:=I.tuple hq;obtain⟨j,h1,h2,h3,h4,h5⟩:=atI_get he;obtain⟨w,ew,rw'⟩:=r.get h2;have hl:=r.length;have hn:=line63;have fin:EP X pins σ Q w s:=⟨z,H,I,rw',q⟩;exact subscriptTail_builtinR (x:=w) pl.typeIs slot_tuple_getitem.lookup
  (getItem_tuple (j:=j) (Q:=fun r s'=>r=w/\EP X pins σ Q r s') pl (by omega) (by omega) (by rw[List.size_toArray,← hl];exact h1) (by simpa using ew) ⟨rfl,fin⟩) hs
theorem mapSeq_set(its:List Value)(n j:Nat)(u:Value):Obj.mapSeq (·.setIfInBounds j u) { cls:=.type "list",data:=.seq its.toArray n }={ cls:=.type "list",data:=.seq (its.set j u).toArray n }:=by
 simp[Obj.mapSeq]
theorem Inv.lst{pins:List (Addr×Obj)}{σ:St}{H:Hp}{s:Shared}{p:Addr}{xs:List V}(I:Inv X pins σ H s)(h:H p=some (.lst xs)) :
 ∃(its:List Value) (n:Nat),Vals xs its/\s.heap.get? p=some { cls:=.type "list",data:=.seq its.toArray n } /\ xs.length<=sizeLine:=by
 obtain⟨z,its,n,r,e⟩:=I.hok p _ h;exact⟨its,n,r,e,z⟩
theorem Inv.lstUpd{pins:List (Addr×Obj)}{σ:St}{H:Hp}{s:Shared}{p:Addr}{xs ys:List V}{its its':List Value}{n n':Nat}{f:Obj->Obj}(I:Inv X pins σ H s)(h:H p=some (.lst xs))
 (ho:s.heap.get? p=some { cls:=.type "list",data:=.seq its.toArray n }) (hf:f { cls:=.type "list",data:=.seq its.toArray n }={ cls:=.type "list",data:=.seq its'.toArray n' }) (r:Vals ys its') (hz:ys.length<=sizeLine) (t:Nat) :
 Inv X pins σ (upd H p (.lst ys)) { s with heap:=s.heap.update p f,toks:=t }:=by
 have e:(s.heap.update p f).get? p=some { cls:=.type "list",data:=.seq its'.toArray n' }:=by
  rw[Heap.get?_update_self f ho (by rw[hf] <;> rfl),hf]
 refine I.write (x:=p) (e:=p) (by rw[h];trivial) (.inl rfl) (fun b u hb q=>(Heap.get?_update_other _ _ (Ne.symm hb)).trans q) ⟨_,e⟩ ?_
 exact⟨hz,its',n',r,e⟩
noncomputable def rSetL:V->V->V->Hp->(Hp->Prop)->Prop:=fun o i v H Q=>∃ p xs k j,o=.ref p/\i=.int k/\H p=some (.lst xs)/\ixN xs.length k=some j/\Q (upd H p (.lst (xs.set j v)))
theorem set_list:PSet X rSetL:=by
 intro pins s σ H o i v ov iv u Q I ro ri rv h;obtain⟨p,xs,k,j,rfl,rfl,hp,hj,q⟩:=h;cases ro;obtain⟨t,rfl⟩:=ri;obtain⟨its,n,r,ho,hz⟩:=I.lst hp;obtain⟨h1,h2,h3,h4⟩:=ixN_seq hj;have hl:=r.length;have hn:=line63;have I':Inv X pins σ (upd H p (.lst (xs.set j v))) { s with heap:=s.heap.update p (Obj.mapSeq (·.setIfInBounds j u)) }:=
  I.lstUpd hp ho (mapSeq_set its n j u) (r.set rv j) (by rw[List.length_set];exact hz) s.toks
 by_cases h0:0<=k
 · have hk:k.toNat=j:=by
    rw[seqIndex_of h0 h4]at h1;exact Option.some.inj h1
   exact W.ki_setAt ho h0 (by omega) (by rw[List.size_toArray,← hl];exact h4) (by rw[hk];exact⟨_,I',q⟩)
 have hk:(k+(its.toArray.size:Int)).toNat=j:=by
  rw[seqIndex_neg (by omega) h3]at h1
  rw[List.size_toArray,← hl];exact Option.some.inj h1
 exact W.ki_setBack ho (by omega) (by rw[List.size_toArray,← hl];exact h3) (by omega) (by rw[hk];exact⟨_,I',q⟩)
theorem slice_bounds(lo hi:Option Int)(n:Nat):(sliceBounds lo hi none n).1=((HT.sIx n 0 lo:Nat):Int)/\(sliceBounds lo hi none n).2.1=((HT.sIx n n hi:Nat):Int)/\(sliceBounds lo hi none n).2.2=1:=by
 refine⟨?_,?_,rfl⟩
 · cases lo with
   | none=>simp[sliceBounds,HT.sIx]
   | some i=>
     simp only[sliceBounds,HT.sIx,Option.getD_none,show(1:Int) > 0 by decide,if_true]
     by_cases h:i < 0
     · simp only[h,if_true] <;> omega
     simp only[h,if_false] <;> omega
 cases hi with
 | none=>simp[sliceBounds,HT.sIx]
 | some i=>
   simp only[sliceBounds,HT.sIx,Option.getD_none,show(1:Int) > 0 by decide,if_true]
   by_cases h:i < 0
   · simp only[h,if_true] <;> omega
   simp only[h,if_false] <;> omega
theorem slicePick_cut(its:List Value)(lo hi:Option Int):slicePick its.toArray lo hi none=((its.drop (HT.sIx its.length 0 lo)).take (HT.sIx its.length its.length hi - HT.sIx its.length 0 lo)).toArray:=by
 obtain⟨h1,h2,h3⟩:=slice_bounds lo hi its.toArray.size;unfold slicePick;rw[h1,h2,h3];simp only[sliceRange_one,pick_run,List.size_toArray] <;> rfl
noncomputable def rSlL(K:W.Frag):V->Option Int->Option Int->Hp->VK->Prop:=fun x lo hi H Q=>∃ a xs,x=.ref a/\SqL K H a xs /\ ∀ p,H p=none->Q (.ref p) (upd H p (.lst (cutV xs lo hi)))
theorem sl_list:SlR X (rSlL X.K):=by
 intro pins s σ H x v vl vu lo hi sl Q I rx hs pl pu h;obtain⟨a,xs,rfl,hx,q⟩:=h;cases rx;obtain⟨its,r,ht,hz⟩:=I.list hx;have hlen:=r.length;refine⟨"list",_,slot_list_getitem.lookup,ht.isList.typeIs,?_⟩;refine wpAny_getItem_list_slice ht.isList hs pl pu .none (by simp) ?_ (by rw[List.size_toArray] <;> omega)
 rw[slicePick_cut,← hlen];refine⟨.ref s.heap.objs.size,_,I.laid (t':=s.toks) (o:=.lst (cutV xs lo hi)) (fun b ob q=>Heap.get?_push_of_some _ q) (Nat.le_refl _) ?_,rfl,q _ (I.hok.fresh (Nat.le_refl _))⟩;exact⟨Nat.le_trans (cutV_length xs lo hi) hz,_,0,(r.drop (HT.sIx xs.length 0 lo)).take (HT.sIx xs.length xs.length hi - HT.sIx xs.length 0 lo),Heap.get?_push_size _ rfl⟩
noncomputable def flatV:V->Bool
 | .non=>true
 | .bl _=>true
 | .int _=>true
 | .str _=>true
 | _=>false
noncomputable def eqV:V->V->Bool
 | .non,.non=>true
 | .bl a,.bl b=>a == b
 | .bl a,.int b=>(if a then 1 else 0) == b
 | .int a,.bl b=>a == (if b then 1 else 0)
 | .int a,.int b=>a == b
 | .str a,.str b=>a == b
 | _,_=>false
theorem eqAt_V{A:Around}{s:Shared}{y x:V}{u v:Value}(ry:RelV y u)(rx:RelV x v)(fy:flatV y=true)(fx:flatV x=true):SeqAt.EqAt A s u v (eqV y x):=by
 cases y with
 | non=>
   cases ry;cases x with
   | non=>cases rx;exact SeqAt.EqAt.same _
   | bl b=>cases rx;exact SeqAt.EqAt.none_bool b
   | int b=>obtain⟨t,rfl⟩:=rx;exact SeqAt.EqAt.none_int b t
   | str b=>obtain⟨t,rfl⟩:=rx;exact SeqAt.EqAt.none_str b t
   | _=>exact absurd (show false=true from fx) Bool.false_ne_true
 | bl a=>
   cases ry;cases x with
   | non=>cases rx;exact SeqAt.EqAt.bool_none a
   | bl b=>cases rx;exact SeqAt.EqAt.bool_bool a b
   | int b=>obtain⟨t,rfl⟩:=rx;exact SeqAt.EqAt.bool_int a b t
   | str b=>obtain⟨t,rfl⟩:=rx;exact SeqAt.EqAt.bool_str a b t
   | _=>exact absurd (show false=true from fx) Bool.false_ne_true
 | int a=>
   obtain⟨t',rfl⟩:=ry;cases x with
   | non=>cases rx;exact SeqAt.EqAt.int_none a t'
   | bl b=>cases rx;exact SeqAt.EqAt.int_bool a t' b
   | int b=>obtain⟨t,rfl⟩:=rx;exact SeqAt.EqAt.int_int a t' b t
   | str b=>obtain⟨t,rfl⟩:=rx;exact SeqAt.EqAt.int_str a t' b t
   | _=>exact absurd (show false=true from fx) Bool.false_ne_true
 | str a=>
   obtain⟨t',rfl⟩:=ry;cases x with
   | non=>cases rx;exact SeqAt.EqAt.str_none a t'
   | bl b=>cases rx;exact SeqAt.EqAt.str_bool a t' b
   | int b=>obtain⟨t,rfl⟩:=rx;exact SeqAt.EqAt.str_int a t' b t
   | str b=>obtain⟨t,rfl⟩:=rx;exact SeqAt.EqAt.str_str a t' b t
   | _=>exact absurd (show false=true from fx) Bool.false_ne_true
 | _=>exact absurd (show false=true from fy) Bool.false_ne_true
noncomputable def eqU(x:V)(u:Value):Bool:=match u with
 | .none=>eqV .non x
 | .bool b=>eqV (.bl b) x
 | .int i _=>eqV (.int i) x
 | .str z _=>eqV (.str z) x
 | _=>false
theorem eqU_of{x y:V}{u:Value}(r:RelV y u)(f:flatV y=true):eqU x u=eqV y x:=by
 cases y with
 | non=>cases r;rfl
 | bl b=>cases r;rfl
 | int i=>obtain⟨t,rfl⟩:=r;rfl
 | str z=>obtain⟨t,rfl⟩:=r;rfl
 | _=>exact absurd (show false=true from f) Bool.false_ne_true
theorem any_eqU{x:V}:∀{xs:List V}{us:List Value},Vals xs us->xs.all flatV=true->us.any (eqU x)=xs.any fun y=>eqV y x
 | _,_,.nil,_=>rfl
 | y::xs,u::us,.cons r t,f=>by
   rw[List.all_cons,Bool.and_eq_true]at f;rw[List.any_cons,List.any_cons,eqU_of r f.1,any_eqU t f.2]
theorem mem_eqAt{A:Around}{s:Shared}{x:V}{v:Value}(rx:RelV x v)(fx:flatV x=true):∀{xs:List V}{us:List Value},Vals xs us->xs.all flatV=true -> ∀ u∈us,SeqAt.EqAt A s u v (eqU x u)
 | _,_,.nil,_=>fun u hu=>by cases hu
 | y::xs,u::us,.cons r t,f=>fun u' hu=>by
   rw[List.all_cons,Bool.and_eq_true]at f;rcases List.mem_cons.mp hu with rfl | hu
   · rw[eqU_of r f.1];exact eqAt_V r rx f.1 fx
   exact mem_eqAt rx fx t f.2 u' hu
noncomputable def inV(x:V)(xs:List V):Bool:=xs.any fun y=>eqV y x
noncomputable def rIn(K:W.Frag)(neg:Bool):R2:=fun x y H Q=>∃ p xs,y=.ref p/\(SqL K H p xs∨SqT K H p xs)/\flatV x=true/\xs.all flatV=true/\Q (.bl (if neg then !inV x xs else inV x xs)) H
theorem op_in_seq:OpR X (compareOp .In) (rIn X.K false):=by
 intro pins s σ H x y v u Q I rx ry h;obtain⟨p,xs,rfl,hq,fx,fs,q⟩:=h;cases ry;rcases hq with hq | hq
 · obtain⟨its,r,pl,hz⟩:=I.list hq
   refine SeqAt.in_listAt (eqU x) pl.isList (fun w hw=>mem_eqAt rx fx r fs w (by simpa using hw)) ⟨.bl _,H,I,rfl,?_⟩
   rw[show its.toArray.any (eqU x)=its.any (eqU x) by simp,any_eqU r fs]
   exact q
 obtain⟨its,r,pl,hz⟩:=I.tuple hq;refine SeqAt.in_tupleAt (eqU x) pl (fun w hw=>mem_eqAt rx fx r fs w (by simpa using hw)) ⟨.bl _,H,I,rfl,?_⟩
 rw[show its.toArray.any (eqU x)=its.any (eqU x) by simp,any_eqU r fs]
 exact q
theorem call_len_seq:CallR X (.builtin "len") (fun xs H Q=>∃ p ys,xs=[.ref p]/\(SqL X.K H p ys∨SqT X.K H p ys)/\Q (.int ys.length) H):=by
 intro pins s σ H xs us Q I r h;obtain⟨p,ys,rfl,hq,q⟩:=h;obtain⟨u,rfl,rx⟩:=vals1 r;cases rx;have hn:=line63;rcases hq with hq | hq
 · obtain⟨its,r',pl,hz⟩:=I.list hq
   have hlen:=r'.length;exact Calls.call_len_list pl.isList (by simp only[List.size_toArray] <;> omega) ⟨.int ys.length,H,I.tok _,⟨s.toks+1,by rw[List.size_toArray,hlen]⟩,q⟩
 obtain⟨its,r',pl,hz⟩:=I.tuple hq;have hlen:=r'.length;exact len_tuple pl (by simp only[List.size_toArray] <;> omega) ⟨.int ys.length,H,I.tok _,⟨s.toks+1,by rw[List.size_toArray,hlen]⟩,q⟩
theorem call_len_str:CallR X (.builtin "len") (fun xs H Q=>∃ z,xs=[.str z]/\z.length<=sizeLine/\Q (.int z.length) H):=by
 intro pins s σ H xs us Q I r h;obtain⟨z,rfl,hz,q⟩:=h;obtain⟨u,rfl,t,rfl⟩:=vals1 r;have hn:=line63;exact len_str (by omega) ⟨.int z.length,H,I.tok _,⟨_,rfl⟩,q⟩
theorem call_tuple_of:CallR X (.type "tuple") (fun xs H Q=>∃ p ys,xs=[.ref p]/\((SqL X.K H p ys /\ ∀ l,H l=none->Q (.ref l) (upd H l (.tup ys)))∨(SqT X.K H p ys/\Q (.ref p) H))):=by
 intro pins s σ H xs us Q I r h;obtain⟨p,ys,rfl,h⟩:=h;obtain⟨u,rfl,rx⟩:=vals1 r;cases rx;rcases h with ⟨hq,q⟩ | ⟨hq,q⟩
 · obtain⟨its,r',pl,hz⟩:=I.list hq
   have hlen:=r'.length;refine call_tuple_list pl.isList (fun h' kp=>?_) (by simp only[List.size_toArray] <;> omega)
   have I1:Inv X pins σ H { s with heap:=h' }:=I.kept (t':=s.toks) kp;have I2:Inv X pins σ (upd H h'.objs.size (.tup ys)) { s with heap:=h'.push { cls:=.type "tuple",data:=.seq its.toArray } }:=
    I1.laid (t':=s.toks) (fun b o e=>Heap.get?_push_of_some _ e) (Nat.le_refl _) (show ObjOk X.prog X.w _ _ _ (.tup ys)from⟨hz,its,r',IsTup.new _ _⟩)
   exact⟨.ref h'.objs.size,_,I2,rfl,q _ (I1.hok.fresh (Nat.le_refl _))⟩
 obtain⟨its,r',pl,hz⟩:=I.tuple hq;exact call_tuple_same pl ⟨.ref p,H,I,rfl,q⟩
noncomputable def tyV(K:W.Frag)(T:String)(x:V)(H:Hp):Prop:=match x with
 | .str _=>T="str"
 | .int _=>T="int"
 | .ref p=>(T="list" /\ ∃ xs,SqL K H p xs)∨(T="tuple" /\ ∃ o,K.lookup p=some o/\o.cls=.type "tuple" /\ o.dict=none) ∨
  (T="dict" /\ ((∃ kvs,H p=some (.dK kvs)) ∨ ∃ kvs,H p=some (.dT kvs)))∨(T="set" /\ ∃ S n,H p=some (.set S n))
 | _=>False
theorem tyV_is{pins:List (Addr×Obj)}{σ:St}{H:Hp}{s:Shared}{T:String}{x:V}{v:Value}(I:Inv X pins σ H s)(r:RelV x v)(ty:tyV X.K T x H) :
 s.TypeIs v T /\ ∀ a,v=.ref a -> ∃ ob,s.heap.get? a=some ob/\ob.dict=none:=by
 cases x with
 | str z=>
   obtain⟨t,rfl⟩:=r;cases (show T="str" from ty);exact⟨typeIs_str s z t,fun _ e=>nomatch e⟩
 | int i=>
   obtain⟨t,rfl⟩:=r;cases (show T="int" from ty);exact⟨typeIs_int s i t,fun _ e=>nomatch e⟩
 | ref p=>
   cases r;rcases ty with ⟨rfl,xs,hq⟩ | ⟨rfl,o,hk,hc,hd⟩ | ⟨rfl,hk⟩ | ⟨rfl,S,n,hk⟩
   · obtain⟨its,_,pl,_⟩:=I.list hq
     refine⟨pl.isList.typeIs,fun a e=>?_⟩;cases e;obtain⟨o,n,e,c,hd,_⟩:=pl;exact⟨o,e,hd⟩
   · refine⟨⟨o,I.kIn p o hk,hc⟩,fun a e=>?_⟩
     cases e;exact⟨o,I.kIn _ o hk,hd⟩
   · have z:∃ o,s.heap.get? p=some o/\o.ExactDict:=by
      rcases hk with ⟨kvs,hk⟩ | ⟨kvs,hk⟩
      · obtain⟨_,_,_,_,o,_,_,e,ex,_⟩:=I.hok p _ hk
        exact⟨o,e,ex⟩
      obtain⟨_,_,_,_,o,_,_,e,ex,_⟩:=I.hok p _ hk;exact⟨o,e,ex⟩
     obtain⟨o,e,ex⟩:=z;refine⟨⟨o,e,ex.1⟩,fun a e2=>?_⟩;cases e2;exact⟨o,e,ex.2.1⟩
   obtain⟨o,_,_,_,e,ex,_⟩:=I.hok p _ hk;refine⟨⟨o,e,ex.1⟩,fun a e2=>?_⟩;cases e2;exact⟨o,e,ex.2.1⟩
 | _=>exact False.elim ty
noncomputable def tBM(K:W.Frag)(T:String)(r:V->List V->Hp->VK->Prop)(to:TE)(t:TA):TE:=fun σ H Q=>to σ H fun x H1=>tyV K T x H1/\t σ H1 fun xs H2=>r x xs H2 Q
variable{o e:Expr}{es:List Expr}{to:TE}{t:TA}{name:Str}{apos cpos:Pos}{T id:String}{r:V->List V->Hp->VK->Prop}
theorem pe_bm(pa:PlainAttrs T)(slot:Slot T name id)(hty:typeOf (.builtin id)=pure (.type "method_descriptor"))(hm:MtR X id r)(ho:PE X o to)(ha:PA X (e::es) t)
 (hbase:attributeBase o name X.env (eval o X.env)=eval o X.env:=by rfl)
 (hfew:((backTo cpos (starEach (e::es) X.env)).all (fun x=>!x.1) && (backToKw cpos (keywordEach [] X.env)).all (fun x=>x.1.isSome)
  && decide ((e::es).length+([]:List Keyword).length+(if([]:List Keyword).isEmpty then 0 else 1) < 30))=true:=by rfl)
 (hline:(apos.endLine == cpos.line)=true:=by rfl) (hs:starEach (e::es) X.env=(false,eval e X.env)::starEach es X.env:=by rfl) (hplain:(backTo cpos (starEach es X.env)).any (·.1)=false:=by rfl) :
 PE X (.Call (.Attribute o name apos) (e::es) [] cpos) (tBM X.K T r to t):=by
 intro pins s σ H Q I h;refine wpAny_Call_method_late hbase hfew hline rfl (thn (ho pins s σ H _ I h) fun v s1 zz=>?_);obtain⟨x,H1,I1,r1,ty,q1⟩:=zz;obtain⟨h1,h2⟩:=tyV_is I1 r1 ty;refine⟨T,id,pa,slot,hty,h1,h2,?_⟩;have hA:=ha cpos pins s1 σ H1 _ I1 q1;rw[hs]at hA ⊢;refine Calls.callWith_builtin (by show(false || (backTo cpos (starEach es X.env)).any (·.1))=false;rw[hplain] <;> rfl) (Calls.evalArgs_plain ?_)
 exact thn hA fun us s2 ⟨vs,H2,I2,r2,q2⟩=>hm pins s2 σ H2 x vs v us Q I2 r1 r2 q2
/- xs.append(e),list.index on a module's tuple .. are MtR facts of 06m -/
end
end L2
namespace L2
open PySem PySem.Spec PyProof.Rows
noncomputable def MtM(X:Cx)(id:String)(r:V->List V->Hp->VK->Prop):Prop:=
 ∀(pins:List (Addr×Obj)) (s:Shared) (σ:St) (H:Hp) (x:V) (xs:List V) (v:Value) (us:List Value) (Q:VK),Inv X pins σ H s->RelV x v->Vals xs us->r x xs H Q ->
   wpAny (model X.prog X.w) X.A (call (.builtin id) (v::us)) (EP X pins σ Q) X.xe s
theorem Vals.one:∀{x:V}{us:List Value},Vals [x] us -> ∃ u,us=[u]/\RelV x u
 | _,_,.cons r .nil=>⟨_,rfl,r⟩
section
variable{X:Cx}{pins:List (Addr×Obj)}{σ:St}{H:Hp}{s:Shared}{l b:Addr}{xs ys zs:List V}
theorem Inv.lset{its its':List Value}{n:Nat}{f:Array Value->Array Value}{t':Nat}(I:Inv X pins σ H s)(hH:H l=some (.lst xs))
 (e:s.heap.get? l=some { cls:=.type "list",data:=.seq its.toArray n }) (hf:f its.toArray=its'.toArray) (hv:Vals ys its') (hz:ys.length<=sizeLine) :
 Inv X pins σ (upd H l (.lst ys)) { s with heap:=s.heap.update l (Obj.mapSeq f),toks:=t' }:=by
 have q:=PySem.IsL.update e f;rw[hf]at q;refine I.write (x:=l) (e:=l) (by rw[hH];exact trivial) (.inl rfl) (fun b' u hb hu=>(Heap.get?_update_other s.heap (Obj.mapSeq f) (Ne.symm hb)).trans hu) ⟨_,q⟩ ?_
 exact⟨hz,its',_,hv,q⟩
theorem Inv.lnew{its:List Value}{t':Nat}(I:Inv X pins σ H s)(hv:Vals ys its)(hz:ys.length<=sizeLine) :
 Inv X pins σ (upd H s.heap.objs.size (.lst ys)) { s with heap:=s.heap.push { cls:=.type "list",data:=.seq its.toArray },toks:=t' }:=
 I.laid (fun _ _ q=>Heap.get?_push_of_some _ q) (Nat.le_refl _) ⟨hz,its,0,hv,Heap.get?_push_size _ rfl⟩
theorem Inv.fresh(I:Inv X pins σ H s):H s.heap.objs.size=none:=I.hok.fresh (Nat.le_refl _)
theorem Inv.lstM(I:Inv X pins σ H s)(hH:H l=some (.lst xs)):xs.length<=sizeLine /\ ∃(its:List Value) (n:Nat),Vals xs its/\xs.length=its.length/\s.heap.get? l=some { cls:=.type "list",data:=.seq its.toArray n }:=by
 obtain⟨z,its,n,r,e⟩:=I.hok l _ hH;exact⟨z,its,n,r,r.length,e⟩
theorem notLongL{n:Nat}(h:n<=sizeLine):Builtin.List.listTooLong n=false:=by
 unfold Builtin.List.listTooLong;exact decide_eq_false (by omega)
end
section
variable{X:Cx}
noncomputable def rAppend:V->List V->Hp->VK->Prop:=fun x vs H Q=>∃ l xs y,x=.ref l/\vs=[y]/\H l=some (.lst xs)/\xs.length < sizeLine/\Q .non (upd H l (.lst (xs++[y])))
theorem mt_append:MtM X "list.append" rAppend:=by
 intro pins s σ H x vs v us Q I rx rv h;obtain⟨l,xs,y,rfl,rfl,hH,hz,q⟩:=h;cases rx;obtain⟨u,rfl,ru⟩:=rv.one;obtain⟨z,its,n,r,hl,e⟩:=I.lstM hH;refine call_meets F.slot_list_append ⟨_,e,rfl⟩ F.entry_list_append (F.args_list_append_2 _ _) (PySem.list_append l its.toArray n u (by rw[List.size_toArray];omega)) ⟨e,?_⟩
 refine⟨.non,_,I.lset (its':=its++[u]) hH e (by simp) (r.append (.cons ru .nil)) ?_,rfl,q⟩
 rw[List.length_append,List.length_singleton];omega
noncomputable def rExtend:V->List V->Hp->VK->Prop:=fun x vs H Q=>∃ l b xs zs,x=.ref l/\vs=[.ref b]/\H l=some (.lst xs)/\H b=some (.lst zs)/\xs.length+zs.length<=sizeLine/\Q .non (upd H l (.lst (xs++zs)))
theorem mt_extend:MtM X "list.extend" rExtend:=by
 intro pins s σ H x vs v us Q I rx rv h;obtain⟨l,b,xs,zs,rfl,rfl,hH,hB,hz,q⟩:=h;cases rx;obtain⟨u,rfl,ru⟩:=rv.one;cases ru;obtain⟨z,its,n,r,hl,e⟩:=I.lstM hH;obtain⟨z2,its2,n2,r2,hl2,e2⟩:=I.lstM hB;have hsz:its.toArray.size+its2.toArray.size<=sizeLine:=by rw[List.size_toArray,List.size_toArray];omega
 have hlong:¬ (!its.toArray.isEmpty && Builtin.List.listTooLong (its.toArray.size+its2.toArray.size))=true:=by
  rw[notLongL hsz,Bool.and_false];exact Bool.false_ne_true
 refine call_meets F.slot_list_extend ⟨_,e,rfl⟩ F.entry_list_extend (F.args_list_extend_2 _ _)
  (AutoSeq1.list_extend_list_list_0 l its.toArray n b its2.toArray n2 hlong (by rw[List.size_toArray];omega) (by omega)) ⟨e,e2,?_⟩
 refine⟨.non,_,I.lset (its':=its++its2) hH e (by simp) (r.append r2) ?_,rfl,q⟩
 rw[List.length_append];omega
noncomputable def rCat:R2:=fun x y H Q=>∃ l b xs zs,x=.ref l/\y=.ref b/\H l=some (.lst xs)/\H b=some (.lst zs)/\xs.length+zs.length<=sizeLine /\ ∀ p,H p=none->Q (.ref p) (upd H p (.lst (xs++zs)))
theorem op_cat:OpR X (binaryOp .Add) rCat:=by
 intro pins s σ H x y v u Q I rx ry h;obtain⟨l,b,xs,zs,rfl,rfl,hH,hB,hz,q⟩:=h;cases rx;cases ry;obtain⟨z,its,n,r,hl,e⟩:=I.lstM hH;obtain⟨z2,its2,n2,r2,hl2,e2⟩:=I.lstM hB;refine PySem.P.add_list e e2 ?_ (by rw[List.size_toArray,List.size_toArray];omega)
 have ea:its.toArray++its2.toArray=(its++its2).toArray:=by simp
 rw[ea];exact⟨.ref _,_,I.lnew (t':=s.toks) (r.append r2) (by rw[List.length_append];omega),rfl,q _ I.fresh⟩
end
section
variable{prog:Program}{w:World}{A:Around}{E:Value->Shared->Prop}{s:Shared}
set_option maxRecDepth 100000 in
end
section
variable{X:Cx}
end
end L2
namespace L2
open PySem PySem.Spec PyProof.Rows
section
variable{κ:Type}[DecidableEq κ]
noncomputable def valV(kvs:List (κ × V))(k:κ):Option V:=(kvs.find? fun kv=>decide (kv.1=k)).map (·.2)
noncomputable def putK(kvs:List (κ × V))(k:κ)(v:V):List (κ × V):=
 if(kvs.any fun kv=>decide (kv.1=k))=true then kvs.map (fun kv=>if kv.1=k then(kv.1,v)else kv)else kvs++[(k,v)]
noncomputable def dropK(kvs:List (κ × V))(k:κ):List (κ × V):=kvs.filter fun kv=>decide (kv.1≠k)
theorem valV_pos{p:κ × V}{r:List (κ × V)}{k:κ}(e:p.1=k):valV (p::r) k=some p.2:=by simp[valV,List.find?_cons,e]
theorem valV_neg{p:κ × V}{r:List (κ × V)}{k:κ}(e:¬ p.1=k):valV (p::r) k=valV r k:=by simp[valV,List.find?_cons,e]
theorem valV_any(k:κ):∀ kvs:List (κ × V),(kvs.any fun kv=>decide (kv.1=k))=(valV kvs k).isSome
 | []=>rfl
 | p::r=>by
   rw[List.any_cons];by_cases e:p.1=k
   · simp only[valV_pos e,decide_eq_true e,Bool.true_or,Option.isSome_some]
   rw[valV_neg e,decide_eq_false e,Bool.false_or];exact valV_any k r
theorem valV_map(k j:κ)(y:V):∀ kvs:List (κ × V),valV (kvs.map fun kv=>if kv.1=k then(kv.1,y)else kv) j=(valV kvs j).map fun x=>if j=k then y else x
 | []=>rfl
 | p::r=>by
   have ih:=valV_map k j y r;rw[List.map_cons];by_cases h:p.1=k
   · rw[if_pos h]
     by_cases e:p.1=j
     · rw[valV_pos (p:=(p.1,y)) e,valV_pos e,Option.map_some,if_pos (e.symm.trans h)]
     rw[valV_neg (p:=(p.1,y)) e,valV_neg e,ih]
   rw[if_neg h];by_cases e:p.1=j
   · rw[valV_pos (p:=p) e,valV_pos e,Option.map_some,if_neg (fun z=>h (e.trans z))]
   rw[valV_neg (p:=p) e,valV_neg e,ih]
theorem valV_snoc(k j:κ)(y:V):∀ kvs:List (κ × V),valV kvs k=none->valV (kvs++[(k,y)]) j=if j=k then some y else valV kvs j
 | [],_=>by
   by_cases e:k=j
   · rw[if_pos e.symm];exact valV_pos (p:=(k,y)) e
   rw[if_neg (fun z=>e z.symm)];exact valV_neg (p:=(k,y)) e
 | p::r,hn=>by
   rw[List.cons_append];have hk:¬ p.1=k:=fun z=>by rw[valV_pos z]at hn;cases hn
   rw[valV_neg hk]at hn;have ih:=valV_snoc k j y r hn;by_cases e:p.1=j
   · rw[valV_pos e,valV_pos e,if_neg (fun z=>hk (e.trans z))]
   rw[valV_neg e,valV_neg e,ih]
theorem valV_put(kvs:List (κ × V))(k j:κ)(y:V):valV (putK kvs k y) j=if j=k then some y else valV kvs j:=by
 unfold putK;by_cases a:(kvs.any fun kv=>decide (kv.1=k))=true
 · rw[if_pos a,valV_map]
   rw[valV_any]at a;by_cases e:j=k
   · obtain⟨x,hx⟩:=Option.isSome_iff_exists.mp a
     rw[if_pos e,e,hx,Option.map_some,if_pos rfl]
   rw[if_neg e];cases valV kvs j with
   | none=>rfl
   | some x=>rw[Option.map_some,if_neg e]
 rw[if_neg a];refine valV_snoc k j y kvs ?_;rw[valV_any]at a;cases q:valV kvs k with
 | none=>rfl
 | some x=>rw[q]at a;exact(a rfl).elim
theorem length_putK(kvs:List (κ × V))(k:κ)(v:V):(putK kvs k v).length<=kvs.length+1:=by
 unfold putK;split
 · rw[List.length_map];omega
 rw[List.length_append,List.length_cons,List.length_nil];omega
theorem RelO.isSome_eq{o:Option V}{u:Option Value}(r:RelO o u):o.isSome=u.isSome:=by
 cases o with
 | none=>cases u with
   | none=>rfl
   | some _=>exact(show False from r).elim
 | some _=>cases u with
   | none=>exact(show False from r).elim
   | some _=>rfl
theorem RelO.getD{o:Option V}{u:Option Value}{d:V}{d':Value}(r:RelO o u)(rd:RelV d d'):RelV (o.getD d) (u.getD d'):=by
 cases o with
 | none=>cases u with
   | none=>exact rd
   | some _=>exact(show False from r).elim
 | some _=>cases u with
   | none=>exact(show False from r).elim
   | some _=>exact r
theorem KV.val{kvs:List (κ × V)}{vs:List (κ × Value)}(r:KV kvs vs)(k:κ):RelO (valV kvs k) (valueAt vs k):=by
 unfold KV at r
 induction r with
 | nil=>exact True.intro
 | @cons p q ps qs h t ih=>
   obtain⟨h1,h2⟩:=h;by_cases e:p.1=k
   · have e':q.1=k:=h1.symm.trans e
     have b:valueAt (q::qs) k=some q.2:=by simp[valueAt,List.find?_cons,e']
     rw[valV_pos e,b];exact h2
   have e':¬ q.1=k:=fun z=>e (h1.trans z);have b:valueAt (q::qs) k=valueAt qs k:=by simp[valueAt,List.find?_cons,e']
   rw[valV_neg e,b];exact ih
theorem KV.any{kvs:List (κ × V)}{vs:List (κ × Value)}(r:KV kvs vs)(k:κ):(kvs.any fun kv=>decide (kv.1=k))=vs.any fun kv=>decide (kv.1=k):=by
 unfold KV at r
 induction r with
 | nil=>rfl
 | cons h t ih=>rw[List.any_cons,List.any_cons,ih,h.1]
theorem KV.repl{kvs:List (κ × V)}{vs:List (κ × Value)}(r:KV kvs vs)(k:κ){y:V}{u:Value}(ry:RelV y u) :
 KV (kvs.map fun kv=>if kv.1=k then(kv.1,y)else kv) (vs.map fun kv=>if kv.1=k then(kv.1,u)else kv):=by
 unfold KV at r ⊢
 induction r with
 | nil=>exact .nil
 | @cons p q ps qs h t ih=>
   rw[List.map_cons,List.map_cons];refine .cons ?_ ih;obtain⟨h1,h2⟩:=h;by_cases e:p.1=k
   · rw[if_pos e,if_pos (h1.symm.trans e)];exact⟨h1,ry⟩
   rw[if_neg e,if_neg (fun z=>e (h1.trans z))];exact⟨h1,h2⟩
theorem KV.put{kvs:List (κ × V)}{vs:List (κ × Value)}(r:KV kvs vs)(k:κ){y:V}{u:Value}(ry:RelV y u):KV (putK kvs k y) (stored vs k u):=by
 unfold putK stored;rw[r.any k];by_cases e:(vs.any fun kv=>decide (kv.1=k))=true
 · rw[if_pos e,if_pos e];exact r.repl k ry
 rw[if_neg e,if_neg e];exact Paired.snoc r ⟨rfl,ry⟩
theorem KV.drop{kvs:List (κ × V)}{vs:List (κ × Value)}(r:KV kvs vs)(k:κ):KV (dropK kvs k) (without vs k):=by
 unfold KV at r ⊢;unfold dropK without
 induction r with
 | nil=>exact .nil
 | @cons p q ps qs h t ih=>
   obtain⟨h1,h2⟩:=h;rw[List.filter_cons,List.filter_cons];by_cases e:p.1=k
   · have a:¬ decide (p.1≠k)=true:=by simp[e]
     have b:¬ decide (q.1≠k)=true:=by simp[h1.symm.trans e]
     rw[if_neg a,if_neg b];exact ih
   have e':¬ q.1=k:=fun z=>e (h1.trans z);have a:decide (p.1≠k)=true:=by simp[e]
   have b:decide (q.1≠k)=true:=by simp[e']
   rw[if_pos a,if_pos b];exact .cons ⟨h1,h2⟩ ih
theorem KV.length{kvs:List (κ × V)}{vs:List (κ × Value)}(r:KV kvs vs):kvs.length=vs.length:=Paired.length r
theorem dropK_le(kvs:List (κ × V))(k:κ):(dropK kvs k).length<=kvs.length:=List.length_filter_le _ _
end
theorem kV_is{P:Program}{w:World}{k:Key}{u:Value}(r:RelV (kV k) u):(mixKind P w).is k u=true:=by
 cases k with
 | inl i=>obtain⟨t,e⟩:=(show ∃ t,u=Value.int i t from r);subst e;exact mixKind_int P w i t
 | inr x=>obtain⟨t,e⟩:=(show ∃ t,u=Value.str x t from r);subst e;exact mixKind_str P w x t
theorem items_are{P:Program}{w:World}:∀{ks:List Key}{us:List Value},Vals (ks.map kV) us->ItemsAre (mixKind P w) ks us
 | [],_,r=>by rw[List.map_nil]at r;cases r;exact .nil
 | k::ks,_,r=>by
   rw[List.map_cons]at r;cases r with
   | cons h t=>exact .cons (kV_is h) (items_are t)
noncomputable abbrev KT(H:Hp):List (List Key×V)->List (List Key×Addr×Value)->Prop:=Paired fun p q=>p.1=q.1/\H q.2.1=some (.tup (p.1.map kV))/\RelV p.2 q.2.2
theorem KT.val{H:Hp}{kvs:List (List Key×V)}{xs:List (List Key×Addr×Value)}(r:KT H kvs xs)(k:List Key):RelO (valV kvs k) ((atKey xs k).map (·.2)):=by
 induction r with
 | nil=>exact True.intro
 | @cons p q ps qs h t ih=>
   obtain⟨h1,_,h2⟩:=h;by_cases e:p.1=k
   · have e':q.1=k:=h1.symm.trans e
     have b:atKey (q::qs) k=some q.2:=by simp[atKey,List.find?_cons,e']
     rw[valV_pos e,b];exact h2
   have e':¬ q.1=k:=fun z=>e (h1.trans z);have b:atKey (q::qs) k=atKey qs k:=by simp[atKey,List.find?_cons,e']
   rw[valV_neg e,b];exact ih
theorem KT.repl{H:Hp}{kvs:List (List Key×V)}{xs:List (List Key×Addr×Value)}(r:KT H kvs xs)(k:List Key){y:V}{u:Value}(ry:RelV y u) :
 KT H (kvs.map fun kv=>if kv.1=k then(kv.1,y)else kv) (xs.map (putAt k u)):=by
 induction r with
 | nil=>exact .nil
 | @cons p q ps qs h t ih=>
   rw[List.map_cons,List.map_cons];refine .cons ?_ ih;obtain⟨h1,h2,h3⟩:=h;unfold putAt;by_cases e:p.1=k
   · rw[if_pos e,if_pos (h1.symm.trans e)];exact⟨h1,h2,ry⟩
   rw[if_neg e,if_neg (fun z=>e (h1.trans z))];exact⟨h1,h2,h3⟩
theorem KT.put{H:Hp}{kvs:List (List Key×V)}{xs:List (List Key×Addr×Value)}(r:KT H kvs xs)(k:List Key){b:Addr}{y:V}{u:Value}(hb:H b=some (.tup (k.map kV)))(ry:RelV y u) :
 KT H (putK kvs k y) (storedH xs k b u):=by
 have e:(kvs.any fun kv=>decide (kv.1=k))=(atKey xs k).isSome:=by
  rw[valV_any,(r.val k).isSome_eq,Option.isSome_map]
 unfold putK storedH;rw[e];by_cases q:(atKey xs k).isSome=true
 · rw[if_pos q,if_pos q];exact r.repl k ry
 rw[if_neg q,if_neg q];exact Paired.snoc r ⟨rfl,hb,ry⟩
theorem KT.keeps{H H':Hp}{kvs:List (List Key×V)}{xs:List (List Key×Addr×Value)}(r:KT H kvs xs)(ht:∀ b ys,H b=some (.tup ys)->H' b=some (.tup ys)):KT H' kvs xs:=
 Paired.mapP r fun _ _ z=>⟨z.1,ht _ _ z.2.1,z.2.2⟩
section
variable{P:Program}{w:World}{H:Hp}{h:Heap}{a:Addr}
theorem rd_of{u:HO}(ok:HOk P w H h)(e:Rd H a u):ObjOk P w H h a u:=e.ok ok
theorem dk_rd{kvs:List (Key×V)}(ok:HOk P w H h)(e:Rd H a (.dK kvs)):kvs.length<=sizeLine/\(a == sysModules)=false /\ ∃ vs,KV kvs vs/\h.DictOf (mixKind P w) a vs:=
 show ObjOk P w H h a (.dK kvs)from rd_of ok e
theorem dk_of{kvs:List (Key×V)}(ok:HOk P w H h)(e:H a=some (.dK kvs)):kvs.length<=sizeLine/\(a == sysModules)=false /\ ∃ vs,KV kvs vs/\h.DictOf (mixKind P w) a vs:=dk_rd ok (.inl e)
theorem key_of{ks:List Key}(ok:HOk P w H h)(e:H a=some (.tup (ks.map kV))):(tupleKind (mixKind P w)).is h ks a:=by
 obtain⟨_,its,r,o,h1,h2,n,h3⟩:=(show ObjOk P w H h a (.tup (ks.map kV))from ok a _ e);exact⟨o,its.toArray,n,h1,h2,h3,by simpa using items_are r⟩
theorem dt_rd{kvs:List (List Key×V)}(ok:HOk P w H h)(e:Rd H a (.dT kvs)):kvs.length<=sizeLine/\(a == sysModules)=false /\
 ∃ xs,KT H kvs xs/\h.DictOfH (tupleKind (mixKind P w)) a xs:=by
 obtain⟨z,y,xs,r,o,es,ep,h1,h2,h3,h4,h5⟩:=(show ObjOk P w H h a (.dT kvs)from rd_of ok e);refine⟨z,y,xs,r,o,es,ep,h1,h2,h3,h4,fun x hx=>?_,h5⟩;have all:∀{l:List (List Key×V)}{m:List (List Key×Addr×Value)},KT H l m -> ∀ x∈m,(tupleKind (mixKind P w)).is h x.1 x.2.1:=by
  intro l m q
  induction q with
  | nil=>intro x hx;exact nomatch hx
  | @cons p q ps qs hq t ih=>
    intro x hx;rcases List.mem_cons.mp hx with e | hx
    · subst e
      exact key_of ok (by rw[← hq.1];exact hq.2.1)
    exact ih x hx
 exact all r x hx
theorem dt_of{kvs:List (List Key×V)}(ok:HOk P w H h)(e:H a=some (.dT kvs)):kvs.length<=sizeLine/\(a == sysModules)=false /\
 ∃ xs,KT H kvs xs/\h.DictOfH (tupleKind (mixKind P w)) a xs:=dt_rd ok (.inl e)
end
noncomputable def DGet(H:Hp)(a:Addr)(y:V)(r:Option V):Prop:=
 (∃ kvs k,Rd H a (.dK kvs)/\y=kV k/\r=valV kvs k) ∨ ∃ kvs k b,Rd H a (.dT kvs)/\y=.ref b/\H b=some (.tup (k.map kV))/\r=valV kvs k
noncomputable def DPut(H:Hp)(a:Addr)(y v:V)(H':Hp):Prop:=
 (∃ kvs k,H a=some (.dK kvs)/\y=kV k/\kvs.length < sizeLine/\H'=upd H a (.dK (putK kvs k v))) ∨
 ∃ kvs k b,H a=some (.dT kvs)/\y=.ref b/\H b=some (.tup (k.map kV))/\kvs.length < sizeLine/\H'=upd H a (.dT (putK kvs k v))
theorem DGet.k{H:Hp}{a:Addr}{kvs:List (Key×V)}{k:Key}(e:H a=some (.dK kvs)):DGet H a (kV k) (valV kvs k):=.inl ⟨kvs,k,.inl e,rfl,rfl⟩
theorem DPut.k{H:Hp}{a:Addr}{kvs:List (Key×V)}{k:Key}{v:V}(e:H a=some (.dK kvs))(hl:kvs.length < sizeLine):DPut H a (kV k) v (upd H a (.dK (putK kvs k v))):=.inl ⟨kvs,k,e,rfl,hl,rfl⟩
section
variable{X:Cx}{pins:List (Addr×Obj)}{σ:St}{H:Hp}{s:Shared}{a:Addr}{y v:V}{u r:Value}{o:Option V}{A:Around}{E:Value->Shared->Prop}
theorem Inv.big(I:Inv X pins σ H s):sysModules < s.heap.objs.size:=by
 have h:mainGlobals < s.heap.objs.size:=(I.mod.glob.keeps I.bk).lt;exact Nat.lt_trans (by decide) h
theorem d_write{h':Heap}{t':Nat}{ob:HO}(I:Inv X pins σ H s)(mu:Mut (H a))(hs:Heap.SameBut a s.heap h')(he:∃ q,h'.get? a=some q)(new:ObjOk X.prog X.w (upd H a ob) h' a ob) :
 Inv X pins σ (upd H a ob) { s with heap:=h',toks:=t' }:=
 I.write (x:=a) (e:=a) mu (.inl rfl) (fun b q hb z=>(hs.2 b hb).trans z) he new
theorem dk_new{P:Program}{w:World}{H':Hp}{h':Heap}{kvs:List (Key×V)}{vs:List (Key×Value)}(z:kvs.length<=sizeLine)(hd:(a == sysModules)=false)(rel:KV kvs vs)(dd:h'.DictOf (mixKind P w) a vs) :
 ObjOk P w H' h' a (.dK kvs):=⟨z,hd,vs,rel,dd⟩
theorem d_setItem{H':Hp}{Q:Unit->Shared->Prop}(hu:A.units+1 < cLine)(I:Inv X pins σ H s)(g:DPut H a y v H')(ry:RelV y u)(rv:RelV v r)(h:∀ s',Inv X pins σ H' s'->Q () s') :
 wpAny (model X.prog X.w) A (setItem (.ref a) u r) Q E s:=by
 rcases g with ⟨kvs,k,e,ey,l,eH⟩ | ⟨kvs,k,b,e,ey,eb,l,eH⟩
 · subst ey eH
   obtain⟨z,hd,vs,rel,dd⟩:=dk_of I.hok e;have hz:vs.length<=sizeLine:=by rw[← rel.length];exact z
   have hl:(putK kvs k v).length<=sizeLine:=by have:=length_putK kvs k v;omega
   refine wpAny_setItem_pairs (hsz:=hz) (kV_is ry) dd fun h' dd' hs=>h _ ?_;have he:∃ q,h'.get? a=some q:=let⟨q,_,_,hq,_⟩:=dd';⟨q,hq⟩;exact d_write I (by rw[e];exact True.intro) hs he (dk_new hl hd (rel.put k rv) dd')
 subst ey eH;cases (show u=Value.ref b from ry);obtain⟨z,hd,xs,rel,dd⟩:=dt_of I.hok e;have hz:xs.length<=sizeLine:=by rw[← Paired.length rel];exact z
 have hl:(putK kvs k v).length<=sizeLine:=by have:=length_putK kvs k v;omega
 refine wpAny_setItem_heap (hsz:=hz) (tupleKind_room_in1 hu) (key_of I.hok eb) dd fun h' dd' hs=>h _ ?_;obtain⟨q,es,ep,hq,h2,h3,h4,_,h5⟩:=dd';refine d_write I (by rw[e];exact True.intro) hs ⟨q,hq⟩ ⟨hl,hd,_,(rel.put k eb rv).keeps fun c ys ec=>?_,q,es,ep,hq,h2,h3,h4,h5⟩
 rw[upd_ne (ne_of ec e (fun z=>nomatch z))];exact ec
end
section
variable{X:Cx}{pins:List (Addr×Obj)}{σ:St}{H:Hp}{s:Shared}{a:Addr}{kvs:List (Key×V)}{k:Key}{u:Value}{A:Around}{E:Value->Shared->Prop}
theorem d_pop{v:V}{more:List Value}{Q:Value->Shared->Prop}(I:Inv X pins σ H s)(e:H a=some (.dK kvs))(ry:RelV (kV k) u)(l:valV kvs k=some v)(hm:more=[] ∨ ∃ x,more=[x])
 (h:∀ w' s',Inv X pins σ (upd H a (.dK (dropK kvs k))) s'->RelV v w'->Q w' s'):wpAny (model X.prog X.w) A (call (.builtin "dict.pop") (.ref a::u::more)) Q E s:=by
 obtain⟨z,hd,vs,rel,dd⟩:=dk_of I.hok e;obtain⟨w',hw,rw'⟩:=RelO.some_of (v:=v) (o:=valueAt vs k) (by rw[← l];exact rel.val k)
 have hp:(keyPart u).isSome=true:=by
  cases k with
  | inl i=>obtain⟨t,q⟩:=(show ∃ t,u=Value.int i t from ry);subst q;rfl
  | inr x=>obtain⟨t,q⟩:=(show ∃ t,u=Value.str x t from ry);subst q;rfl
 have ha:argsOk "dict.pop" ⟨.ref a::u::more,[]⟩:=by
  rcases hm with q | ⟨x,q⟩
  · subst q;exact PySem.F.args_dict_pop_2 _ _
  subst q;exact PySem.F.args_dict_pop_3 _ _ _
 refine call_meetsIn PySem.F.slot_dict_pop dd.typeIs PySem.F.entry_dict_pop ha (meets_dict_pop_there (mixKind X.prog X.w) a (kV_is ry) more hm hp)
  ⟨vs,w',dd,by rw[← rel.length];exact z,hw,fun h' dd' hs=>h w' _ ?_ rw'⟩
 have he:∃ q,h'.get? a=some q:=let⟨q,_,_,hq,_⟩:=dd';⟨q,hq⟩;exact d_write I (by rw[e];exact True.intro) hs he (dk_new (Nat.le_trans (dropK_le kvs k) z) hd (rel.drop k) dd')
theorem d_popD{r:Value}{Q:Value->Shared->Prop}(I:Inv X pins σ H s)(e:H a=some (.dK kvs))(ry:RelV (kV k) u)(l:valV kvs k=none)(h:∀ s',Inv X pins σ H s'->Q r s') :
 wpAny (model X.prog X.w) A (call (.builtin "dict.pop") [.ref a,u,r]) Q E s:=by
 obtain⟨z,hd,vs,rel,dd⟩:=dk_of I.hok e;have hn:valueAt vs k=none:=RelO.none_of (by rw[← l];exact rel.val k)
 have hp:(keyPart u).isSome=true:=by
  cases k with
  | inl i=>obtain⟨t,q⟩:=(show ∃ t,u=Value.int i t from ry);subst q;rfl
  | inr x=>obtain⟨t,q⟩:=(show ∃ t,u=Value.str x t from ry);subst q;rfl
 exact call_meetsIn PySem.F.slot_dict_pop dd.typeIs PySem.F.entry_dict_pop (PySem.F.args_dict_pop_3 _ _ _) (meets_dict_pop_default (mixKind X.prog X.w) a (kV_is ry) hd hp r) ⟨vs,dd,hn,h _ (I.tok _)⟩
end
noncomputable def sDPut(td ty tv:TE):TS:=fun D σ H=>tv σ H fun v H1=>td σ H1 fun x H2=>ty σ H2 fun y H3=>∃ a H4,x=.ref a/\DPut H3 a y v H4/\D.nx σ H4
section
variable{X:Cx}{o i e value:Expr}{pos pos' tpos:Pos}{td ty tv:TE}
theorem ps_dput(hu:X.A.units+1 < cLine)(ho:PE X o td)(hi:PE X i ty)(hv:PE X value tv)(hs:swapsWith value (some (.Subscript o i pos')) pos.line X.env=pure false) :
 PS X (.Assign [.Subscript o i pos'] value pos) (sDPut td ty tv):=by
 intro pins s σ H D I h;refine wpAny_Assign_Subscript (thn (hv pins s σ H _ I h) fun r s1 ⟨v,H1,I1,rv,q1⟩=>thn (ho pins s1 σ H1 _ I1 q1) fun u s2 ⟨x,H2,I2,rx,q2⟩=>thn (hi pins s2 σ H2 _ I2 q2) fun iv s3 ⟨y,H3,I3,ry,a,H4,ex,g,q3⟩=>?_) hs;subst ex;obtain rfl:u=Value.ref a:=rx;exact d_setItem hu I3 g ry rv fun s4 I4=>⟨σ,H4,I4,q3⟩
end
theorem dk_empty{P:Program}{w:World}{H:Hp}(h:Heap)(hb:sysModules < h.objs.size):ObjOk P w H (h.push { cls:=.type "dict",data:=.dict #[] }) h.objs.size (.dK []):=
 ⟨Nat.zero_le _,beq_eq_false_iff_ne.mpr (Ne.symm (Nat.ne_of_lt hb)),[],.nil,Heap.DictOf.new h⟩
noncomputable def tDNewK:TE:=fun _ H Q=>∀ p,H p=none->Q (.ref p) (upd H p (.dK []))
section
variable{X:Cx}{pos:Pos}
theorem pe_dnewK:PE X (.Dict [] [] pos) tDNewK:=fun pins s σ H Q I h=>
 wpAny_Dict_empty ⟨.ref s.heap.objs.size,_,I.laid (a:=s.heap.objs.size) (o:=.dK []) (t':=s.toks) (fun _ _ q=>Heap.get?_push_of_some _ q) (Nat.le_refl _) (dk_empty s.heap I.big),rfl,h _ (I.hok.fresh (Nat.le_refl _))⟩
end
structure M1(X:Cx)(o:Expr)(m:Str)(apos:Pos)(e:Expr)(cpos:Pos):Prop where
 base:attributeBase o m X.env (eval o X.env)=eval o X.env
 few:((backTo cpos (starEach [e] X.env)).all (fun x=>!x.1) && (backToKw cpos (keywordEach [] X.env)).all (fun x=>x.1.isSome)
  && decide (([e]:List Expr).length+([]:List Keyword).length+(if([]:List Keyword).isEmpty then 0 else 1) < 30))=true
 line:(apos.endLine == cpos.line)=true
 trees:backTo cpos (starEach [e] X.env)=[(false,eval e X.env)]
structure M2(X:Cx)(o:Expr)(m:Str)(apos:Pos)(e f:Expr)(cpos:Pos):Prop where
 base:attributeBase o m X.env (eval o X.env)=eval o X.env
 few:((backTo cpos (starEach [e,f] X.env)).all (fun x=>!x.1) && (backToKw cpos (keywordEach [] X.env)).all (fun x=>x.1.isSome)
  && decide (([e,f]:List Expr).length+([]:List Keyword).length+(if([]:List Keyword).isEmpty then 0 else 1) < 30))=true
 line:(apos.endLine == cpos.line)=true
 trees:backTo cpos (starEach [e,f] X.env)=[(false,eval e X.env),(false,eval f X.env)]
noncomputable def IsD(H:Hp)(a:Addr):Prop:=(∃ kvs,Rd H a (.dK kvs)) ∨ ∃ kvs,Rd H a (.dT kvs)
theorem isD_at{X:Cx}{pins:List (Addr×Obj)}{σ:St}{H:Hp}{s:Shared}{a:Addr}(I:Inv X pins σ H s)(d:IsD H a) :
 s.TypeIs (.ref a) "dict" /\ (∀ b,Value.ref a=.ref b -> ∃ ob,s.heap.get? b=some ob/\ob.dict=none)/\(a == sysModules)=false:=by
 rcases d with ⟨kvs,e⟩ | ⟨kvs,e⟩
 · obtain⟨_,hd,vs,_,dd⟩:=dk_rd I.hok e
   refine⟨dd.typeIs,fun b q=>?_,hd⟩;cases q;obtain⟨ob,_,_,h1,h2,_⟩:=dd;exact⟨ob,h1,h2.2.1⟩
 obtain⟨_,hd,xs,_,dd⟩:=dt_rd I.hok e;refine⟨dd.typeIs,fun b q=>?_,hd⟩;cases q;obtain⟨ob,_,_,h1,h2,_⟩:=dd;exact⟨ob,h1,h2.2.1⟩
section
variable{X:Cx}{pins:List (Addr×Obj)}{σ:St}{H:Hp}{s:Shared}{a:Addr}{y d:V}{u r:Value}{o:Option V}{A:Around}{E:Value->Shared->Prop}
theorem d_get1{Q:Value->Shared->Prop}(hu:A.units+1 < cLine)(I:Inv X pins σ H s)(g:DGet H a y o)(ry:RelV y u)(h:∀ w' s',Inv X pins σ H s'->RelV (o.getD .non) w'->Q w' s') :
 wpAny (model X.prog X.w) A (call (.builtin "dict.get") [.ref a,u]) Q E s:=by
 rcases g with ⟨kvs,k,e,ey,l⟩ | ⟨kvs,k,b,e,ey,eb,l⟩
 · subst ey
   obtain⟨z,hd,vs,rel,dd⟩:=dk_rd I.hok e;refine call_meetsIn PySem.F.slot_dict_get dd.typeIs PySem.F.entry_dict_get (PySem.F.args_dict_get_2 _ _) (meets_dict_get (mixKind X.prog X.w) a (kV_is ry) hd) ⟨_,dd.mapOf,h _ _ (I.tok _) ?_⟩;rw[l];exact(rel.val k).getD rfl
 subst ey;cases (show u=Value.ref b from ry);obtain⟨z,hd,xs,rel,dd⟩:=dt_rd I.hok e;refine call_meetsIn PySem.F.slot_dict_get dd.typeIs PySem.F.entry_dict_get (PySem.F.args_dict_get_2 _ _) (meetsH_dict_get (tupleKind (mixKind X.prog X.w)) a b hd) ⟨tupleKind_room_in1 hu,k,xs,key_of I.hok eb,dd,h _ _ (I.tok _) ?_⟩;rw[l];exact(rel.val k).getD rfl
end
noncomputable def tDGet1(td ty:TE):TE:=fun σ H Q=>td σ H fun x H1=>∃ a,x=.ref a/\IsD H1 a/\ty σ H1 fun y H2=>∃ o,DGet H2 a y o/\Q (o.getD .non) H2
noncomputable def tDPop2(td ty tx:TE):TE:=fun σ H Q=>td σ H fun x H1=>∃ a,x=.ref a/\IsD H1 a/\ty σ H1 fun y H2=>tx σ H2 fun z H3=>∃ kvs k,H3 a=some (.dK kvs)/\y=kV k /\
 (∀ v,valV kvs k=some v->Q v (upd H3 a (.dK (dropK kvs k))))/\(valV kvs k=none->Q z H3)
section
variable{X:Cx}{o e f:Expr}{apos cpos:Pos}{td ty tx:TE}
theorem pe_dget1(hu:X.A.units+1 < cLine)(ho:PE X o td)(he:PE X e ty)(m:M1 X o "get" apos e cpos):PE X (.Call (.Attribute o "get" apos) [e] [] cpos) (tDGet1 td ty):=by
 intro pins s σ H Q I h;refine wpAny_Call_method m.base m.few m.line PySem.F.plainAttrs_dict PySem.F.slot_dict_get PySem.F.type_dict_get (thn (ho pins s σ H _ I h) fun u s1 zz=>?_);obtain⟨x,H1,I1,rx,a,ex,d,q1⟩:=zz;subst ex;obtain rfl:u=Value.ref a:=rx;obtain⟨t1,t2,_⟩:=isD_at I1 d;refine⟨t1,t2,?_⟩;rw[m.trees];refine Calls.callWith_builtin rfl (Calls.evalArgs_plain (Calls.spliced_cons (thn (he pins s1 σ H1 _ I1 q1) fun iv s2 ⟨y,H2,I2,ry,ov,g,q2⟩=>Calls.spliced_nil ?_)));exact d_get1 hu I2 g ry fun w' s3 I3 rw'=>⟨_,H2,I3,rw',q2⟩
theorem pe_dpop2(ho:PE X o td)(he:PE X e ty)(hf:PE X f tx)(m:M2 X o "pop" apos e f cpos):PE X (.Call (.Attribute o "pop" apos) [e,f] [] cpos) (tDPop2 td ty tx):=by
 intro pins s σ H Q I h;refine wpAny_Call_method m.base m.few m.line PySem.F.plainAttrs_dict PySem.F.slot_dict_pop PySem.F.type_dict_pop (thn (ho pins s σ H _ I h) fun u s1 zz=>?_);obtain⟨x,H1,I1,rx,a,ex,d,q1⟩:=zz;subst ex;obtain rfl:u=Value.ref a:=rx;obtain⟨t1,t2,_⟩:=isD_at I1 d;refine⟨t1,t2,?_⟩;rw[m.trees];refine Calls.callWith_builtin rfl (Calls.evalArgs_plain (Calls.spliced_cons (thn (he pins s1 σ H1 _ I1 q1) fun iv s2 ⟨y,H2,I2,ry,q2⟩=>
  Calls.spliced_cons (thn (hf pins s2 σ H2 _ I2 q2) fun fv s3 ⟨z,H3,I3,rz,kvs,k,ea,ey,q3,q4⟩=>Calls.spliced_nil ?_))))
 subst ey;cases l:valV kvs k with
 | some v=>exact d_pop I3 ea ry l (.inr ⟨fv,rfl⟩) fun w' s4 I4 rw'=>⟨v,_,I4,rw',q3 v l⟩
 | none=>exact d_popD I3 ea ry l fun s4 I4=>⟨z,H3,I4,rz,q4 l⟩
end
section
variable{X:Cx}{pins:List (Addr×Obj)}{σ:St}{H:Hp}{s:Shared}{a:Addr}{kvs:List (Key×V)}{A:Around}{E:Value->Shared->Prop}
end
section
variable{X:Cx}{pins:List (Addr×Obj)}{σ:St}{H:Hp}{s:Shared}{a:Addr}{y:V}{u:Value}{A:Around}{E:Value->Shared->Prop}
end
end L2
namespace Att
open PySem PySem.W PySem.Calls PyProof.Rows
theorem ints_of_wellAll{P:Params}{h:Heap}:∀(ns:List Int) (vs:List Value),WellAll P h vs (ns.map WData.int)->IntsAre vs ns:=by
 intro ns
 induction ns with
 | nil=>
   intro vs w;rw[List.map_nil]at w;cases w;exact .nil
 | cons n ns ih=>
   intro vs w;rw[List.map_cons]at w;cases w with
   | cons a b=>
     cases a;exact .cons _ _ (ih _ b)
theorem script_of{l:OpenLaw}{n:Nat}(hn:l.most=some n){P:Params}{h:Heap}{args:List WData}{vals:List Value}
 (hpre:l.row.toRowW.claim.pre args=true) (hwl:WellAll P h vals args) :
 ∃ a vs ns,vals=[Value.ref a]/\args=[WData.list (ns.map WData.int)]/\h.get? a=some { cls:=.type "list",data:=.seq vs.toArray } /\ IntsAre vs ns/\ns.length<=n:=by
 have hsh:WShape.hasAll [] args [.list .int]=true:=(pre_splitW hpre).1;have hc:l.pre.holds [] { args:=args }=true:=(pre_splitW hpre).2;obtain⟨d,r,rfl,h1,h2⟩:=hasAllW_cons hsh;obtain rfl:=hasAllW_nil h2;obtain⟨xs,rfl,h3⟩:=hasW_list h1;obtain⟨ns,rfl⟩:=items_int h3;have hlen:ns.length<=n:=by
  unfold OpenLaw.pre at hc;have h4:(WTm.not (.lt (.lit (.int (n:Int))) (.len (.arg 0)))).holds [] { args:=[.list (ns.map .int)] }=true:=by
   have h4:=(holds_andW hc).1;rw[hn]at h4;exact h4
  have h5:=condW_of h4 (w_not (w_lt w_lit (w_len_list (w_arg rfl))));rw[List.length_map]at h5;refine Nat.le_of_not_lt fun q=>?_;have q':(n:Int) < ((ns.length:Nat):Int):=by omega
  first
   | (rw[decide_eq_true q']at h5;exact absurd h5 (by decide))
   | (simp at h5;omega)
 cases hwl with
 | cons w1 w2=>
   cases w2;cases w1 with
   | list ho hall=>exact⟨_,_,ns,rfl,rfl,ho,ints_of_wellAll ns _ hall,hlen⟩
theorem post_true(l:OpenLaw)(args:List WData):l.row.toRowW.claim.post args (.bool true) args=true:=
 postW_of (r:=l.row.toRowW) (X:=(true == true))
  (show WShape.has [] (.bool true) .bool=true by first | rfl | decide | simp[WShape.has,WShape.arms,WShape.armsAll])
  (show(WTm.eq .res (.lit (.bool true))).value [] { args:=args,res:=some (.bool true),after:=args }=some (.bool (true == true))from w_eq_bool (w_res rfl) w_lit) rfl
theorem attach_call{l:OpenLaw}{n:Nat}{q:Program}{loose:List Str}{XP:(Str->Option Value)->Heap->Prop}{YP:World->Heap->Prop}{d:DefRec}
 (hn:l.most=some n) (hdf:d.params.defaults=[])
 (call:∀(w:World) (s₀ s₁:Shared) (mg mb:Str->Option Value) (fa:Addr) (o:Obj) (pm cd doc:Value) (a:Addr) (vs:List Value) (ns:List Int),
  Ground q loose [] XP w s₀ mg mb s₁.heap->YP w s₁.heap ->
  s₁.heap.get? fa=some o->o.data=.func (docDef d.name d.params d.body d.scope pm cd doc)->s₁.heap.CodeRec cd d.name->mg d.name=some (.ref fa) ->
  s₁.heap.get? a=some { cls:=.type "list",data:=.seq vs.toArray } -> IntsAre vs ns->ns.length<=n->s₁.gens=#[] ->
  codeAny (model l.prog w) callerA (.call (.ref fa) ⟨[.ref a],[]⟩) (fun r s'=>r=.ok (.ret (.bool true))/\OldK s₁.heap s'.heap/\s'.os=s₁.os/\AllBare s'.gens) s₁) :
 WalkO q loose XP YP l.row.toRowW d [] (fun f vs=>PySem.call f vs):=by
 intro w s₀ s₁ mg mb G Y fa o pm cd doc dV kV ho hd hcd hD hmg hg args vals as hpre hlay hrd hwl hlo;obtain rfl:dV=.none:=Dflts.none hD hdf;obtain rfl:kV=.none:=Dflts.noKw hD;obtain⟨a,vs,ns,rfl,rfl,hobj,hints,hlen⟩:=script_of hn hpre hwl;refine enter_call (codeAny_mono (call w s₀ s₁ mg mb fa o pm cd doc a vs ns G Y ho (fd_plain hd) hcd hmg hobj hints hlen hg) fun r s' hq=>?_);obtain⟨rfl,h2,h3,h4⟩:=hq;exact⟨.inl ⟨.bool true,.bool true,[],rfl,fun _=>rfl,.bool true,post_true l _,fun _=>⟨List.Pairwise.nil,fun _ hm=>(nomatch hm)⟩⟩,h2,h3,h4⟩
section
variable{prog:Program}{w:World}{A:Around}{E:Value->Shared->Prop}{s:Shared}{K:Frag}
end
end Att
namespace L2
open PySem PySem.Spec PyProof.Rows
end L2
namespace L2
open PySem PySem.Spec PyProof.Rows
end L2
/- THE LAST THEOREM (shape;LID,My.* are yours):
   My.Adr: a structure of the addresses that your layer names (classes,functions);My.Txt K t: a structure (Prop) of the equations over K;
   My.txt_mk:{K}{implicit addresses ..} (e1:nsIn K mainGlobals "law"=some (some (.ref f))) (e2:K.lookup f=some ⟨oc,od,.func (fnOf "law" "law" params body scope dV kV doc pm an cdv ct),sl⟩) (e3:codeIn K cdv "law"=true) ..:∃ t,My.Txt K t
set_option maxRecDepth 100000 in
set_option maxHeartbeats 0 in
theorem PySem.Challenge.cw_LID_holds : PySem.Challenge.rw_LID.Holds := by
 w_on;o_law;k_head;(case hw=>w_witness2)
 k_fill
 refine L2.walk_of (l:=PySem.Challenge.rw_LID) (n:=63) (k:=40) (x:="script") (CX:=fun w=>..) (sp:=fun _=>My.sp_law) rfl (by decide) rfl ⟨rfl,by decide,by decide⟩ (fun w h Y=>W.kIn_of Y) ?F ?S ?C
 case F=>
  intro w mg fa h KX G hmg;have T:∃ t,My.Txt (L2.KOf KX) t:=by
   dsimp only[L2.KOf]                          -- K must stand as «<heap const> w.params» for k_is
   refine' My.txt_mk ?e1 ?e2 ?e3 ..
   (case e1=>W.k_is)                    -- in the order: a name->its address->its object->its parts
   (case e2=>W.k_is)
   ..
  obtain⟨t,T⟩:=T;have e0:=hmg.symm.trans (W.mg_of KX G T.law);cases e0                                       -- fa is the law's own address;exact⟨_,fun s u=>.of_eq rfl,fun base kb nb=>My.law_fn T kb nb⟩     -- if «.of_eq rfl» comes too early: refine' ⟨_,?b,fun base kb nb=>My.law_fn T kb nb⟩;exact fun s u=>.of_eq rfl
 case S=>exact fun w H a ns hl hO hS=>..
 case C=>exact ..
(the tactic k_is has no namespace: write k_is) -/
namespace L2
open PySem PySem.Spec PyProof.Rows
noncomputable def inClass(s:Stmt)(j:Nat):Stmt:=match s with
 | .ClassDef _ _ _ body _ _ _ _ _ _ _=>body.getD j (.Pass ⟨0,0,0,0⟩)
 | _=>.Pass ⟨0,0,0,0⟩
noncomputable def defArgs(s:Stmt):Arguments:=match s with
 | .FunctionDef _ a _ _ _ _ _ _ _ _=>a
 | _=>{ posonlyargs:=[],args:=[],vararg:=none,kwonlyargs:=[],kw_defaults:=[],kwarg:=none,defaults:=[] }
noncomputable def defBody(s:Stmt):List Stmt:=match s with
 | .FunctionDef _ _ b _ _ _ _ _ _ _=>b
 | _=>[]
noncomputable def defScope(s:Stmt):Scope:=match s with
 | .FunctionDef _ _ _ _ _ _ sc _ _ _=>sc
 | _=>{ kind:=.function,names:=[],isGenerator:=false,isCoroutine:=false }
noncomputable abbrev CX0:CXT:=fun _ _ _ _ _ _=>False
noncomputable abbrev E0:XK:=fun _ _ _=>False
theorem pass0{X:Cx}:Passes CX0 X E0:=fun _ _ _ _ _ _ _ h=>h.elim
structure Fun(K:W.Frag)(x qual:Str)(st:Stmt)(f:Addr)(fd:FuncData):Prop where
 ex:∃(oc:Value) (od:Option Addr) (kV doc pm:Value) (an:Option Addr) (cdv ct:Value) (osl:Array (Option Value)),
  fd=W.fnOf x qual (defArgs st) (defBody st) (defScope st) .none kV doc pm an cdv ct/\K.lookup f=some ⟨oc,od,.func fd,osl⟩/\W.codeIn K cdv qual=true
 kp:W.keepIn K (.ref f)=true
section
variable{P:Program}{w:World}{K:W.Frag}{mg:Str->Option Value}{base:Heap}
theorem Fun.ok{x qual:Str}{st:Stmt}{f:Addr}{fd:FuncData}{N ps:List Str}{k:Nat}{sp:Sp}(F:Fun K x qual st f fd)(S:FnScope N ps (defScope st))(len:∀ vs H Q E,sp vs H Q E->vs.length=ps.length)
 (hbody:∀(cdv:Value) (A:Around) (outer:List Env) (s:Shared) (H:Hp) (vs:List V) (Q:VK) (E:XK),Room k (A.deeper (envOfC qual (defScope st) s.heap.objs.size f cdv))->sp vs H Q E ->
  ∃ t,PSs (cxOf CX0 P w K mg base N qual (defScope st) f cdv A outer s H E).nox (defBody st) t/\t { nx:=fun _ H'=>Q .non H',rt:=Q } (start N vs) H):FnOk P w K mg base CX0 (k+1) f fd ps sp:=by
 obtain⟨oc,od,kV,doc,pm,an,cdv,ct,osl,rfl,lk,hcd⟩:=F.ex;refine fn_of lk hcd S len fun A outer s H vs Q E hr hsp=>?_;obtain⟨t,h,q⟩:=hbody cdv A outer s H vs Q E hr hsp;exact⟨t,h.nox,q⟩
theorem Fun.binds{x qual:Str}{st:Stmt}{f:Addr}{fd:FuncData}{ps:List Str}(F:Fun K x qual st f fd)
 (h:∀(kV doc pm:Value) (an:Option Addr) (cdv ct:Value) (us:List Value),us.length=ps.length->bindArgs (W.fnOf x qual (defArgs st) (defBody st) (defScope st) .none kV doc pm an cdv ct) ⟨us,[]⟩=pure (ps.zip us)):Binds K fd ps []:=by
 obtain⟨oc,od,kV,doc,pm,an,cdv,ct,osl,rfl,lk,hcd⟩:=F.ex;exact .all (h kV doc pm an cdv ct)
theorem fun_mk{x qual:Str}{st:Stmt}{f:Addr}{oc:Value}{od an:Option Addr}{osl:Array (Option Value)}{kV doc pm cdv ct:Value}(l:K.lookup f=some ⟨oc,od,.func (W.fnOf x qual (defArgs st) (defBody st) (defScope st) .none kV doc pm an cdv ct),osl⟩)
 (c:W.codeIn K cdv qual=true) (k:W.keepIn K (.ref f)=true):Fun K x qual st f (W.fnOf x qual (defArgs st) (defBody st) (defScope st) .none kV doc pm an cdv ct):=⟨⟨oc,od,kV,doc,pm,an,cdv,ct,osl,rfl,l,c⟩,k⟩
end
theorem hu_of{A:Around}{k:Nat}(hr:Room k A):A.units+1 < cLine:=Nat.lt_of_le_of_lt (Nat.add_le_add_left (by decide:1<=64) _) hr.units
theorem small1000{n:Nat}(h:n<=1000):n < sizeLine:=Nat.lt_of_le_of_lt h (by decide)
section
variable{X:Cx}
end
theorem iteF{A B:Prop}(h:B):if false=true then A else B:=by
 rw[if_neg Bool.false_ne_true];exact h
theorem iteT{A B:Prop}(h:A):if true=true then A else B:=by
 rw[if_pos rfl];exact h
theorem ite2{c A B:Prop}[Decidable c](h1:c->A)(h2:¬ c->B):if c then A else B:=by
 by_cases h:c
 · rw[if_pos h]
   exact h1 h
 rw[if_neg h];exact h2 h
theorem iteNS{c A B:Prop}[Decidable c](hc:c)(h:B):if(!decide c)=true then A else B:=by
 rw[decide_eq_true hc];exact iteF h
noncomputable def Same(H H':Hp):Prop:=∀ b o,H b=some o->H' b=some o
theorem Same.trans{H H1 H2:Hp}(a:Same H H1)(b:Same H1 H2):Same H H2:=fun c o h=>b c o (a c o h)
theorem Same.free{H H':Hp}(e:Same H H'){l:Addr}(h:H' l=Option.none):H l=Option.none:=by
 cases q:H l with
 | none=>rfl
 | some o=>
   rw[e l o q]at h;cases h
theorem Same.seq{K:W.Frag}{H H':Hp}{a:Addr}{xs:List V}(e:Same H H')(h:SqL K H a xs):SqL K H' a xs:=by
 rcases h with (h | ⟨o,h⟩) | h
 · exact .inl (.inl (e _ _ h))
 · exact .inl (.inr ⟨o,e _ _ h⟩)
 exact .inr h
section
variable{κ:Type}[DecidableEq κ]
theorem nd_snoc:∀{l:List κ}{k:κ},l.Nodup -> ¬ k∈l->(l++[k]).Nodup
 | [],k,_,_=>by simp
 | a::r,k,h,hk=>by
   obtain⟨h1,h2⟩:=List.nodup_cons.mp h;show(a::(r++[k])).Nodup;refine List.nodup_cons.mpr ⟨fun m=>?_,nd_snoc h2 fun m=>hk (List.mem_cons.mpr (Or.inr m))⟩;rcases List.mem_append.mp m with q | q
   · exact h1 q
   exact hk (List.mem_cons.mpr (Or.inl (List.mem_singleton.mp q).symm))
theorem dropK_pos{p:κ × V}{r:List (κ × V)}{k:κ}(e:p.1=k):dropK (p::r) k=dropK r k:=by
 unfold dropK;rw[List.filter_cons,if_neg (by simp[e])]
theorem dropK_neg{p:κ × V}{r:List (κ × V)}{k:κ}(e:¬ p.1=k):dropK (p::r) k=p::dropK r k:=by
 unfold dropK;rw[List.filter_cons,if_pos (by simp[e])]
end
end L2
namespace SW
open PySem PySem.Spec PyProof.Rows L2
theorem b_int:bootBuiltins "int"=some (.type "int"):=by decide +kernel
theorem b_bool:bootBuiltins "bool"=some (.type "bool"):=by decide +kernel
theorem b_tuple:bootBuiltins "tuple"=some (.type "tuple"):=by decide +kernel
theorem b_isinstance:bootBuiltins "isinstance"=some (.builtin "isinstance"):=by decide +kernel
theorem b_len:bootBuiltins "len"=some (.builtin "len"):=by decide +kernel
structure Bx(p:Prop):Prop where
 out:p
structure Fn(P:Program)(w:World)(K:W.Frag)(mg:Str->Option Value)(base:Heap)(x:Str)(k:Nat)(ps:List Str)(sp:Sp):Prop where
 ex:∃(f:Addr) (fd:FuncData),FnOk P w K mg base CX0 k f fd ps sp/\mg x=some (.ref f)/\W.keepIn K (.ref f)=true/\Binds K fd ps []
structure Dfn(K:W.Frag)(mg:Str->Option Value)(x:Str)(st:Stmt)(ps:List Str):Prop where
 ex:∃(f:Addr) (fd:FuncData),Fun K x x st f fd/\mg x=some (.ref f)/\Binds K fd ps []
theorem Dfn.fn{P:Program}{w:World}{K:W.Frag}{mg:Str->Option Value}{base:Heap}{x:Str}{st:Stmt}{N ps:List Str}{k:Nat}{sp:Sp}(d:Dfn K mg x st ps)(S:FnScope N ps (defScope st))(len:∀ vs H Q E,sp vs H Q E->vs.length=ps.length)
 (hbody:∀(f:Addr) (cdv:Value) (A:Around) (outer:List Env) (s:Shared) (H:Hp) (vs:List V) (Q:VK) (E:XK),Room k (A.deeper (envOfC x (defScope st) s.heap.objs.size f cdv))->sp vs H Q E ->
  ∃ t,Bx (PSs (cxOf CX0 P w K mg base N x (defScope st) f cdv A outer s H E).nox (defBody st) t)/\t { nx:=fun _ H'=>Q .non H',rt:=Q } (start N vs) H):Fn P w K mg base x (k+1) ps sp:=by
 obtain⟨f,fd,F,hm,hb⟩:=d.ex;exact⟨f,fd,F.ok S len (fun cdv A outer s H vs Q E hr h=>let⟨t,h1,h2⟩:=hbody f cdv A outer s H vs Q E hr h;⟨t,h1.out,h2⟩),hm,F.kp,hb⟩
theorem fun_bx{P:Program}{w:World}{K:W.Frag}{mg:Str->Option Value}{base:Heap}{x qual:Str}{st:Stmt}{f:Addr}{fd:FuncData}{N ps:List Str}{k:Nat}{sp:Sp}(F:Fun K x qual st f fd)(S:FnScope N ps (defScope st))(len:∀ vs H Q E,sp vs H Q E->vs.length=ps.length)
 (hbody:∀(cdv:Value) (A:Around) (outer:List Env) (s:Shared) (H:Hp) (vs:List V) (Q:VK) (E:XK),Room k (A.deeper (envOfC qual (defScope st) s.heap.objs.size f cdv))->sp vs H Q E ->
  ∃ t,Bx (PSs (cxOf CX0 P w K mg base N qual (defScope st) f cdv A outer s H E).nox (defBody st) t)/\t { nx:=fun _ H'=>Q .non H',rt:=Q } (start N vs) H):FnOk P w K mg base CX0 (k+1) f fd ps sp:=
 F.ok S len (fun cdv A outer s H vs Q E hr h=>let⟨t,h1,h2⟩:=hbody cdv A outer s H vs Q E hr h;⟨t,h1.out,h2⟩)
noncomputable def plainE:Expr->Bool
 | .Starred _ _=>false
 | _=>true
theorem star_of{e:Expr}{es:List Expr}{env:Env}(h:plainE e=true):starEach (e::es) env=(false,eval e env)::starEach es env:=by
 cases e <;> first | rfl | exact absurd h Bool.false_ne_true
theorem star_any{pos:Pos}{env:Env}:∀{es:List Expr},es.all plainE=true->(backTo pos (starEach es env)).any (·.1)=false
 | [],_=>rfl
 | e::es,h=>by
   rw[List.all_cons,Bool.and_eq_true]at h;rw[star_of h.1];show(false || (backTo pos (starEach es env)).any (·.1))=false;rw[star_any h.2]
   rfl
theorem star_all{pos:Pos}{env:Env}:∀{es:List Expr},es.all plainE=true->(backTo pos (starEach es env)).all (fun x=>!x.1)=true
 | [],_=>rfl
 | e::es,h=>by
   rw[List.all_cons,Bool.and_eq_true]at h;rw[star_of h.1];show(true && (backTo pos (starEach es env)).all (fun x=>!x.1))=true;rw[star_all h.2]
   rfl
section
variable{X:Cx}{x:Str}{p pos:Pos}{e:Expr}{es:List Expr}{t:TA}{te:TE}{k:Nat}{ps:List Str}{sp:Sp}
theorem pac(ha:PE X e te)(hr:PA X es t)(h:plainE e=true:=by rfl):PA X (e::es) (tCons te t):=pa_cons ha hr (star_of h)
theorem pe_fn(F:Fn X.prog X.w X.K X.mg X.base x k ps sp)(hr:Room k X.A)(ha:PA X (e::es) t)(hg:Gl X x:=by rfl)(hdb:(x == ("__debug__":Str))=false:=by decide)(h1:plainE e=true:=by rfl)(h2:es.all plainE=true:=by rfl) :
 PE X (.Call (.Name x p) (e::es) [] pos) (tCall sp [] E0 t):=by
 obtain⟨f,fd,G,hm,kp,b⟩:=F.ex;exact pe_call G hr hg hm kp b .nil pass0 ha hdb (star_of h1) (star_any h2)
theorem pe_fn0(F:Fn X.prog X.w X.K X.mg X.base x k ps sp)(hr:Room k X.A)(hg:Gl X x:=by rfl)(hdb:(x == ("__debug__":Str))=false:=by decide) :
 PE X (.Call (.Name x p) [] [] pos) (tCall sp [] E0 tNil):=by
 obtain⟨f,fd,G,hm,kp,b⟩:=F.ex;exact pe_call0 G hr hg hm kp b .nil pass0 hdb
theorem pe_cB{id:String}{r:List V->Hp->VK->Prop}(hc:CallR X (.builtin id) r)(hm:X.mg x=none)(hv:bootBuiltins x=some (.builtin id))(ha:PA X (e::es) t)(hg:Gl X x:=by rfl)(hn:x ≠ "__name__":=by decide)(hdb:(x == ("__debug__":Str))=false:=by decide)
 (h1:plainE e=true:=by rfl) (h2:es.all plainE=true:=by rfl):PE X (.Call (.Name x p) (e::es) [] pos) (tCB r t):=pe_callB hc hg hm hv ha hn hdb (star_of h1) (star_any h2)
theorem pe_cT{T:String}{r:List V->Hp->VK->Prop}(hc:CallR X (.type T) r)(hm:X.mg x=none)(hv:bootBuiltins x=some (.type T))(ha:PA X (e::es) t)(hg:Gl X x:=by rfl)(hn:x ≠ "__name__":=by decide)(hdb:(x == ("__debug__":Str))=false:=by decide)
 (h1:plainE e=true:=by rfl) (h2:es.all plainE=true:=by rfl):PE X (.Call (.Name x p) (e::es) [] pos) (tCB r t):=pe_callTy hc hg hm hv ha hn hdb (star_of h1) (star_any h2)
theorem pe_m{T name id:_}{r:V->List V->Hp->VK->Prop}{o:Expr}{to:TE}{apos cpos:Pos}(pa:PlainAttrs T)(slot:Slot T name id)(hty:typeOf (.builtin id)=pure (.type "method_descriptor"))(hm:MtR X id r)(ho:PE X o to)(ha:PA X (e::es) t)
 (hbase:attributeBase o name X.env (eval o X.env)=eval o X.env:=by rfl) (hl:decide ((e::es).length+([]:List Keyword).length+(if([]:List Keyword).isEmpty then 0 else 1) < 30)=true:=by rfl)
 (hline:(apos.endLine == cpos.line)=true:=by rfl) (h1:plainE e=true:=by rfl) (h2:es.all plainE=true:=by rfl) :
 PE X (.Call (.Attribute o name apos) (e::es) [] cpos) (tBM X.K T r to t):=by
 refine pe_bm pa slot hty hm ho ha hbase ?_ hline (star_of h1) (star_any h2);have hA:(e::es).all plainE=true:=by rw[List.all_cons,h1,h2];rfl
 rw[star_all hA,hl]
 rfl
theorem pi_r1{tg a:Expr}{ta:TA}(hm:X.mg "range"=none)(ha:PA X [a] ta)(hg:Gl X "range":=by rfl)(h1:plainE a=true:=by rfl):PI X tg (.Call (.Name "range" p) [a] [] pos) (iRng1 ta):=
 pi_range1 hg hm ha (star_of h1)
theorem pe_gint{i:Int}(h:∃ t,X.mg x=some (.int i t))(hg:Gl X x:=by rfl)(hd:(x == ("__debug__":Str))=false:=by decide):PE X (.Name x pos) (tC (.int i)):=by
 obtain⟨t,h⟩:=h;exact pe_glob hg h ⟨t,rfl⟩ hd
theorem pe_ty{n:String}(hm:X.mg x=none)(hv:bootBuiltins x=some (.type n))(hg:Gl X x:=by rfl)(hn:x ≠ "__name__":=by decide)(hd:(x == ("__debug__":Str))=false:=by decide):PE X (.Name x pos) (tC (.ty n)):=
 pe_bltn hg hm hv (show Value.type n=Value.type n from rfl) hn hd
end
namespace B
section
variable{X:Cx}{x f:Str}{p pos:Pos}{e a b c o:Expr}{es:List Expr}{t:TA}{te ta tb tc to ti:TE}{k:Nat}{ps:List Str}{sp:Sp}{tg:Expr}
theorem int{i j pos}:Bx (PE X (.Constant (.int i) j pos) (tC (.int i))):=⟨pe_int⟩
theorem bl{b j pos}:Bx (PE X (.Constant (.bool b) j pos) (tC (.bl b))):=⟨pe_bl⟩
theorem non{j pos}:Bx (PE X (.Constant .none j pos) (tC .non)):=⟨pe_non⟩
theorem str{x j pos}:Bx (PE X (.Constant (.str x) j pos) (tC (.str x))):=⟨pe_str⟩
theorem v(i:Nat){x:Str}{pos:Pos}(hN:X.N[i]?=some x:=by rfl)(hv:Vis X.env.scope x:=by first | exact Or.inl rfl | exact Or.inr (Or.inl rfl) | exact Or.inr (Or.inr rfl))(hd:(x == ("__debug__":Str))=false:=by decide)
 (hcd:(x == ("__classdict__":Str))=false:=by decide):Bx (PE X (.Name x pos) (tVar i)):=⟨pe_var hN hv hd hcd⟩
theorem gint{i:Int}(h:∃ t,X.mg x=some (.int i t))(hg:Gl X x:=by rfl)(hd:(x == ("__debug__":Str))=false:=by decide):Bx (PE X (.Name x pos) (tC (.int i))):=⟨pe_gint h hg hd⟩
theorem ty{n:String}(hm:X.mg x=none)(hv:bootBuiltins x=some (.type n))(hg:Gl X x:=by rfl)(hn:x ≠ "__name__":=by decide)(hd:(x == ("__debug__":Str))=false:=by decide):Bx (PE X (.Name x pos) (tC (.ty n))):=⟨pe_ty hm hv hg hn hd⟩
theorem op{op:Operator}{r:R2}(ho:OpR X (binaryOp op) r)(ha:Bx (PE X a ta))(hb:Bx (PE X b tb)):Bx (PE X (.BinOp a op b pos) (tOp r ta tb)):=⟨pe_op ho ha.out hb.out⟩
theorem un{op:UnaryOp}{r:V->Hp->VK->Prop}(ho:UnR X (unaryOp op) r)(ha:Bx (PE X a ta)):Bx (PE X (.UnaryOp op a pos) (tUn r ta)):=⟨pe_un ho ha.out⟩
theorem not(ha:Bx (PE X a ta)):Bx (PE X (.UnaryOp .Not a pos) (tNotV ta)):=⟨pe_not ha.out⟩
theorem cmp{op:CmpOp}{r:R2}(ho:OpR X (compareOp op) r)(ha:Bx (PE X a ta))(hb:Bx (PE X b tb))(hm:behindInMarks op b=false:=by exact nomark _):Bx (PE X (.Compare a [op] [b] pos) (tOp r ta tb)):=⟨pe_cmpR ho ha.out hb.out hm⟩
theorem chain{op op':CmpOp}{r r':R2}(ho:OpR X (compareOp op) r)(ho':OpR X (compareOp op') r')(ha:Bx (PE X a ta))(hb:Bx (PE X b tb))(hc:Bx (PE X c tc))(hm:lastMarks [op,op'] [b,c]=false:=by with_unfolding_all rfl) :
 Bx (PE X (.Compare a [op,op'] [b,c] pos) (tChain r r' ta tb tc)):=⟨pe_chain ho ho' ha.out hb.out hc.out hm⟩
theorem one{op}(h:Bx (PE X a ta)):Bx (PE X (.BoolOp op [a] pos) ta):=⟨pe_one h.out⟩
theorem and{rest:List Expr}(ha:Bx (PE X a ta))(hb:Bx (PE X (.BoolOp .And (b::rest) pos) tb)):Bx (PE X (.BoolOp .And (a::b::rest) pos) (tAndV ta tb)):=⟨pe_and ha.out hb.out⟩
theorem or{rest:List Expr}(ha:Bx (PE X a ta))(hb:Bx (PE X (.BoolOp .Or (b::rest) pos) tb)):Bx (PE X (.BoolOp .Or (a::b::rest) pos) (tOrV ta tb)):=⟨pe_or ha.out hb.out⟩
theorem ifx{tA:TT}(hc:Bx (PT X c tA))(ha:Bx (PE X a ta))(hb:Bx (PE X b tb)):Bx (PE X (.IfExp c a b pos) (tIf tA ta tb)):=⟨pe_ifExp hc.out ha.out hb.out⟩
theorem nil:Bx (PA X [] tNil):=⟨pa_nil⟩
theorem cons(ha:Bx (PE X e te))(hr:Bx (PA X es t))(h:plainE e=true:=by rfl):Bx (PA X (e::es) (tCons te t)):=⟨pac ha.out hr.out h⟩
theorem lst(h:Bx (PA X es t)):Bx (PE X (.List es pos) (tLst t)):=⟨pe_lst h.out⟩
theorem tup{x1}(h:Bx (PA X es t)):Bx (PE X (.Tuple es x1 pos) (tTup t)):=⟨pe_tup h.out⟩
theorem ix{r:R2}(hr:IxR X r)(ha:Bx (PE X a ta))(hb:Bx (PE X b tb))(hs:PlainIx b:=by exact fun _ _=>rfl):Bx (PE X (.Subscript a b pos) (tOp r ta tb)):=⟨pe_ix hr ha.out hb.out hs⟩
theorem nopart:Bx (PO X none tNoPart):=⟨po_none⟩
theorem part(h:Bx (PE X e te)):Bx (PO X (some e) (tPart te)):=⟨po_some h.out⟩
theorem slice{lo hi:Option Expr}{tl th:TO}{p2:Pos}{r:V->Option Int->Option Int->Hp->VK->Prop}(hr:SlR X r)(he:Bx (PE X e te))(hl:Bx (PO X lo tl))(hu:Bx (PO X hi th)):Bx (PE X (.Subscript e (.Slice lo hi none p2) pos) (tSl r te tl th)):=⟨pe_slice hr he.out hl.out hu.out⟩
theorem fn(F:Fn X.prog X.w X.K X.mg X.base x k ps sp)(hr:Room k X.A)(ha:Bx (PA X (e::es) t))(hg:Gl X x:=by rfl)(hdb:(x == ("__debug__":Str))=false:=by decide)(h1:plainE e=true:=by rfl)(h2:es.all plainE=true:=by rfl) :
 Bx (PE X (.Call (.Name x p) (e::es) [] pos) (tCall sp [] E0 t)):=⟨pe_fn F hr ha.out hg hdb h1 h2⟩
theorem fn0(F:Fn X.prog X.w X.K X.mg X.base x k ps sp)(hr:Room k X.A)(hg:Gl X x:=by rfl)(hdb:(x == ("__debug__":Str))=false:=by decide) :
 Bx (PE X (.Call (.Name x p) [] [] pos) (tCall sp [] E0 tNil)):=⟨pe_fn0 F hr hg hdb⟩
theorem cB{id:String}{r:List V->Hp->VK->Prop}(hc:CallR X (.builtin id) r)(hm:X.mg x=none)(hv:bootBuiltins x=some (.builtin id))(ha:Bx (PA X (e::es) t))(hg:Gl X x:=by rfl)(hn:x ≠ "__name__":=by decide)(hdb:(x == ("__debug__":Str))=false:=by decide)
 (h1:plainE e=true:=by rfl) (h2:es.all plainE=true:=by rfl):Bx (PE X (.Call (.Name x p) (e::es) [] pos) (tCB r t)):=⟨pe_cB hc hm hv ha.out hg hn hdb h1 h2⟩
theorem cT{T:String}{r:List V->Hp->VK->Prop}(hc:CallR X (.type T) r)(hm:X.mg x=none)(hv:bootBuiltins x=some (.type T))(ha:Bx (PA X (e::es) t))(hg:Gl X x:=by rfl)(hn:x ≠ "__name__":=by decide)(hdb:(x == ("__debug__":Str))=false:=by decide)
 (h1:plainE e=true:=by rfl) (h2:es.all plainE=true:=by rfl):Bx (PE X (.Call (.Name x p) (e::es) [] pos) (tCB r t)):=⟨pe_cT hc hm hv ha.out hg hn hdb h1 h2⟩
theorem m{T name id:_}{r:V->List V->Hp->VK->Prop}{apos cpos:Pos}(pa:PlainAttrs T)(slot:Slot T name id)(hty:typeOf (.builtin id)=pure (.type "method_descriptor"))(hm:MtR X id r)(ho:Bx (PE X o to))(ha:Bx (PA X (e::es) t))
 (hbase:attributeBase o name X.env (eval o X.env)=eval o X.env:=by rfl) (hl:decide ((e::es).length+([]:List Keyword).length+(if([]:List Keyword).isEmpty then 0 else 1) < 30)=true:=by rfl)
 (hline:(apos.endLine == cpos.line)=true:=by rfl) (h1:plainE e=true:=by rfl) (h2:es.all plainE=true:=by rfl) :
 Bx (PE X (.Call (.Attribute o name apos) (e::es) [] cpos) (tBM X.K T r to t)):=⟨pe_m pa slot hty hm ho.out ha.out hbase hl hline h1 h2⟩
theorem tcmp{op:CmpOp}{r:R2}(ho:OpR X (compareOp op) r)(ha:Bx (PE X a ta))(hb:Bx (PE X b tb))(hm:behindInMarks op b=false:=by exact nomark _):Bx (PT X (.Compare a [op] [b] pos) (tTest (tOp r ta tb))):=⟨pt_cmpR ho ha.out hb.out hm⟩
theorem tchain{op op':CmpOp}{r r':R2}(ho:OpR X (compareOp op) r)(ho':OpR X (compareOp op') r')(ha:Bx (PE X a ta))(hb:Bx (PE X b tb))(hc:Bx (PE X c tc))(hm:lastMarks [op,op'] [b,c]=false:=by with_unfolding_all rfl) :
 Bx (PT X (.Compare a [op,op'] [b,c] pos) (tTest (tChain r r' ta tb tc))):=⟨pt_chain ho ho' ha.out hb.out hc.out hm⟩
theorem tval(h:Bx (PE X e te))(he:∀ whole,isTrue e X.env whole=(do let v ← whole;standAt e.pos;holding [v] (truthy v)):=by intro _;rfl):Bx (PT X e (tB te)):=⟨pt_val h.out he⟩
theorem tnot{tA:TT}(ha:Bx (PT X a tA)):Bx (PT X (.UnaryOp .Not a pos) (tNot tA)):=⟨pt_not ha.out⟩
theorem wand1{tA:TT}(ha:Bx (PT X a tA)):Bx (PW X (.BoolOp .And [a] pos) tA):=⟨pw_and1 ha.out⟩
theorem wor1{tA:TT}(ha:Bx (PT X a tA)):Bx (PW X (.BoolOp .Or [a] pos) tA):=⟨pw_or1 ha.out⟩
theorem wand{tA tB':TT}{rest:List Expr}(ha:Bx (PT X a tA))(hb:Bx (PW X (.BoolOp .And (b::rest) pos) tB')):Bx (PW X (.BoolOp .And (a::b::rest) pos) (tAnd tA tB')):=⟨pw_and ha.out hb.out⟩
theorem wor{tA tB':TT}{rest:List Expr}(ha:Bx (PT X a tA))(hb:Bx (PW X (.BoolOp .Or (b::rest) pos) tB')):Bx (PW X (.BoolOp .Or (a::b::rest) pos) (tOr tA tB')):=⟨pw_or ha.out hb.out⟩
theorem tw{tA:TT}(h:Bx (PW X e tA)):Bx (PT X e tA):=⟨h.out.pt⟩
theorem gname{i:Nat}(hN:X.N.Nodup)(hi:X.N[i]?=some x:=by rfl)(hx:Loc X.env.scope x:=by first | exact Or.inl rfl | exact Or.inr rfl)(hf:X.fn x=true∨X.env.scope.names.lookup x=some .local:=by first | exact .inl rfl | exact .inr rfl):Bx (PG X (.Name x pos) (gName i)):=⟨pg_name hN hi hx hf⟩
theorem gnil:Bx (PGs X [] gNil):=⟨pgs_nil⟩
theorem gcons{g:TG}{u:TGs}(h1:Bx (PG X e g))(h2:Bx (PGs X es u))(hs:(assignEach (e::es) X.env).map (·.2)=assign e X.env::(assignEach es X.env).map (·.2):=by rfl):Bx (PGs X (e::es) (gCons g u)):=⟨pgs_cons h1.out h2.out hs⟩
theorem gtup{kk n:Nat}{u:TGs}(h:Bx (PGs X es u))(hc:X.calm=true:=by rfl)(hn:(assignEach es X.env).length=n:=by rfl)(hst:(assignEach es X.env).findIdx? (·.1)=none:=by rfl):Bx (PG X (.Tuple es kk pos) (gTup X.K n u)):=⟨pg_tup hc h.out hn hst⟩
theorem gsub{s:TSet}{i:Expr}(ho:Bx (PE X o to))(hi:Bx (PE X i ti))(hs:PSet X s)
 (ha:∀ v,assign (.Subscript o i pos) X.env v=(do
  let ov ← holding [v] (eval o X.env)
  let iv ← holding [v,ov] (eval i X.env)
  standAt pos
  holding [v,ov,iv] (setItem ov iv v)
  release [v,ov,iv] []):=by intro _;rfl):Bx (PG X (.Subscript o i pos) (gSub to ti s)):=⟨pg_sub ho.out hi.out hs ha⟩
theorem asg{g:TG}(he:Bx (PE X e te))(hg:Bx (PG X tg g))(hs:swapsWithSole [tg] e pos.line X.env=pure false:=by rfl)(hw:swappedStores [tg] e X.env=pure none:=by rfl)
 (h1:(assignEach [tg] X.env).map (·.2)=[assign tg X.env]:=by rfl):Bx (PS X (.Assign [tg] e pos) (tAsg te g)):=⟨ps_asg he.out hg.out hs hw h1⟩
theorem set(i:Nat){pos':Pos}(hN:X.N.Nodup)(he:Bx (PE X e te))(hi:X.N[i]?=some x:=by rfl)(hx:Loc X.env.scope x:=by first | exact Or.inl rfl | exact Or.inr rfl)(hs:swapsWith e (some (.Name x pos')) pos.line X.env=pure false:=by rfl)
 (hf:X.fn x=true∨X.env.scope.names.lookup x=some .local:=by first | exact .inl rfl | exact .inr rfl):Bx (PS X (.Assign [.Name x pos'] e pos) (tAsg te (gName i))):=⟨ps_set hN hi hx he.out hs hf⟩
theorem expr(he:Bx (PE X e te))(hs:swapsWith e none pos.line X.env=pure false:=by rfl):Bx (PS X (.Expr e pos) (tDrop te)):=⟨ps_expr he.out hs⟩
theorem ret(he:Bx (PE X e te)):Bx (PS X (.Return (some e) pos) (tRet te)):=⟨ps_ret he.out⟩
theorem retN:Bx (PS X (.Return none pos) tRetN):=⟨ps_retN⟩
theorem ifs{tcc:TT}{l r:List Stmt}{u w:TS}(hc:Bx (PT X c tcc))(ha:Bx (PSs X l u))(hb:Bx (PSs X r w)):Bx (PS X (.If c l r pos) (tIfS tcc u w)):=⟨ps_if hc.out ha.out hb.out⟩
theorem ilist{l:Expr}{tl:TE}(hl:Bx (PE X l tl)):Bx (PI X tg l (iList X.K tl)):=⟨pi_list hl.out⟩
theorem itup{l:Expr}{tl:TE}(hl:Bx (PE X l tl)):Bx (PI X tg l (iTup X.K tl)):=⟨pi_tup hl.out⟩
theorem irange{t:TA}(hm:X.mg "range"=none)(ha:Bx (PA X [a] t))(hg:Gl X "range":=by rfl)(h1:plainE a=true:=by rfl):Bx (PI X tg (.Call (.Name "range" p) [a] [] pos) (iRng1 t)):=⟨pi_r1 hm ha.out hg h1⟩
theorem fors{iter:Expr}{l:List Stmt}{wi:TI}{g:TG}{u:TS}(hi:Bx (PI X tg iter wi))(hg:Bx (PG X tg g))(hb:Bx (PSs X l u))(hp:PassesOwn (model X.prog X.w) X.A X.env X.xe:=by exact PassesOwn.never)(hc:X.calm=true:=by rfl)
 (hs:∀ x,foldedSetIterable iter X.env x=pure x:=by intro _;rfl):Bx (PS X (.For tg iter l [] pos) (tFor wi g u)):=⟨ps_for hp hc hi.out hg.out hb.out hs⟩
theorem snil:Bx (PSs X [] tNext):=⟨pss_nil⟩
theorem scons{st:Stmt}{rest:List Stmt}{u w:TS}(h1:Bx (PS X st u))(h2:Bx (PSs X rest w)):Bx (PSs X (st::rest) (tSeq u w)):=⟨pss_cons h1.out h2.out⟩
theorem sone{st:Stmt}{u:TS}(h1:Bx (PS X st u)):Bx (PSs X [st] u):=⟨pss_one h1.out⟩
end
end B
noncomputable def CDivL(_ j:Int):Prop:=0 < j/\j < 18446744073709551616
theorem op_fdivL{X:Cx}:OpR X (binaryOp .FloorDiv) (rI CDivL fun i j=>.int (i / j)):=opI fun i j _ _ _ _ _ hc q=>by
 have h1:(0:Int) < j:=hc.1;have h2:j < 18446744073709551616:=hc.2;have h3:j.natAbs.log2 < 64:=(Nat.log2_lt (by omega)).mpr (by omega)
 exact floordiv_int (by omega) (by rw[Int.fdiv_eq_ediv_of_nonneg i (by omega)];exact q) (.inl (PyProof.noPylong_of_log2 (by omega)))
section
variable{D:Ends}{σ:L2.St}{H:Hp}{Q:VK}{v:V}{K:W.Frag}
theorem wAsg{te:TE}{g:TG}(h:te σ H fun x H1=>g x σ H1 D.nx):tAsg te g D σ H:=h
theorem wName{i:Nat}{Q:L2.St->Hp->Prop}(h:Q (σ.set i (some v)) H):gName i v σ H Q:=h
theorem wSub{to ti:TE}{t:TSet}{Q:L2.St->Hp->Prop}(h:to σ H fun o H1=>ti σ H1 fun i H2=>t o i v H2 fun H3=>Q σ H3):gSub to ti t v σ H Q:=h
theorem wSetL{p:Addr}{xs:List V}{i:Int}{j:Nat}{Q:Hp->Prop}(e:H p=some (.lst xs))(hj:ixN xs.length i=some j)(h:Q (upd H p (.lst (xs.set j v)))):rSetL (.ref p) (.int i) v H Q:=⟨p,xs,i,j,rfl,rfl,e,hj,h⟩
theorem wDrop{te:TE}(h:te σ H fun _ H1=>D.nx σ H1):tDrop te D σ H:=h
theorem wRet{te:TE}(h:te σ H D.rt):tRet te D σ H:=h
theorem wRetN(h:D.rt .non H):tRetN D σ H:=h
theorem wNext(h:D.nx σ H):tNext D σ H:=h
theorem wIfS{c:TT}{t u:TS}(h:c σ H fun b H1=>if b=true then t D σ H1 else u D σ H1):tIfS c t u D σ H:=h
theorem wVar{i:Nat}(e:σ[i]?=some (some v))(h:Q v H):tVar i σ H Q:=⟨v,e,h⟩
theorem wC(h:Q v H):tC v σ H Q:=h
theorem wOp{r:R2}{ta tb:TE}(h:ta σ H fun x H1=>tb σ H1 fun y H2=>r x y H2 Q):tOp r ta tb σ H Q:=h
theorem wUn{r:V->Hp->VK->Prop}{ta:TE}(h:ta σ H fun x H1=>r x H1 Q):tUn r ta σ H Q:=h
theorem wU{g:Int->V}{i:Int}(h:Q (g i) H):rU g (.int i) H Q:=⟨i,rfl,h⟩
theorem wI0{g:Int->Int->V}{i j:Int}(h:Q (g i j) H):rI0 g (.int i) (.int j) H Q:=⟨i,j,rfl,rfl,h⟩
theorem wMod{g:Int->Int->V}{i j:Int}(c:0 < j)(h:Q (g i j) H):rI (fun _ j=>0 < j) g (.int i) (.int j) H Q:=⟨i,j,rfl,rfl,c,h⟩
theorem wShr{g:Int->Int->V}{i j:Int}(c:0<=j)(h:Q (g i j) H):rI (fun _ j=>0<=j) g (.int i) (.int j) H Q:=⟨i,j,rfl,rfl,c,h⟩
theorem wDivL{g:Int->Int->V}{i j:Int}(c:0 < j/\j < 18446744073709551616)(h:Q (g i j) H):rI CDivL g (.int i) (.int j) H Q:=⟨i,j,rfl,rfl,c,h⟩
theorem wMul{g:Int->Int->V}{i j:Int}(c:(-18446744073709551616 < i/\i < 18446744073709551616)∨(-18446744073709551616 < j/\j < 18446744073709551616))(h:Q (g i j) H):rI CMul g (.int i) (.int j) H Q:=⟨i,j,rfl,rfl,c,h⟩
theorem wPow{g:Int->Int->V}{i j:Int}(c:0<=j/\j<=1000000/\i.natAbs < 2 ^ 64)(h:Q (g i j) H):rI CPow g (.int i) (.int j) H Q:=⟨i,j,rfl,rfl,c,h⟩
theorem wEqI{i j:Int}(h:Q (.bl (decide (V.int i=V.int j))) H):rEq (.int i) (.int j) H Q:=⟨rfl,h⟩
theorem wNeI{i j:Int}(h:Q (.bl (!decide (V.int i=V.int j))) H):rNe (.int i) (.int j) H Q:=⟨rfl,h⟩
theorem wTest{te:TE}{Q:Bool->Hp->Prop}(h:te σ H fun x H'=>∃ k,x=.bl k/\Q k H'):tTest te σ H Q:=h
theorem wB{te:TE}{Q:Bool->Hp->Prop}(h:te σ H fun x H'=>∃ k,x=.bl k/\Q k H'):tB te σ H Q:=h
theorem wBl{b:Bool}{Q:Bool->Prop}(h:Q b):∃ k,V.bl b=.bl k/\Q k:=⟨b,rfl,h⟩
theorem wNot{t:TT}{Q:Bool->Hp->Prop}(h:t σ H fun c H1=>Q (!c) H1):tNot t σ H Q:=h
theorem wNotV{ta:TE}(h:ta σ H fun x H1=>∃ c,x=.bl c/\Q (.bl (!c)) H1):tNotV ta σ H Q:=h
theorem wAndV{ta tb:TE}(h:ta σ H fun x H1=>∃ c,x=.bl c/\if c=true then tb σ H1 Q else Q (.bl false) H1):tAndV ta tb σ H Q:=h
theorem wOrV{ta tb:TE}(h:ta σ H fun x H1=>∃ c,x=.bl c/\if c=true then Q (.bl true) H1 else tb σ H1 Q):tOrV ta tb σ H Q:=h
theorem wIxL{p:Addr}{xs:List V}{i:Int}(e:H p=some (.lst xs))(a:atI xs i=some v)(h:Q v H):rIxL K (.ref p) (.int i) H Q:=⟨p,xs,i,v,rfl,rfl,SqL.of e,a,h⟩
theorem wIxT{p:Addr}{xs:List V}{i:Int}(e:H p=some (.tup xs))(a:atI xs i=some v)(h:Q v H):rIxT K (.ref p) (.int i) H Q:=⟨p,xs,i,v,rfl,rfl,SqT.of e,a,h⟩
theorem wNil{Q:List V->Hp->Prop}(h:Q [] H):tNil σ H Q:=h
theorem wCons{ta:TE}{tr:TA}{Q:List V->Hp->Prop}(h:ta σ H fun x H1=>tr σ H1 fun xs H2=>Q (x::xs) H2):tCons ta tr σ H Q:=h
theorem wLst{t:TA}(h:t σ H fun xs H1=>xs.length<=sizeLine /\ ∀ p,H1 p=none->Q (.ref p) (upd H1 p (.lst xs))):tLst t σ H Q:=h
theorem wTup{t:TA}(h:t σ H fun xs H1=>xs.length<=sizeLine /\ ∀ p,H1 p=none->Q (.ref p) (upd H1 p (.tup xs))):tTup t σ H Q:=h
theorem wBM{T:String}{r:V->List V->Hp->VK->Prop}{to:TE}{t:TA}(h:to σ H fun x H1=>tyV K T x H1/\t σ H1 fun xs H2=>r x xs H2 Q):tBM K T r to t σ H Q:=h
theorem wCall{sp:Sp}{E:XK}{t:TA}(h:t σ H fun vs H1=>sp (vs++[]) H1 Q E):tCall sp [] E t σ H Q:=h
theorem wCB{r:List V->Hp->VK->Prop}{t:TA}(h:t σ H fun vs H1=>r vs H1 Q):tCB r t σ H Q:=h
end
end SW
namespace SW
open PySem PySem.NumText
set_option maxHeartbeats 4000000 in
section
variable{prog:Program}{w:World}{A:Around}{E:Value->Shared->Prop}{s:Shared}{Q:Value->Shared->Prop}{x:PySem.Str}{t u:Tok}
end
end SW
namespace SW
open PySem PySem.Spec PyProof.Rows L2
noncomputable def pt(m:Int):Nat->Int
 | 0=>0
 | k+1=>pt m k*2+m / 2 ^ k % 2
theorem bit01(x:Int):x % 2=0∨x % 2=1:=by omega
theorem pt_range(m:Int):∀ k:Nat,0<=pt m k/\pt m k < 2 ^ k
 | 0=>⟨Int.le_refl _,by show(0:Int) < 1;decide⟩
 | k+1=>by
   have:=pt_range m k;have:=bit01 (m / 2 ^ k);rw[pt,Int.pow_succ];omega
noncomputable def KeepBut(p:Addr)(H H':Hp):Prop:=∀ b o,b≠p->H b=some o->H' b=some o
theorem KeepBut.refl(p:Addr)(H:Hp):KeepBut p H H:=fun _ _ _ h=>h
theorem KeepBut.trans{p:Addr}{H H1 H2:Hp}(a:KeepBut p H H1)(b:KeepBut p H1 H2):KeepBut p H H2:=fun c o n h=>b c o n (a c o n h)
theorem KeepBut.at{p:Addr}{o:HO}{H:Hp}:KeepBut p H (upd H p o):=fun b u n e=>by
 rw[upd_ne n];exact e
theorem Same.new{q:Addr}{o:HO}{H:Hp}(h:H q=none):Same H (upd H q o):=fun b u e=>by
 rw[upd_ne (ne_of_none e h)];exact e
theorem Same.but{p:Addr}{H H':Hp}(h:Same H H'):KeepBut p H H':=fun b o _ e=>h b o e
theorem atI_in{α:Type}{xs:List α}{i:Int}(h0:0<=i)(h1:i < xs.length):∃ v,atI xs i=some v/\v∈xs:=by
 obtain⟨j,rfl⟩:=Int.eq_ofNat_of_zero_le h0;have hj:j < xs.length:=by omega
 exact⟨xs[j],atI_nat (by simp[hj]),List.getElem_mem hj⟩
section
variable{X:Cx}
theorem call_isi:CallR X (.builtin "isinstance") (fun xs H Q=>∃ x T t b,xs=[x,.ty T]/\TyOf X.K H x t/\W.kitOne X.K t (.type T)=some b/\Q (.bl b) H):=by
 intro pins s σ H xs us Q I r h;obtain⟨x,T,t,b,rfl,ty,e,q⟩:=h;obtain⟨u,v,rfl,ru,rv⟩:=vals2 r;cases (show v=Value.type T from rv);exact isinst_ok I ru ty e fun tk=>⟨.bl b,H,I.tok tk,rfl,q⟩
end
theorem isi_int_int{K:W.Frag}:W.kitOne K (.type "int") (.type "int")=some true:=rfl
theorem isi_int_bool{K:W.Frag}:W.kitOne K (.type "int") (.type "bool")=some false:=by
 show W.kitOne [] (.type "int") (.type "bool")=some false
 decide +kernel
section
variable{D:Ends}{σ:L2.St}{H:Hp}{Q:VK}{v:V}{K:W.Frag}
theorem wFor{wi:TI}{g:TG}{tb:TS}(h:wi σ H fun J H1=>∃ W:Nat->Nat->L2.St->Hp->Prop,(∃ m,W 0 m σ H1) /\ ∀ i m σ H,W i m σ H ->
 (J.stop i H/\D.nx σ H)∨(J.go i H /\ ∃ N:L2.St->Hp->Prop,(∀ σ' H',N σ' H' -> ∃ m',m' < m/\W (i+1) m' σ' H') /\ ∀ x H',J.yld i H x H'->g x σ H' fun σ2 H2=>tb { D with nx:=N,ct:=N,bk:=D.nx } σ2 H2)):tFor wi g tb D σ H:=h
theorem wIList{tl:TE}{R:It->Hp->Prop}(h:tl σ H fun x H1=>∃ a,x=.ref a/\(∃ xs,SqL K H1 a xs)/\R (Itl K a) H1):iList K tl σ H R:=h
theorem wRng1{ta:TA}{R:It->Hp->Prop}(h:ta σ H fun vs H1=>∃ j:Int,vs=[.int j] /\ -(2 ^ 62)<=j/\j < 2 ^ 62/\R (Itr 0 j.toNat) H1):iRng1 ta σ H R:=h
theorem cut_ints(ns:List Int)(lo hi:Option Int):∃ cs:List Int,cutV (ns.map V.int) lo hi=cs.map V.int/\cs.length<=ns.length:=by
 unfold cutV;rw[← List.map_drop,← List.map_take];exact⟨_,rfl,by rw[List.length_take,List.length_drop];omega⟩
end
theorem iteY{c A B:Prop}[Decidable c](hc:c)(h:A):if decide c=true then A else B:=by
 rw[decide_eq_true hc];exact iteT h
theorem getInt{cs:List Int}{i:Nat}{y:V}(h:(cs.map V.int)[i]?=some y):∃ c,y=V.int c:=by
 rw[List.getElem?_map]at h;cases e:cs[i]? with
 | none=>rw[e]at h;cases h
 | some z=>rw[e]at h;exact⟨z,(Option.some.inj h).symm⟩
section
variable{H:Hp}{Q:VK}
end
theorem decI(a b:Int):decide (V.int a=V.int b)=decide (a=b):=by
 by_cases h:a=b
 · rw[decide_eq_true h,decide_eq_true (congrArg V.int h)]
 rw[decide_eq_false h,decide_eq_false (fun z=>h (V.int.inj z))]
theorem pt_half(m:Int)(k:Nat):pt m (k+1) / 2=pt m k:=by
 have:=bit01 (m / 2 ^ k);rw[pt];omega
theorem pt_mod(m:Int)(k:Nat):pt m (k+1) % 2=m / 2 ^ k % 2:=by
 have:=bit01 (m / 2 ^ k);rw[pt];omega
theorem p2(k:Nat):(0:Int) < 2 ^ k:=Int.pow_pos (by decide)
theorem pow_le_iff{j k:Nat}:(2:Int) ^ k<=2 ^ j ↔ k<=j:=by
 constructor
 · intro h
   by_cases hk:j < k
   · have:(2:Int) ^ j < 2 ^ k:=by
      obtain⟨d,rfl⟩:∃ d,k=j+1+d:=⟨k - (j+1),by omega⟩
      rw[Int.pow_add,Int.pow_succ];have:=p2 j;have:=p2 d;have h1:(2:Int) ^ j*2*1<=2 ^ j*2*2 ^ d:=Int.mul_le_mul_of_nonneg_left (by omega) (by omega)
      omega
     omega
   omega
 intro h;obtain⟨d,rfl⟩:∃ d,j=k+d:=⟨j - k,by omega⟩
 rw[Int.pow_add];have:=p2 k;have:=p2 d;have h1:(2:Int) ^ k*1<=2 ^ k*2 ^ d:=Int.mul_le_mul_of_nonneg_left (by omega) (by omega)
 omega
section
variable{D:Ends}{σ:L2.St}{H:Hp}{Q:VK}
theorem wAnd{t u:TT}{Q:Bool->Hp->Prop}(h:t σ H fun c H1=>if c=true then u σ H1 Q else Q false H1):tAnd t u σ H Q:=h
theorem wOr{t u:TT}{Q:Bool->Hp->Prop}(h:t σ H fun c H1=>if c=true then Q true H1 else u σ H1 Q):tOr t u σ H Q:=h
theorem wChain{r r':R2}{ta tb tc:TE}(h:ta σ H fun x H1=>tb σ H1 fun y H2=>r x y H2 fun z H3=>∃ k,z=.bl k/\(if k=true then tc σ H3 fun w' H4=>r' y w' H4 Q else Q (.bl false) H3)):tChain r r' ta tb tc σ H Q:=h
end
theorem iteNo{c A B:Prop}[Decidable c](hc:¬ c)(h:B):if decide c=true then A else B:=by
 rw[decide_eq_false hc];exact iteF h
theorem iteNN{c A B:Prop}[Decidable c](hc:¬ c)(h:A):if(!decide c)=true then A else B:=by
 rw[decide_eq_false hc];exact iteT h
theorem iteB{b:Bool}{A B:Prop}(h1:b=true->A)(h2:b=false->B):if b=true then A else B:=by
 cases b with
 | true=>exact iteT (h1 rfl)
 | false=>exact iteF (h2 rfl)
theorem vi{a b:Int}:V.int a=V.int b ↔ a=b:=⟨V.int.inj,congrArg _⟩
noncomputable def spMark:Sp:=fun vs H Q _=>∃(k:Int) (t:Addr) (f m:Int),vs=[.int k,.ref t]/\H t=some (.tup [.int f,.int m])/\(0<=f/\f<=65535)/\Q (.int ((k*f+m) % 65536)) H
noncomputable def spPlace:Sp:=fun vs H Q _=>∃ m s:Int,vs=[.int m,.int s]/\0 < s/\Q (.int (m % s)) H
noncomputable def spPoint:Sp:=fun vs H Q _=>∃ m:Int,vs=[.int m]/\Q (.int (pt m 16)) H
theorem wMark{k:Int}{t:Addr}{f m:Int}{H:Hp}{Q:VK}{E:XK}(h:H t=some (.tup [.int f,.int m]))(b:0<=f/\f<=65535)(q:Q (.int ((k*f+m) % 65536)) H):spMark ([.int k,.ref t]++[]) H Q E:=⟨k,t,f,m,rfl,h,b,q⟩
theorem wPlace{m s:Int}{H:Hp}{Q:VK}{E:XK}(h:0 < s)(q:Q (.int (m % s)) H):spPlace ([.int m,.int s]++[]) H Q E:=⟨m,s,rfl,h,q⟩
theorem wPoint{m:Int}{H:Hp}{Q:VK}{E:XK}(q:Q (.int (pt m 16)) H):spPoint ([.int m]++[]) H Q E:=⟨m,rfl,q⟩
noncomputable def compCx(X:Cx)(scope:Scope)(cl:List (Str×Addr))(N':List Str)(s:Shared)(H:Hp)(fp:List Addr)(pins:List (Addr×Obj)):Cx:=
 { X with N:=N',s₀:=s,H₀:=H,env:=compEnvC scope cl s.heap.objs.size X.env,outer:=X.stack,stack:=X.stack,ex:=fp,fn:=fun _=>false,pn:=X.pn++pins,xe:=fun _ _=>False }
structure CompScope(X:Cx)(scope:Scope)(cl:List (Str×Addr))(x:Str)(js:List Nat)(N':List Str):Prop where
 clos:closureFor scope X.env=pure cl
 kind:scope.kind=.function
 nocell:∀ y∈scope.names,y.2 ≠ .cell
 names:∀ y∈scope.names,y.2=.local->scope.names.lookup y.1=some .local
 own:scope.names.lookup x=some .local
 sub:∀ p∈cl,X.env.cells.lookup p.1=some p.2
 has:∀ y,((relabel scope X.env).names.lookup y=some .cell∨(relabel scope X.env).names.lookup y=some .free) -> ∃ c,cl.lookup y=some c
 nm:N'=x::js.map fun j=>X.N.getD j Str.empty
 see:∀(i j:Nat),js[i]?=some j -> ∃ y,X.N[j]?=some y/\(X.env.kindOf y=some .cell∨X.env.kindOf y=some .free)/\((relabel scope X.env).names.lookup y=some .cell∨(relabel scope X.env).names.lookup y=some .free)
noncomputable def seen(σ:L2.St)(js:List Nat):L2.St:=none::js.map fun j=>σ.getD j none
section
variable{X:Cx}{scope:Scope}{cl:List (Str×Addr)}{x:Str}{js:List Nat}{N':List Str}{pins:List (Addr×Obj)}{σ:L2.St}{H:Hp}{s:Shared}{fp:List Addr}
theorem CompScope.sub'(S:CompScope X scope cl x js N'){y:Str}{c:Addr}(h:cl.lookup y=some c):X.env.cells.lookup y=some c:=S.sub (y,c) (PySem.mem_of_lookup h)
theorem comp_ok(S:CompScope X scope cl x js N')(I:Inv X pins σ H s)(hf:∀ b∈fp,FpOk X pins H b)(ho:∀ b∈fp,b < s.heap.objs.size):(compCx X scope cl N' s H fp pins).Ok where
 mod:=I.ok.mod
 kind:=S.kind
 glob:=I.ok.glob
 blt:=I.ok.blt
 above:=Nat.le_refl _
 inj:=fun y z c h1 h2=>I.ok.inj y z c (S.sub' h1) (S.sub' h2)
 has:=fun y h=>S.has y h
 cab:=fun y c h=>absurd h Bool.false_ne_true
 hd:=I.ok.hd
 frames:=I.ok.frames
 stk:=.inl rfl
 exf:=fun b hb=>⟨Nat.ne_of_lt (ho b hb),fun y c h=>(hf b hb).2.2.2.2.1 y c (S.sub' h)⟩
 bs:=I.bs
 bsz:=Nat.le_trans I.ok.bsz I.sz
 noex:=fun b o e hb=>by
  rcases(hf b hb).2.2.2.1 with z | z
  · exact I.ok.noex b o e z
  exact absurd (Nat.lt_of_lt_of_le (Heap.lt_size (I.ok.bs b o e).1) z) (Nat.lt_irrefl _)
 exfs:=fun b hb z=>by
  rcases List.mem_cons.mp (I.stkSub b z)with e | e
  · exact(hf b hb).2.1 e
  exact(hf b hb).2.2.1 e
 funs:=I.stack
 frf:=I.stkFree
theorem comp_inv(S:CompScope X scope cl x js N')(I:Inv X pins σ H s)(hf:∀ b∈fp,FpOk X pins H b)(ho:∀ b∈fp,b < s.heap.objs.size){s4:Shared}{m:Str->Option Value}(hos:s4.os=s.os)(hg:s4.gens=s.gens)
 (hn:s4.heap.Ns s.heap.objs.size m) (hk:∀ b o,s.heap.get? b=some o->s4.heap.get? b=some o):Inv (compCx X scope cl N' s H fp pins) [] (seen σ js) H s4 where
 ok:=comp_ok S I hf ho
 os:=hos
 bare:=by rw[hg];exact I.bare
 base:=Un.kept hk
 loc:=by
  obtain⟨mX,_,hl⟩:=I.loc;refine⟨m,hn,fun i y v h1 h2 h3=>?_⟩;cases i with
  | zero=>
    unfold seen at h2;simp at h2
  | succ i=>
    have h1':N'[i+1]?=some y:=h1;rw[S.nm,List.getElem?_cons_succ,List.getElem?_map]at h1';unfold seen at h2;rw[List.getElem?_cons_succ,List.getElem?_map]at h2;cases ej:js[i]? with
    | none=>rw[ej]at h2;cases h2
    | some j=>
      rw[ej]at h1' h2;obtain⟨z,hz,k1,k2⟩:=S.see i j ej;have ey:z=y:=by
       have:X.N.getD j Str.empty=y:=Option.some.inj h1';rw[List.getD_eq_getElem?_getD,hz]at this;exact this
      subst ey;have ev:σ[j]?=some (some v):=by
       have q:σ.getD j none=some v:=Option.some.inj h2;rw[List.getD_eq_getElem?_getD]at q;cases e:σ[j]? with
       | none=>rw[e]at q;cases q
       | some w'=>rw[e]at q;exact congrArg some q
      have kx:X.env.scope.names.lookup z=some .cell∨X.env.scope.names.lookup z=some .free:=k1;obtain⟨u,r,l⟩:=hl j z v hz ev (.inr kx);refine⟨u,r,.inr ⟨k2,?_⟩⟩;obtain⟨c,hc⟩:=S.has z k2;rcases l with ⟨kl,_⟩ | ⟨_,c',e',cell⟩
      · rcases k1 with k1 | k1 <;> rw[k1]at kl <;> cases kl
      have:c'=c:=Option.some.inj (e'.symm.trans (S.sub' hc));subst this;obtain⟨o,q1,q2⟩:=cell;exact⟨c',hc,o,hk _ _ q1,q2⟩
 cell:=fun y c h=>by
  obtain⟨v,o,q1,q2⟩:=I.cell y c (S.sub' h);exact⟨v,o,hk _ _ q1,q2⟩
 free:=I.hok.fresh (Nat.le_refl _)
 freeC:=fun y c h=>I.freeC y c (S.sub' h)
 pin:=fun p hp=>by
  have hp':p∈X.pn++pins:=by
   have q:p∈(X.pn++pins)++[]:=hp;rw[List.append_nil]at q;exact q
  obtain⟨e,n,ne,nf,d⟩:=I.pin p hp';refine⟨hk _ _ e,n,Nat.ne_of_lt (Heap.lt_size e),fun z=>?_,d⟩;rcases List.mem_cons.mp (I.stkSub p.1 z)with q | q
  · exact ne q
  exact nf q
 hok:=I.hok.kept hk
 len:=by
  show(seen σ js).length=N'.length;rw[S.nm];unfold seen;simp
theorem comp_back{s':Shared}{σ':L2.St}{H':Hp}{h':Heap}(I:Inv X pins σ H s)(hf:∀ b∈fp,FpOk X pins H b)(J:Inv (compCx X scope cl N' s H fp pins) [] σ' H' s')(hs:Heap.SameBut s.heap.objs.size s'.heap h') :
 Inv X pins σ H' { s' with heap:=h' }:=by
 have ne:∀ b o,s.heap.get? b=some o->b≠s.heap.objs.size:=fun b o e=>Nat.ne_of_lt (Heap.lt_size e);have u0:Un (frs X.stack) fp H H' s.heap s'.heap:=J.base;have u:Un (frs X.stack) fp H H' s.heap h':=
  ⟨fun b o e n h1 h2=>(hs.2 b (ne b o e)).trans (u0.keep b o e n h1 h2),fun b o e n h1 h2=>let⟨sl,q⟩:=u0.slot b o e n h1 h2;⟨sl,(hs.2 b (ne b o e)).trans q⟩,u0.free,
   fun b o e h2=>let⟨o',q⟩:=u0.there b o e h2;⟨o',(hs.2 b (ne b o e)).trans q⟩,u0.tups,u0.frzs,u0.tbls⟩
 have hfree:H' s.heap.objs.size=none:=J.free;have hok:HOk X.prog X.w H' h':=fun b ob e=>by
  refine(J.hok b ob e).stay (fun c w' hc q=>(hs.2 c ?_).trans q) (fun _ q=>q) fun _ _ q=>q;rintro rfl;rcases hc with rfl | hc
  · rw[hfree]at e;cases e
  rw[hfree]at hc;cases hc
 exact I.call' (s':={ s' with heap:=h' }) J.os u hok J.bare fun b hb=>⟨(hf b hb).2.2.2.1,(hf b hb).2.1,(hf b hb).2.2.2.2.1,(hf b hb).2.2.2.2.2⟩
end
theorem comp_loop{prog:Program}{w:World}{A:Around}{R:Result->Shared->Prop}{s:Shared}{elt target iter:Expr}{ifs:List Expr}{scope:Scope}{pos:Pos}{it acc:Value}{env:Env}(I:Nat->Shared->Prop)
 (turn:∀ n s,I n s->wpAny (model prog w) A (pyNext it) (fun r s₁=>match r with
  | none=>R (.ok .next) s₁
  | some v=>wpAny (model prog w) A (letOwnedTupleGo target it v) (fun _ s₁'=>wpAny (model prog w) A (assign target env v) (fun _ s₂=>
   wpAny (model prog w) A (forIn ifs true fun c r=>if r=true then do let ok ← isTrue c env (eval c env);pure (ForInStep.yield ok)else pure (ForInStep.yield r)) (fun ok s₃=>
    if ok=true then wpAny (model prog w) A (eval elt env) (fun x s₄=>
     wpAny (model prog w) A (call (.builtin "list.append") [acc,x]) (fun _ s₅=>∃ m,m < n/\I m s₅) (fun _ _=>False) s₄) (fun _ _=>False) s₃
    else ∃ m,m < n/\I m s₃) (fun _ _=>False) s₂) (fun _ _=>False) s₁') (fun _ _=>False) s₁) (fun _ _=>False) s)
 (n:Nat) (h:I n s):codeAny (model prog w) A (.compLoop (.ListComp elt [⟨target,iter,ifs,0⟩] scope pos) 0 it acc env) R s:=by
 refine codeAny_loop rfl I (fun n s hI=>?_) n h;show wpAny _ A ((compTurn (.ListComp elt [⟨target,iter,ifs,0⟩] scope pos) 0 it acc env).onRaise (fun x=>do noteFrame x env;theTreesLotGoes x)) _ _ s;refine wpAny_noted ?_;rw[compTurn_list];refine wpAny_bind (wpAny_standAt (wpAny_bind (wpAny_mono (turn n s hI) (fun r s₁ h₁=>?_) fun _ _ h'=>h'.elim)));cases r with
 | none=>exact wpAny_pure h₁
 | some v=>
   refine wpAny_bind (wpAny_mono h₁ (fun _ s₁' h₁'=>?_) fun _ _ h'=>h'.elim);refine wpAny_bind (wpAny_mono h₁' (fun _ s₂ h₂=>wpAny_bind (wpAny_mono h₂ (fun ok s₃ h₃=>?_) fun _ _ h'=>h'.elim)) fun _ _ h'=>h'.elim);cases ok with
   | false=>exact wpAny_pure ⟨rfl,h₃⟩
   | true=>
     exact wpAny_bind (wpAny_bind (wpAny_mono h₃ (fun x s₄ h₄=>wpAny_bind (wpAny_mono h₄ (fun _ s₅ h₅=>wpAny_pure (wpAny_pure ⟨rfl,h₅⟩)) fun _ _ h'=>h'.elim)) fun _ _ h'=>h'.elim))
noncomputable def PTs(X:Cx)(ifs:List Expr)(t:TT):Prop:=
 ∀(pins:List (Addr×Obj)) (s:Shared) (σ:L2.St) (H:Hp) (Q:Bool->Hp->Prop) (E:Value->Shared->Prop),(∀ e s',X.xe e s'->E e s')->Inv X pins σ H s->t σ H Q ->
   wpAny (model X.prog X.w) X.A (forIn ifs true fun c r=>if r=true then do let ok ← isTrue c X.env (eval c X.env);pure (ForInStep.yield ok)else pure (ForInStep.yield r)) (TP X pins σ Q) E s
theorem pts_nil{X:Cx}:PTs X [] (fun _ H Q=>Q true H):=fun _ _ _ H _ _ _ I h=>wpAny_tests_nil ⟨H,I,h⟩
theorem pts_one{X:Cx}{c:Expr}{tc:TT}(hc:PT X c tc):PTs X [c] tc:=fun pins s σ H Q E hE I h=>wpAny_tests_one (wpAny_mono (hc pins s σ H Q I h) (fun _ _ q=>q) hE)
noncomputable def tComp(js:List Nat)(wi:TI)(tt:TT)(te:TE):TE:=fun σ H Q=>wi σ H fun J H1=>∀ D,H1 D=none -> ∃ W:Nat->Nat->L2.St->Hp->Prop,(∃ m,W 0 m (seen σ js) (upd H1 D (.lst []))) /\
 ∀ i m σ' H',W i m σ' H'->(J.stop i H'/\Q (.ref D) H')∨(J.go i H' /\ ∀ x H2,J.yld i H' x H2->tt (σ'.set 0 (some x)) H2 fun ok H3=>
   if ok=true then te (σ'.set 0 (some x)) H3 fun y H4=>∃ ys,H4 D=some (.lst ys)/\ys.length < sizeLine /\ ∃ m',m' < m/\W (i+1) m' (σ'.set 0 (some x)) (upd H4 D (.lst (ys++[y])))
   else ∃ m',m' < m/\W (i+1) m' (σ'.set 0 (some x)) H3)
section
variable{X:Cx}{scope:Scope}{cl:List (Str×Addr)}{x:Str}{js:List Nat}{N':List Str}{elt iter:Expr}{ifs:List Expr}{px pos:Pos}{wi:TI}{tt:TT}{te:TE}
theorem comp_core{RR:Value->Addr->Result->Shared->Prop}{pins:List (Addr×Obj)}{σ:L2.St}{H2:Hp}{s2:Shared}{Q:VK}{it:Addr}{fp:List Addr}{tn:Nat->Heap->Prop}{J:It}(S:CompScope X scope cl x js N')(nd:N'.Nodup)(hc:X.calm=true)
 (ht:∀ s H fp pins,PTs (compCx X scope cl N' s H fp pins) ifs tt) (he:∀ s H fp pins,PE (compCx X scope cl N' s H fp pins) elt te)
 (I2:Inv X pins σ H2 s2) (T:Turn X.prog X.w X.K (.Name x px) J fp it tn) (st2:tn 0 s2.heap) (f2:∀ b∈fp,FpOk X pins H2 b)
 (k:∀ D,H2 D=none -> ∃ W:Nat->Nat->L2.St->Hp->Prop,(∃ m,W 0 m (seen σ js) (upd H2 D (.lst []))) /\
  ∀ i m σ' H',W i m σ' H'->(J.stop i H'/\Q (.ref D) H')∨(J.go i H' /\ ∀ x H2,J.yld i H' x H2->tt (σ'.set 0 (some x)) H2 fun ok H3=>
    if ok=true then te (σ'.set 0 (some x)) H3 fun y H4=>∃ ys,H4 D=some (.lst ys)/\ys.length < sizeLine /\ ∃ m',m' < m/\W (i+1) m' (σ'.set 0 (some x)) (upd H4 D (.lst (ys++[y])))
    else ∃ m',m' < m/\W (i+1) m' (σ'.set 0 (some x)) H3))
 (fin:∀(D C:Addr) (s6:Shared) (H6:Hp) (m:Str->Option Value),s6.heap.Ns C m->(∀ h',Heap.SameBut C s6.heap h'->Inv X pins σ H6 { s6 with heap:=h' })->H6 C=none->FpOk X pins H6 C->Q (.ref D) H6->RR (.ref D) C (.ok .next) s6) :
 wpAny (model X.prog X.w) X.A (newList []) (fun acc s₃=>wpAny (model X.prog X.w) X.A (newFunctionEnv scope X.env.globals cl [] X.env.qual none .none (some X.env)) (fun cenv s₄=>
  codeAny (model X.prog X.w) X.A (.compStart (.ListComp elt [⟨.Name x px,iter,ifs,0⟩] scope pos) 0 (.ref it) acc { cenv with scope:=relabel scope X.env }) (RR acc cenv.locals) s₄) X.xe s₃) X.xe s2:=by
 have hDn:H2 s2.heap.objs.size=none:=I2.hok.fresh (Nat.le_refl _);obtain⟨W,⟨m0,w0⟩,turn⟩:=k s2.heap.objs.size hDn;refine wpAny_newObj_type (wpAny_newFunctionEnv S.nocell (by intro y hy;simp at hy) (fun h4 hns4 hsb4=>?_) S.kind) (by show 0<=sizeLine;exact Nat.zero_le _)
 have I3:Inv X pins σ (upd H2 s2.heap.objs.size (.lst [])) { s2 with heap:=s2.heap.push { cls:=.type "list",dict:=none,data:=.seq ([]:List Value).toArray } }:=
  I2.laid (t':=s2.toks) (fun b u e=>Heap.get?_push_of_some _ e) (Nat.le_refl _) ⟨Nat.zero_le _,[],0,.nil,Heap.get?_push_size _ rfl⟩
 have ltf:∀ b∈fp,b < s2.heap.objs.size:=fun b hb=>let⟨o,e,_⟩:=T.obj 0 _ st2 b hb;Heap.lt_size e;have f3:∀ b∈fp,FpOk X pins (upd H2 s2.heap.objs.size (.lst [])) b:=fun b hb=>⟨by rw[upd_ne (Nat.ne_of_lt (ltf b hb))];exact(f2 b hb).1,(f2 b hb).2⟩
 generalize hH:upd H2 s2.heap.objs.size (.lst [])=H3 at *;generalize hS3:({ s2 with heap:=s2.heap.push { cls:=.type "list",dict:=none,data:=.seq ([]:List Value).toArray } }:Shared)=s3 at *;have o3:∀ b∈fp,b < s3.heap.objs.size:=fun b hb=>by
  rw[← hS3];show b < (s2.heap.push _).objs.size;rw[Heap.size_push];exact Nat.lt_succ_of_lt (ltf b hb)
 have k4:∀ b o,s3.heap.get? b=some o->h4.get? b=some o:=fun b o e=>(hsb4.2 b (Nat.ne_of_lt (Heap.lt_size e))).trans (Heap.get?_push_of_some _ e);have st3:tn 0 s3.heap:=T.keep 0 _ _ st2 fun b hb o e=>by rw[← hS3];exact Heap.get?_push_of_some _ e
 have st4:tn 0 h4:=T.keep 0 _ _ st3 fun b hb o e=>k4 b o e;have I4:Inv (compCx X scope cl N' s3 H3 fp pins) [] (seen σ js) H3 { s3 with heap:=h4,toks:=s3.toks+([]:List (Str×Value)).length }:=comp_inv S I3 f3 o3 rfl rfl hns4 k4;have ok:=comp_ok S I3 f3 o3;have fp5:∀{H':Hp},(∀ b∈fp,H' b=none) -> ∀ b∈fp,FpOk (compCx X scope cl N' s3 H3 fp pins) [] H' b:=fun hn b hb=>
  ⟨hn b hb,Nat.ne_of_lt (o3 b hb),ok.exfs b hb,.inl hb,fun y c h=>(f3 b hb).2.2.2.2.1 y c (S.sub' h),fun p hp=>(f3 b hb).2.2.2.2.2 p (by
   have q:p∈(X.pn++pins)++[]:=hp;rw[List.append_nil]at q;exact q)⟩
 have loop:codeAny (model X.prog X.w) X.A (.compLoop (.ListComp elt [⟨.Name x px,iter,ifs,0⟩] scope pos) 0 (.ref it) (.ref s2.heap.objs.size) (compEnvC scope cl s3.heap.objs.size X.env))
  (RR (.ref s2.heap.objs.size) s3.heap.objs.size) { s3 with heap:=h4,toks:=s3.toks+([]:List (Str×Value)).length }:=by
  refine comp_loop (fun n s'=>∃ i σ' H',Inv (compCx X scope cl N' s3 H3 fp pins) [] σ' H' s'/\tn i s'.heap/\(∀ b∈fp,H' b=none)/\W i n σ' H') ?_ m0 ⟨0,_,_,I4,st4,fun b hb=>(f3 b hb).1,w0⟩;rintro n s5 ⟨i,σ5,H5,I5,st5,fr5,w5⟩;rcases turn i n σ5 H5 w5 with ⟨stop,q⟩ | ⟨go,step⟩
  · refine wpAny_mono (T.done (compCx X scope cl N' s3 H3 fp pins) rfl rfl rfl hc i [] s5 σ5 H5 (fun _ _=>False) I5 (fp5 fr5) st5 stop) (fun r s6 ⟨hr,I6⟩=>?_) (fun _ _ z=>z.elim)
    subst hr;obtain⟨m,hm,_⟩:=I6.loc;exact fin _ _ s6 H5 m hm (fun h' hs'=>comp_back I3 f3 I6 hs') I6.free (I3.fpOk (Nat.le_refl _) I6.free) q
  refine wpAny_mono (T.item (compCx X scope cl N' s3 H3 fp pins) rfl rfl rfl hc i [] s5 σ5 H5 (fun _ _=>False) I5 (fp5 fr5) st5 go) (fun r s6 ⟨u,hr,h6⟩=>?_) (fun _ _ z=>z.elim);subst hr;refine wpAny_mono h6 (fun _ s6 ⟨y,H6,I6,r6,y6,st6,fr6⟩=>?_) (fun _ _ z=>z.elim);have I6':=I6.pinned (fp5 fr6) (T.obj _ _ st6);have again:∀{σ7:L2.St}{H7:Hp}{s7:Shared}{m':Nat},Inv (compCx X scope cl N' s3 H3 fp pins) ([]++pinsAt fp s6.heap) σ7 H7 s7->m' < n->W (i+1) m' σ7 H7 ->
   ∃ m,m < n /\ ∃ i σ' H',Inv (compCx X scope cl N' s3 H3 fp pins) [] σ' H' s7/\tn i s7.heap/\(∀ b∈fp,H' b=none)/\W i m σ' H':=fun {σ7 H7 s7 m'} I7 hm w7=>by
   refine⟨m',hm,i+1,σ7,H7,I7.unpinned,T.keep _ _ _ st6 fun b hb o e=>(I7.pin (b,o) (List.mem_append_right _ (List.mem_append_right _ (mem_pinsAt hb e)))).1,fun b hb=>?_,w7⟩;obtain⟨o,e,d⟩:=T.obj _ _ st6 b hb;exact(I7.pin (b,o) (List.mem_append_right _ (List.mem_append_right _ (mem_pinsAt hb e)))).2.1
  have step':=step y H6 y6;refine wpAny_mono (pg_name (X:=compCx X scope cl N' s3 H3 fp pins) (i:=0) (x:=x) (pos:=px) nd (by show N'[0]?=some x;rw[S.nm];rfl) (.inl (lookup_relabel_local S.own)) (.inr (lookup_relabel_local S.own)) _ s6 σ5 H6 y u
   (fun σ' H'=>σ'=σ5.set 0 (some y)/\H'=H6) I6' r6 ⟨rfl,rfl⟩) (fun _ s7 ⟨σ7,H7,I7,e7,eH⟩=>?_) (fun _ _ z=>z.elim)
  subst e7;subst eH;refine wpAny_mono (ht s3 H3 fp pins _ s7 _ H7 _ (fun _ _=>False) (fun _ _ z=>z) I7 step') (fun okk s8 ⟨H8,I8,q8⟩=>?_) (fun _ _ z=>z.elim);cases okk with
  | false=>
    obtain⟨m',hm,w8⟩:=q8;exact again I8 hm w8
  | true=>
    refine wpAny_mono (he s3 H3 fp pins _ s8 _ H8 _ I8 q8) (fun ev s9 ⟨z,H9,I9,r9,ys,hys,hlen,m',hm,w9⟩=>?_) (fun _ _ z=>z.elim);refine wpAny_mono (mt_append (X:=compCx X scope cl N' s3 H3 fp pins) _ s9 _ H9 (.ref s2.heap.objs.size) [z] (.ref s2.heap.objs.size) [ev] (fun _ H'=>H'=upd H9 s2.heap.objs.size (.lst (ys++[z]))) I9 rfl (.cons r9 .nil)
     ⟨_,ys,z,rfl,rfl,hys,hlen,rfl⟩) (fun _ s10 ⟨_,H10,I10,_,e10⟩=>?_) (fun _ _ z=>z.elim)
    subst e10;exact again I10 hm w9
 exact codeAny_compStart_list loop (T.self X.A 0 _ _ _ st4 loop)
theorem pe_comp(S:CompScope X scope cl x js N')(nd:N'.Nodup)(hc:X.calm=true)(hi:PI X (.Name x px) iter wi)
 (ht:∀ s H fp pins,PTs (compCx X scope cl N' s H fp pins) ifs tt) (he:∀ s H fp pins,PE (compCx X scope cl N' s H fp pins) elt te)
 (hs:∀ x,foldedSetIterable iter X.env x=pure x:=by intro _;rfl):PE X (.ListComp elt [⟨.Name x px,iter,ifs,0⟩] scope pos) (tComp js wi tt te):=by
 intro pins s σ H Q I h;rw[eval_ListComp];refine wpAny_comprehension_free (use:=none) rfl hs S.clos S.kind S.names (thn (hi pins s σ H _ I h) fun v s1 h1=>thn h1 fun itv s2 h2=>?_);obtain⟨it,fp,tn,J,H2,e,I2,T,st2,f2,k⟩:=h2;subst e;exact comp_core (RR:=fun acc C=>compPost (model X.prog X.w) X.A X.xe none (EP X pins σ Q) acc C) S nd hc ht he I2 T st2 f2 k fun D C s6 H6 m hm back _ _ q=>⟨m,hm,fun h' hs'=>⟨.ref D,H6,back h' hs',rfl,q⟩⟩
noncomputable def tCompSet(i:Nat)(t:TE):TS:=fun D σ H=>t σ H fun v H1=>D.nx (σ.set i (some v)) H1
theorem ps_compSet{i:Nat}{y:Str}{py spos:Pos}(S:CompScope X scope cl x js N')(nd:N'.Nodup)(hc:X.calm=true)(hi:PI X (.Name x px) iter wi)
 (ht:∀ s H fp pins,PTs (compCx X scope cl N' s H fp pins) ifs tt) (he:∀ s H fp pins,PE (compCx X scope cl N' s H fp pins) elt te)
 (hN:X.N.Nodup) (hy:X.N[i]?=some y) (hl:Loc X.env.scope y) (hf:X.fn y=true∨X.env.scope.names.lookup y=some .local)
 (hsw:swapsWith (.ListComp elt [⟨.Name x px,iter,ifs,0⟩] scope pos) (some (.Name y py)) spos.line X.env=pure true)
 (hs:∀ x,foldedSetIterable iter X.env x=pure x:=by intro _;rfl):PS X (.Assign [.Name y py] (.ListComp elt [⟨.Name x px,iter,ifs,0⟩] scope pos) spos) (tCompSet i (tComp js wi tt te)):=by
 intro pins s σ H D I h;rw[exec_Assign_Name_used _ _ _ _ hsw];refine wpAny_bind (wpAny_standAt (wpAny_bind ?_));show wpAny _ X.A (do let _ ← comprehension (.ListComp elt [⟨.Name x px,iter,ifs,0⟩] scope pos) scope X.env _ (newList []) false (eval iter X.env) (some (assign (.Name y py) X.env))) _ _ s;refine wpAny_bind (wpAny_mono (wpAny_comprehension_free (use:=some (assign (.Name y py) X.env)) (Q:=fun _ s'=>SP X pins D .next s') rfl hs S.clos S.kind S.names
  (thn (hi pins s σ H _ I h) fun v s1 h1=>thn h1 fun itv s2 h2=>?_)) (fun _ s' hq=>wpAny_pure (wpAny_pure hq)) fun _ _ e=>e)
 obtain⟨it,fp,tn,J,H2,e,I2,T,st2,f2,k⟩:=h2;subst e;refine comp_core (Q:=fun v H1=>D.nx (σ.set i (some v)) H1) (RR:=fun acc C=>compPost (model X.prog X.w) X.A X.xe (some (assign (.Name y py) X.env)) (fun _ s'=>SP X pins D .next s') acc C) S nd hc ht he I2 T st2 f2 k fun A C s6 H6 m hm back hC fC q=>?_;have I6:Inv X pins σ H6 s6:=back s6.heap (Heap.SameBut.refl ..);obtain⟨oC,es,ep,hoC,hdC,hr⟩:=id hm;have I7:Inv X (pins++[(C,oC)]) σ H6 s6:=I6.pins_of fun p hp=>by
  rcases List.mem_append.mp hp with z | z
  · exact I6.pin p (List.mem_append_right _ z)
  rw[List.mem_singleton.mp z];exact⟨hoC,hC,fC.2.1,fC.2.2.1,fun v e=>by rw[hdC]at e;cases e⟩
 show wpAny _ X.A (assign (.Name y py) X.env (.ref A)) _ _ s6;refine thn (pg_name hN hy hl hf _ s6 σ H6 (.ref A) (.ref A) (fun σ' H'=>σ'=σ.set i (some (.ref A))/\H'=H6) I7 rfl ⟨rfl,rfl⟩) fun _ s8 zz=>?_;obtain⟨σ8,H8,I8,e8,e9⟩:=zz;subst e8;subst e9;have h8:s8.heap.get? C=some oC:=(I8.pin (C,oC) (List.mem_append_right _ (List.mem_append_right _ (List.mem_singleton.mpr rfl)))).1;refine⟨m,⟨oC,es,ep,h8,hdC,hr⟩,fun h' hs'=>⟨_,H8,?_,q⟩⟩;have I9:Inv X pins (σ.set i (some (.ref A))) H8 s8:=I8.pins_of fun p hp=>I8.pin p (List.mem_append_right _ (List.mem_append_left _ hp));exact I9.turned (t':=s8.toks) (fun b o hb e=>(hs'.2 b hb).trans e) hC fC.2.1 fC.2.2.2.1 fC.2.2.2.2.1 fC.2.2.2.2.2
end
noncomputable def SubCl(cells:List (Str×Addr)):List (Str×Addr)->Prop
 | []=>True
 | p::r=>cells.lookup p.1=some p.2/\SubCl cells r
theorem SubCl.all{cells:List (Str×Addr)}:∀{cl:List (Str×Addr)},SubCl cells cl -> ∀ p∈cl,cells.lookup p.1=some p.2
 | _::_,h,p,hp=>by
   rcases List.mem_cons.mp hp with rfl | hp
   · exact h.1
   exact SubCl.all h.2 p hp
noncomputable def isCF(k:Option NameKind):Bool:=k == some .cell || k == some .free
theorem isCF_of{k:Option NameKind}(h:isCF k=true):k=some .cell∨k=some .free:=by
 unfold isCF at h;rw[Bool.or_eq_true]at h;exact h.imp beq_iff_eq.mp beq_iff_eq.mp
theorem CompScope.of{X:Cx}{scope:Scope}{cl:List (Str×Addr)}{x:Str}{js:List Nat}{N':List Str}(clos:closureFor scope X.env=pure cl)(kind:scope.kind=.function)(nocell:scope.names.all (fun y=>y.2 != .cell)=true)
 (names:scope.names.all (fun y=>y.2 != .local || scope.names.lookup y.1 == some .local)=true) (own:scope.names.lookup x=some .local) (sub:SubCl X.env.cells cl)
 (has:(relabel scope X.env).names.all (fun p=>!isCF (some p.2) || (cl.lookup p.1).isSome)=true) (nm:N'=x::js.map fun j=>X.N.getD j Str.empty)
 (see:js.all (fun j=>match X.N[j]? with | some y=>isCF (X.env.kindOf y) && isCF ((relabel scope X.env).names.lookup y) | none=>false)=true):CompScope X scope cl x js N' where
 clos:=clos
 kind:=kind
 nocell:=fun y hy=>by
  have:=List.all_eq_true.mp nocell y hy;exact bne_iff_ne.mp this
 names:=fun y hy e=>by
  have:=List.all_eq_true.mp names y hy;rw[e]at this;exact beq_iff_eq.mp (by simpa using this)
 own:=own
 sub:=sub.all
 has:=fun y h=>by
  have go:∀ k,(relabel scope X.env).names.lookup y=some k->isCF (some k)=true -> ∃ c,cl.lookup y=some c:=fun k hk hc=>by
   have:=List.all_eq_true.mp has (y,k) (PySem.mem_of_lookup hk);simp only[hc,Bool.not_true,Bool.false_or]at this;exact Option.isSome_iff_exists.mp this
  rcases h with h | h
  · exact go _ h rfl
  exact go _ h rfl
 nm:=nm
 see:=fun i j e=>by
  have:=List.all_eq_true.mp see j (List.mem_of_getElem? e);cases ey:X.N[j]? with
  | none=>rw[ey]at this;cases this
  | some y=>
    rw[ey]at this;rw[Bool.and_eq_true]at this;exact⟨y,rfl,isCF_of this.1,isCF_of this.2⟩
namespace B
section
variable{X:Cx}{scope:Scope}{cl:List (Str×Addr)}{x:Str}{N':List Str}{elt iter c:Expr}{px pos:Pos}{wi:TI}{te:TE}{tc:TT}
theorem comp(js:List Nat)(N':List Str)(S:CompScope X scope cl x js N')(nd:N'.Nodup)(hi:Bx (PI X (.Name x px) iter wi))(he:∀ s H fp pins,Bx (PE (compCx X scope cl N' s H fp pins) elt te))(hc:X.calm=true:=by rfl)
 (hs:∀ x,foldedSetIterable iter X.env x=pure x:=by intro _;rfl):Bx (PE X (.ListComp elt [⟨.Name x px,iter,[],0⟩] scope pos) (tComp js wi (fun _ H Q=>Q true H) te)):=
 ⟨pe_comp S nd hc hi.out (fun _ _ _ _=>pts_nil) (fun s H fp pins=>(he s H fp pins).out) hs⟩
theorem compIf(js:List Nat)(N':List Str)(S:CompScope X scope cl x js N')(nd:N'.Nodup)(hi:Bx (PI X (.Name x px) iter wi))(hcc:∀ s H fp pins,Bx (PT (compCx X scope cl N' s H fp pins) c tc))(he:∀ s H fp pins,Bx (PE (compCx X scope cl N' s H fp pins) elt te))(hc:X.calm=true:=by rfl)
 (hs:∀ x,foldedSetIterable iter X.env x=pure x:=by intro _;rfl):Bx (PE X (.ListComp elt [⟨.Name x px,iter,[c],0⟩] scope pos) (tComp js wi tc te)):=
 ⟨pe_comp S nd hc hi.out (fun s H fp pins=>pts_one (hcc s H fp pins).out) (fun s H fp pins=>(he s H fp pins).out) hs⟩
theorem compSet(i:Nat)(js:List Nat)(N':List Str){y:Str}{py spos:Pos}(S:CompScope X scope cl x js N')(nd:N'.Nodup)(hN:X.N.Nodup)(hi:Bx (PI X (.Name x px) iter wi))(he:∀ s H fp pins,Bx (PE (compCx X scope cl N' s H fp pins) elt te))(hc:X.calm=true:=by rfl)
 (hy:X.N[i]?=some y:=by rfl) (hl:Loc X.env.scope y:=by first | exact Or.inl rfl | exact Or.inr rfl) (hf:X.fn y=true∨X.env.scope.names.lookup y=some .local:=by first | exact .inl rfl | exact .inr rfl)
 (hsw:swapsWith (.ListComp elt [⟨.Name x px,iter,[],0⟩] scope pos) (some (.Name y py)) spos.line X.env=pure true:=by rfl)
 (hs:∀ x,foldedSetIterable iter X.env x=pure x:=by intro _;rfl):Bx (PS X (.Assign [.Name y py] (.ListComp elt [⟨.Name x px,iter,[],0⟩] scope pos) spos) (tCompSet i (tComp js wi (fun _ H Q=>Q true H) te))):=
 ⟨ps_compSet S nd hc hi.out (fun _ _ _ _=>pts_nil) (fun s H fp pins=>(he s H fp pins).out) hN hy hl hf hsw hs⟩
end
end B
section
variable{X:Cx}
theorem fold_rep(c:Nat):∀(n:Nat) (acc:Array Nat),((List.replicate n (#[c]:Array Nat)).foldl (· ++ ·) acc).toList=acc.toList++List.replicate n c
 | 0,acc=>by simp
 | n+1,acc=>by
   rw[List.replicate_succ,List.foldl_cons,fold_rep c n,List.replicate_succ];simp
theorem op_mulS:OpR X (binaryOp .Mult) (fun x y H Q=>∃(z:PySem.Str) (n:Int) (c:Nat),x=.str z/\y=.int n/\1 < n/\n<=1000/\z.cps.toList=[c] /\ ∀ z':PySem.Str,z'.cps.toList=List.replicate n.toNat c->Q (.str z') H):=by
 intro pins s σ H x y v u Q I rx ry h;obtain⟨z,n,c,rfl,rfl,h1,h2,hz,q⟩:=h;obtain⟨t,rfl⟩:=rx;obtain⟨t',rfl⟩:=ry;have ez:z.cps=#[c]:=by
  apply Array.ext'
  exact hz
 have el:z.length=1:=by show z.cps.size=1;rw[ez];rfl
 have em:(Txt.mul z n).cps.toList=List.replicate n.toNat c:=by
  unfold Txt.mul;rw[if_neg (by omega),if_neg (by
   rw[el];intro h;rcases Bool.or_eq_true _ _ ▸ h with h | h
   · have:=beq_iff_eq.mp h
     omega
   exact absurd h (by decide))]
  rw[ez,fold_rep]
  rfl
 refine SB.mul ⟨?_,?_,?_⟩ fun t'' k=>⟨.str (Txt.mul z n),H,I.tok k,⟨_,rfl⟩,q _ em⟩
 · simp only[Bool.or_eq_false_iff,decide_eq_false_iff_not]
   constructor <;> omega
 · intro _ _ h
   rw[el]at h;have:(2 ^ 63 - 1:Int) / n ≥ 1:=by
    have:(2 ^ 63 - 1:Int) / n*n+(2 ^ 63 - 1:Int) % n=2 ^ 63 - 1:=Int.ediv_mul_add_emod ..;have h3:=Int.emod_lt_of_pos (2 ^ 63 - 1:Int) (show 0 < n by omega)
    by_cases hq:(2 ^ 63 - 1:Int) / n ≥ 1
    · exact hq
    have h4:(2 ^ 63 - 1:Int) / n*n<=0:=Int.mul_nonpos_of_nonpos_of_nonneg (by omega) (by omega)
    omega
   omega
 intro _ _;rw[el,Nat.one_mul];unfold Builtin.Str.tooLong;have:n.toNat < sizeLine:=small1000 (by omega)
 exact decide_eq_false (by omega)
end
theorem wComp{σ:L2.St}{H:Hp}{Q:VK}{js:List Nat}{wi:TI}{tt:TT}{te:TE}(h:wi σ H fun J H1=>∀ D,H1 D=none -> ∃ W:Nat->Nat->L2.St->Hp->Prop,(∃ m,W 0 m (seen σ js) (upd H1 D (.lst []))) /\
 ∀ i m σ' H',W i m σ' H'->(J.stop i H'/\Q (.ref D) H')∨(J.go i H' /\ ∀ x H2,J.yld i H' x H2->tt (σ'.set 0 (some x)) H2 fun ok H3=>
   if ok=true then te (σ'.set 0 (some x)) H3 fun y H4=>∃ ys,H4 D=some (.lst ys)/\ys.length < sizeLine /\ ∃ m',m' < m/\W (i+1) m' (σ'.set 0 (some x)) (upd H4 D (.lst (ys++[y])))
   else ∃ m',m' < m/\W (i+1) m' (σ'.set 0 (some x)) H3)):tComp js wi tt te σ H Q:=h
theorem pt_more{p:Int}{n:Nat}(h0:0<=p)(h1:p < 2 ^ n):∀ k:Nat,pt p (n+k)=pt p n*2 ^ k
 | 0=>by rw[Int.pow_zero,Int.mul_one];rfl
 | k+1=>by
   have e:p / 2 ^ (n+k)=0:=by
    refine Int.ediv_eq_zero_of_lt h0 (Int.lt_of_lt_of_le h1 (pow_le_iff.mpr (by omega)))
   show pt p (n+k)*2+p / 2 ^ (n+k) % 2=_;rw[pt_more h0 h1 k,e,Int.pow_succ,Int.mul_assoc];show _+0=_;rw[Int.add_zero]
noncomputable def spStretch:Sp:=fun vs H Q _=>∃ p s:Int,vs=[.int p,.int s]/\(0 < s/\s < 1073741824) /\ ∀ t,H t=none->Q (.ref t) (L2.upd H t (.tup [.int (pt p 16),.int (pt p 16+65536 / s - 1)]))
theorem wStretch{p s:Int}{H:Hp}{Q:VK}{E:XK}(hs:0 < s/\s < 1073741824)(q:∀ t,H t=none->Q (.ref t) (L2.upd H t (.tup [.int (pt p 16),.int (pt p 16+65536 / s - 1)]))):spStretch ([.int p,.int s]++[]) H Q E:=⟨p,s,rfl,hs,q⟩
theorem ix_tupK(K:W.Frag){X:Cx}(h:X.K=K:=by rfl):IxR X (rIxT K):=by subst h;exact ix_tup
mutual
inductive DatV(K:W.Frag)(H:Hp):V->PyData->Prop
 | non:DatV K H .non .none
 | bl (b:Bool):DatV K H (.bl b) (.bool b)
 | int (i:Int):DatV K H (.int i) (.int i)
 | str (x:PySem.Str):DatV K H (.str x) (.str x)
 | lst {a:Addr}{xs:List V}{ds:List PyData} (h:SqL K H a xs) (r:DatVs K H xs ds):DatV K H (.ref a) (.list ds)
 | tup {a:Addr}{xs:List V}{ds:List PyData} (h:SqT K H a xs) (r:DatVs K H xs ds):DatV K H (.ref a) (.tuple ds)
inductive DatVs(K:W.Frag)(H:Hp):List V->List PyData->Prop
 | nil:DatVs K H [] []
 | cons {x:V}{xs:List V}{d:PyData}{ds:List PyData} (h:DatV K H x d) (r:DatVs K H xs ds):DatVs K H (x::xs) (d::ds)
end
section
variable{X:Cx}{pins:List (Addr×Obj)}{σ:L2.St}{H:Hp}{s:Shared}
mutual
theorem reads_of(I:Inv X pins σ H s):∀{v:V}{d:PyData}{u:Value},DatV X.K H v d->RelV v u -> ∃ as,Reads s.heap u d as
 | _,_,u,.non,r=>by
   cases (show u=Value.none from r);exact⟨_,.none⟩
 | _,_,u,.bl b,r=>by
   cases (show u=Value.bool b from r);exact⟨_,.bool b⟩
 | _,_,u,.int i,r=>by
   obtain⟨t,e⟩:=(show ∃ t,u=Value.int i t from r);cases e;exact⟨_,.int i t⟩
 | _,_,u,.str x,r=>by
   obtain⟨t,e⟩:=(show ∃ t,u=Value.str x t from r);cases e;exact⟨_,.str x t⟩
 | _,_,u,.lst (a:=a) h q,r=>by
   cases (show u=Value.ref a from r);obtain⟨its,rv,⟨o,n,e,c,_,d⟩,_⟩:=I.list h;obtain⟨as,z⟩:=reads_all I q rv;exact⟨_,.list e c d (by simpa using z)⟩
 | _,_,u,.tup (a:=a) h q,r=>by
   cases (show u=Value.ref a from r);obtain⟨its,rv,⟨o,e,c,n,d⟩,_⟩:=I.tuple h;obtain⟨as,z⟩:=reads_all I q rv;exact⟨_,.tuple e c d (by simpa using z)⟩
theorem reads_all(I:Inv X pins σ H s):∀{xs:List V}{ds:List PyData}{us:List Value},DatVs X.K H xs ds->Vals xs us -> ∃ as,ReadsAll s.heap us ds as
 | _,_,_,.nil,.nil=>⟨_,.nil⟩
 | _,_,_,.cons h r,.cons q qs=>by
   obtain⟨a1,z1⟩:=reads_of I h q;obtain⟨a2,z2⟩:=reads_all I r qs;exact⟨_,.cons z1 z2⟩
end
noncomputable def rNeD(K:W.Frag):R2:=fun x y H Q=>∃ d e,DatV K H x d/\DatV K H y e/\d.canLay0=true/\e.canLay0=true/\d.depth<=60/\Q (.bl (!PyData.eqv d e)) H
theorem op_neD(K:W.Frag)(hu:X.A.units+64 < cLine)(hK:X.K=K:=by rfl):OpR X (compareOp .NotEq) (rNeD K):=by
 subst hK;intro pins s σ H x y v u Q I rx ry h;obtain⟨d,e,hd,he,c1,c2,dp,q⟩:=h;obtain⟨as,r1⟩:=reads_of I hd rx;obtain⟨bs,r2⟩:=reads_of I he ry;exact SeqAt.compareNe_reads r1 r2 c1 c2 (by omega) ⟨.bl _,H,I,rfl,q⟩
theorem wNeSame{K:W.Frag}{H:Hp}{Q:VK}{x y:V}{d:PyData}(hx:DatV K H x d)(hy:DatV K H y d)(c:d.canLay0=true)(dp:d.depth<=60)(q:Q (.bl false) H):rNeD K x y H Q:=
 ⟨d,d,hx,hy,c,c,dp,by rw[SeqAt.eqv_refl d c];exact q⟩
end
noncomputable def ViewO(v d:Addr):HO:=.ext fun h=>h.IsItemsView v d
noncomputable def over(n:Nat)(H N:Hp):Hp:=fun b=>if b < n then H b else N b
theorem over_old{n:Nat}{H N:Hp}{b:Addr}(h:b < n):over n H N b=H b:=if_pos h
theorem over_new{n:Nat}{H N:Hp}{b:Addr}(h:n<=b):over n H N b=N b:=if_neg (Nat.not_lt.mpr h)
section
variable{X:Cx}{pins:List (Addr×Obj)}{σ:L2.St}{H N:Hp}{s:Shared}{h':Heap}
theorem Inv.over{t':Nat}(I:Inv X pins σ H s)(k:∀ b u,s.heap.get? b=some u->h'.get? b=some u)(new:∀ b o,s.heap.objs.size<=b->N b=some o->ObjOk X.prog X.w (over s.heap.objs.size H N) h' b o) :
 Inv X pins σ (over s.heap.objs.size H N) { s with heap:=h',toks:=t' }:=by
 have lt:∀ b o,H b=some o->b < s.heap.objs.size:=fun b o e=>I.hok.lt e;refine I.un ⟨fun b u q _ _ _=>k b u q,fun b u q _ _ _=>⟨u.slots,k b u q⟩,fun b u q n _=>?_,fun b u q _=>⟨u,k b u q⟩,fun b xs q=>?_,fun b u xs q=>?_,fun b ps q=>⟨#[],?_⟩⟩ fun b o e=>?_
 · rw[over_old (Heap.lt_size q)];exact n
 · rw[over_old (lt _ _ q)];exact q
 · rw[over_old (lt _ _ q)];exact q
 · rw[over_old (lt _ _ q),q];simp
 by_cases hb:b < s.heap.objs.size
 · rw[over_old hb]at e
   exact(I.hok b o e).stay (fun c v _ q=>k c v q) (fun c q=>by rw[over_old (lt _ _ q)];exact q) fun c xs q=>by rw[over_old (lt _ _ q)];exact q
 have hb:=Nat.not_lt.mp hb;rw[over_new hb]at e;exact new b o hb e
end
noncomputable def newIt(l:Addr)(as:List Addr)(kvs:List (Key×V)):Hp:=fun b=>if b=l then some (.lst (as.map V.ref))else((as.zip kvs).find? fun p=>decide (p.1=b)).map fun p=>.tup [kV p.2.1,p.2.2]
theorem newIt_at{l:Addr}{as:List Addr}{kvs:List (Key×V)}(nd:as.Nodup):∀{j:Nat}{a:Addr}{k:Key}{x:V},a≠l->as[j]?=some a->kvs[j]?=some (k,x)->newIt l as kvs a=some (.tup [kV k,x]):=by
 intro j a k x hl h1 h2;unfold newIt;rw[if_neg hl];have key:∀(as:List Addr) (kvs:List (Key×V)) (j:Nat),as.Nodup->as[j]?=some a->kvs[j]?=some (k,x)->((as.zip kvs).find? fun p=>decide (p.1=a))=some (a,(k,x)):=by
  intro as
  induction as with
  | nil=>intro kvs j _ h;simp at h
  | cons b as ih=>
    intro kvs j nd h1 h2;cases kvs with
    | nil=>simp at h2
    | cons p kvs=>
      cases j with
      | zero=>
        simp at h1 h2;subst h1;subst h2;simp
      | succ j=>
        simp at h1 h2;have hm:a∈as:=List.mem_of_getElem? h1;have hne:b≠a:=fun e=>(List.nodup_cons.mp nd).1 (e ▸ hm);rw[List.zip_cons_cons,List.find?_cons_of_neg (by simpa using hne)]
        exact ih kvs j (List.nodup_cons.mp nd).2 h1 h2
 rw[key as kvs j nd h1 h2]
 rfl
theorem newIt_inv{l:Addr}{as:List Addr}{kvs:List (Key×V)}{b:Addr}{o:HO}(hl:as.length=kvs.length)(h:newIt l as kvs b=some o):(b=l/\o=.lst (as.map V.ref)) ∨ ∃(j:Nat) (k:Key) (x:V),as[j]?=some b/\kvs[j]?=some (k,x)/\o=.tup [kV k,x]:=by
 unfold newIt at h;split at h
 · rename_i e
   exact .inl ⟨e,(Option.some.inj h).symm⟩
 obtain⟨p,hp,e⟩:=Option.map_eq_some_iff.mp h;have hm:=List.mem_of_find?_eq_some hp;have hb0:decide (p.1=b)=true:=List.find?_some (p:=fun p:Addr×(Key×V)=>decide (p.1=b)) hp;have hb:=of_decide_eq_true hb0;obtain⟨j,hj⟩:=List.mem_iff_getElem?.mp hm;rw[List.getElem?_zip_eq_some]at hj;exact .inr ⟨j,p.2.1,p.2.2,by rw[← hb];exact hj.1,hj.2,e.symm⟩
theorem kv_get:∀{kvs:List (Key×V)}{vs:List (Key×Value)}{j:Nat}{k:Key}{y:Value},KV kvs vs->vs[j]?=some (k,y) -> ∃ x,kvs[j]?=some (k,x)/\RelV x y
 | _,_,_,_,_,.nil,e=>by simp at e
 | _,_,0,_,_,.cons (a:=a) r _,e=>by
   simp at e;subst e;exact⟨a.2,by rw[List.getElem?_cons_zero];exact congrArg some (Prod.ext r.1 rfl),r.2⟩
 | _,_,j+1,_,_,.cons _ t,e=>by
   obtain⟨x,h1,h2⟩:=kv_get (j:=j) t (by simpa using e)
   exact⟨x,by simpa using h1,h2⟩
theorem kV_rel{k:Key}{v:Value}(h:keyIs k v=true):RelV (kV k) v:=by
 rcases keyIs_shape h with ⟨i,t,rfl,rfl⟩ | ⟨x,t,rfl,rfl⟩
 · exact⟨t,rfl⟩
 exact⟨t,rfl⟩
theorem vals_refs:∀ as:List Addr,Vals (as.map V.ref) (as.map Value.ref)
 | []=>.nil
 | _::as=>.cons rfl (vals_refs as)
section
variable{X:Cx}
theorem call_list_items:CallR X (.type "list") (fun xs H Q=>∃ v d kvs,xs=[.ref v]/\H v=some (ViewO v d)/\H d=some (.dK kvs)/\X.calm=true /\ ∀(l:Addr) (as:List Addr) (H':Hp),Same H H'->H l=none->H' l=some (.lst (as.map V.ref))->as.length=kvs.length ->
 (∀(j:Nat) (a:Addr),as[j]?=some a->H a=none /\ ∃ k x,kvs[j]?=some (k,x)/\H' a=some (.tup [kV k,x]))->Q (.ref l) H'):=by
 intro pins s σ H xs us Q I r h;obtain⟨v,d,kvs,rfl,hv,hd,hc,q⟩:=h;obtain⟨u,rfl,rx⟩:=vals1 r;cases rx;obtain⟨pv,_,_⟩:=(show ObjOk X.prog X.w H s.heap v (ViewO v d)from I.hok v _ hv);obtain⟨z,hsys,vs,rel,dd⟩:=dk_rd I.hok (.inl hd);obtain⟨ep,hat⟩:=dd.dictAt;have lenKV:kvs.length=vs.length:=Paired.length rel;refine W.kdx_call (knd:=mixKind X.prog X.w) (I.ok.hd hc) pv hat (by omega) fun h' tk acc c as hk hS hl hG hacc=>?_
 have hl':as.length=kvs.length:=by omega
 have nd:as.Nodup:=hG.rise.imp fun h=>Nat.ne_of_lt h;have ab:∀ a∈as,s.heap.objs.size < a:=hG.above;have get:∀(j:Nat) (a:Addr),as[j]?=some a -> ∃ key k x y,kvs[j]?=some (k,x)/\keyIs k key=true/\RelV x y/\h'.get? a=some { cls:=.type "tuple",data:=.seq #[key,y] }:=fun j a e=>by
  obtain⟨key,k,y,e1,e2,e3⟩:=hG.pairs j a e;obtain⟨x,h1,h2⟩:=kv_get rel e1;exact⟨key,k,x,y,h1,e2,h2,e3⟩
 have I':=Inv.over (N:=newIt s.heap.objs.size as kvs) (t':=tk) I hk fun b o hb e=>by
  rcases newIt_inv hl' e with ⟨rfl,rfl⟩ | ⟨j,k,x,e1,e2,rfl⟩
  · refine⟨by rw[List.length_map];omega,as.map Value.ref,c,vals_refs as,?_⟩
    have ea:(as.map Value.ref).toArray=acc:=by rw[← hacc]
    rw[ea];exact hS
  obtain⟨key,k',x',y,g1,g2,g3,g4⟩:=get j b e1;rw[e2]at g1;cases g1;exact⟨by show(2:Nat)<=sizeLine;decide,[key,y],.cons (kV_rel g2) (.cons g3 .nil),_,g4,rfl,_,rfl⟩
 have lt:∀ b o,H b=some o->b < s.heap.objs.size:=fun b o e=>I.hok.lt e;refine⟨.ref s.heap.objs.size,_,I',rfl,q s.heap.objs.size as _ (fun b o e=>by rw[over_old (lt b o e)];exact e) (I.hok.fresh (Nat.le_refl _)) ?_ hl' fun j a e=>?_⟩
 · rw[over_new (Nat.le_refl _)]
   exact if_pos rfl
 have ha:=ab a (List.mem_of_getElem? e);obtain⟨key,k,x,y,g1,_⟩:=get j a e;exact⟨I.hok.fresh (Nat.le_of_lt ha),k,x,g1,by rw[over_new (Nat.le_of_lt ha)];exact newIt_at nd (Nat.ne_of_gt ha) e g1⟩
end
section
variable{X:Cx}{o:Expr}{apos cpos:Pos}{td:TE}
noncomputable def tItems(td:TE):TE:=fun σ H Q=>td σ H fun x H1=>∃ a kvs,x=.ref a/\H1 a=some (.dK kvs) /\ ∀ v,H1 v=none->Q (.ref v) (upd H1 v (ViewO v a))
theorem pe_items(ho:PE X o td)(hbase:attributeBase o "items" X.env (eval o X.env)=eval o X.env:=by rfl)
 (hfew:((backTo cpos (starEach [] X.env)).all (fun x=>!x.1) && (backToKw cpos (keywordEach [] X.env)).all (fun x=>x.1.isSome) && decide (([]:List Expr).length+([]:List Keyword).length+(if([]:List Keyword).isEmpty then 0 else 1) < 30))=true:=by rfl)
 (hline:(apos.endLine == cpos.line)=true:=by rfl):PE X (.Call (.Attribute o "items" apos) [] [] cpos) (tItems td):=by
 intro pins s σ H Q I h;refine wpAny_Call_method hbase hfew hline PySem.F.plainAttrs_dict PySem.F.slot_dict_items PySem.F.type_dict_items (thn (ho pins s σ H _ I h) fun u s1 zz=>?_);obtain⟨x,H1,I1,rx,a,kvs,ex,ha,q1⟩:=zz;subst ex;obtain rfl:u=Value.ref a:=rx;obtain⟨t1,t2,_⟩:=isD_at I1 (.inl ⟨kvs,.inl ha⟩);refine⟨t1,t2,?_⟩;obtain⟨z,hsys,vs,rel,dd⟩:=dk_rd I1.hok (.inl ha);have e0:backTo cpos (starEach [] X.env)=[]:=rfl;rw[e0];refine Calls.callWith_builtin rfl (PySem.evalArgs_none ?_);have lay:s1.heap.objs.size<=s1.heap.objs.size:=Nat.le_refl _;refine call_meetsIn PySem.F.slot_dict_items t1 PySem.F.entry_dict_items (PySem.F.args_dict_items_1 _) (meets_dict_items (mixKind X.prog X.w) a hsys) ⟨⟨vs,dd⟩,?_⟩;refine⟨.ref s1.heap.objs.size,upd H1 s1.heap.objs.size (ViewO s1.heap.objs.size a),I1.laid (t':=s1.toks) (fun b u e=>Heap.get?_push_of_some _ e) lay ?_,rfl,q1 _ (I1.hok.fresh lay)⟩;refine⟨⟨_,Heap.get?_push_size _ rfl,rfl,rfl⟩,⟨_,Heap.get?_push_size _ rfl⟩,fun h1 h2 ⟨o1,e1,c1,d1⟩ k=>⟨o1,k o1 e1,c1,d1⟩⟩
namespace B
theorem items(ho:Bx (PE X o td))(hbase:attributeBase o "items" X.env (eval o X.env)=eval o X.env:=by rfl)
 (hfew:((backTo cpos (starEach [] X.env)).all (fun x=>!x.1) && (backToKw cpos (keywordEach [] X.env)).all (fun x=>x.1.isSome) && decide (([]:List Expr).length+([]:List Keyword).length+(if([]:List Keyword).isEmpty then 0 else 1) < 30))=true:=by rfl)
 (hline:(apos.endLine == cpos.line)=true:=by rfl):Bx (PE X (.Call (.Attribute o "items" apos) [] [] cpos) (tItems td)):=⟨pe_items ho.out hbase hfew hline⟩
end B
end
structure Mt(P:Program)(w:World)(K:W.Frag)(mg:Str->Option Value)(base:Heap)(C:Addr)(m:Str)(k:Nat)(ps:List Str)(sp:Sp):Prop where
 ex:∃(f:Addr) (fd:FuncData),FnOk P w K mg base CX0 k f fd ps sp/\Meth K C m f/\Binds K fd ps []
structure Mkr(P:Program)(w:World)(K:W.Frag)(mg:Str->Option Value)(base:Heap)(C:Addr)(x:Str)(k:Nat)(ps:List Str)(sp:Sp):Prop where
 ex:∃(f:Addr) (fd:FuncData),FnOk P w K mg base CX0 k f fd ps sp/\Mk K C f/\mg x=some (.ref C)/\Binds K fd ps []
namespace B
section
variable{X:Cx}{x m f:Str}{p pos apos cpos tpos pos':Pos}{e o i value:Expr}{es:List Expr}{t:TA}{ta te ti tv td ty tx:TE}{k:Nat}{ps:List Str}{sp:Sp}{C:Addr}
theorem never{st:Stmt}:Bx (PS X st tNever):=⟨ps_never⟩
theorem gref{a:Addr}(h:X.mg x=some (.ref a))(hg:Gl X x:=by rfl)(hd:(x == ("__debug__":Str))=false:=by decide):Bx (PE X (.Name x pos) (tC (.ref a))):=⟨pe_glob hg h rfl hd⟩
theorem fld(he:Bx (PE X e ta))(hb:attributeBase e f X.env (eval e X.env)=eval e X.env:=by rfl):Bx (PE X (.Attribute e f pos) (tFld X.K ta f)):=⟨pe_fld he.out hb⟩
theorem sfld(ha:Bx (PE X o ta))(hv:Bx (PE X value tv))(hs:swapsWith value (some (.Attribute o f pos')) pos.line X.env=pure false:=by rfl):Bx (PS X (.Assign [.Attribute o f pos'] value pos) (sFld X.K ta tv f)):=⟨ps_fld ha.out hv.out hs⟩
theorem faug{op:Operator}{rd:V->V->Hp->VK->Prop}(hop:InOp X op rd)(ha:Bx (PE X o ta))(hv:Bx (PE X value tv)):Bx (PS X (.AugAssign (.Attribute o f tpos) op value pos) (sFldAug X.K ta tv rd f)):=⟨ps_fldaug ha.out hv.out hop⟩
theorem dnew:Bx (PE X (.Dict [] [] pos) tDNewK):=⟨pe_dnewK⟩
theorem dput(hu:X.A.units+1 < cLine)(ho:Bx (PE X o td))(hi:Bx (PE X i ty))(hv:Bx (PE X value tv))(hs:swapsWith value (some (.Subscript o i pos')) pos.line X.env=pure false:=by rfl):Bx (PS X (.Assign [.Subscript o i pos'] value pos) (sDPut td ty tv)):=⟨ps_dput hu ho.out hi.out hv.out hs⟩
theorem m1{m:Str}(base:attributeBase o m X.env (eval o X.env)=eval o X.env:=by rfl)(h:plainE e=true:=by rfl)(line:(apos.endLine == cpos.line)=true:=by rfl):M1 X o m apos e cpos:=by
 have t:backTo cpos (starEach [e] X.env)=[(false,eval e X.env)]:=by rw[star_of h];rfl
 exact⟨base,by rw[t];rfl,line,t⟩
theorem m2{m:Str}{g:Expr}(base:attributeBase o m X.env (eval o X.env)=eval o X.env:=by rfl)(h:plainE e=true:=by rfl)(h':plainE g=true:=by rfl)(line:(apos.endLine == cpos.line)=true:=by rfl):M2 X o m apos e g cpos:=by
 have t:backTo cpos (starEach [e,g] X.env)=[(false,eval e X.env),(false,eval g X.env)]:=by rw[star_of h,star_of h'];rfl
 exact⟨base,by rw[t];rfl,line,t⟩
theorem dget1(hu:X.A.units+1 < cLine)(ho:Bx (PE X o td))(he:Bx (PE X e ty))(m:M1 X o "get" apos e cpos:=by exact m1):Bx (PE X (.Call (.Attribute o "get" apos) [e] [] cpos) (tDGet1 td ty)):=⟨pe_dget1 hu ho.out he.out m⟩
theorem dpop2{g:Expr}(ho:Bx (PE X o td))(he:Bx (PE X e ty))(hf:Bx (PE X g tx))(m:M2 X o "pop" apos e g cpos:=by exact m2):Bx (PE X (.Call (.Attribute o "pop" apos) [e,g] [] cpos) (tDPop2 td ty tx)):=⟨pe_dpop2 ho.out he.out hf.out m⟩
theorem meth(he:Bx (PE X o ta))(c:Cls X.K C)(M:Mt X.prog X.w X.K X.mg X.base C m k ps sp)(hr:Room k X.A)(ha:Bx (PA X (e::es) t))(h1:plainE e=true:=by rfl)(h2:es.all plainE=true:=by rfl)
 {pl:Sem Bool} (ht':eval (.Call (.Attribute o m apos) (e::es) [] pos) X.env=(do
  let ov ← eval o X.env
  standAt apos.atName
  let(f,first) ← holding [ov] (getMethod ov m pl)
  callWith pos f first (backTo pos (starEach (e::es) X.env)) (backToKw pos (keywordEach [] X.env))):=by rfl) :
 Bx (PE X (.Call (.Attribute o m apos) (e::es) [] pos) (tMeth C m sp [] E0 ta t)):=by
 obtain⟨f,fd,G,hm,b⟩:=M.ex;exact⟨pe_meth he.out c hm G hr b .nil pass0 ha.out (star_of h1) (star_any h2) ht'⟩
theorem make(M:Mkr X.prog X.w X.K X.mg X.base C x k ps sp)(hr:Room (k+1) X.A)(ha:Bx (PA X (e::es) t))(hg:Gl X x:=by rfl)(hdb:(x == ("__debug__":Str))=false:=by decide)(h1:plainE e=true:=by rfl)(h2:es.all plainE=true:=by rfl) :
 Bx (PE X (.Call (.Name x p) (e::es) [] pos) (tMake C sp [] E0 t)):=by
 obtain⟨f,fd,G,M,hm,b⟩:=M.ex;exact⟨pe_make M G hr hg hm b .nil pass0 ha.out hdb (star_of h1) (star_any h2)⟩
end
end B
theorem b_list:bootBuiltins "list"=some (.type "list"):=by decide +kernel
theorem b_sum:bootBuiltins "sum"=some (.builtin "sum"):=by decide +kernel
theorem call_sum{X:Cx}:CallR X (.builtin "sum") (fun xs H Q=>∃ l ns,xs=[.ref l]/\SqL X.K H l (List.map V.int ns)/\X.calm=true/\Q (.int (List.sum ns)) H):=by
 intro pins s σ H xs us Q I r h;obtain⟨l,ns,rfl,hl,hc,q⟩:=h;obtain⟨u,rfl,rx⟩:=vals1 r;cases rx;obtain⟨its,rv,pl,_⟩:=I.list hl;have hi:IntsAre its ns:=intsAre_of rv;obtain⟨ys,e⟩:=hi.allInts.items;have hL:s.heap.IsList l (intItems ys):=by rw[← e];exact pl.isList
 refine sum_intListG (I.ok.hd hc) hL fun h' tk t' hk=>?_;have es:preSum (numAt ys) ys.size=ns.sum:=by
  rw[← hi.numsOf,show its=its.toArray.toList from rfl,e,nums_intItems,preSum_eq,List.take_of_length_le (by simp)]
 exact⟨.int ns.sum,H,I.kept (t':=tk) hk,⟨t',by rw[es]⟩,q⟩
namespace B
theorem meth0{X:Cx}{m:Str}{apos pos:Pos}{o:Expr}{ta:TE}{k:Nat}{ps:List Str}{sp:Sp}{C:Addr}(he:Bx (PE X o ta))(c:Cls X.K C)(M:Mt X.prog X.w X.K X.mg X.base C m k ps sp)(hr:Room k X.A){pl:Sem Bool}
 (ht':eval (.Call (.Attribute o m apos) [] [] pos) X.env=(do
  let ov ← eval o X.env
  standAt apos.atName
  let(f,first) ← holding [ov] (getMethod ov m pl)
  callWith pos f first (backTo pos (starEach [] X.env)) (backToKw pos (keywordEach [] X.env))):=by rfl) :
 Bx (PE X (.Call (.Attribute o m apos) [] [] pos) (tMeth C m sp [] E0 ta tNil)):=by
 obtain⟨f,fd,G,hm,b⟩:=M.ex;exact⟨pe_meth0 he.out c hm G hr b .nil pass0 ht'⟩
end B
structure Dm(K:W.Frag)(C:Addr)(m qual:Str)(st:Stmt)(ps:List Str):Prop where
 ex:∃(f:Addr) (fd:FuncData),Fun K m qual st f fd/\Meth K C m f/\Binds K fd ps []
theorem Dm.mt{P:Program}{w:World}{K:W.Frag}{mg:Str->Option Value}{base:Heap}{C:Addr}{m qual:Str}{st:Stmt}{N ps:List Str}{k:Nat}{sp:Sp}(d:Dm K C m qual st ps)(S:FnScope N ps (defScope st))(len:∀ vs H Q E,sp vs H Q E->vs.length=ps.length)
 (hb:∀(f:Addr) (cdv:Value) (A:Around) (outer:List Env) (s:Shared) (H:Hp) (vs:List V) (Q:VK) (E:XK),Room k (A.deeper (envOfC qual (defScope st) s.heap.objs.size f cdv))->sp vs H Q E ->
  ∃ t,Bx (PSs (cxOf CX0 P w K mg base N qual (defScope st) f cdv A outer s H E).nox (defBody st) t)/\t { nx:=fun _ H'=>Q .non H',rt:=Q } (start N vs) H):Mt P w K mg base C m (k+1) ps sp:=by
 obtain⟨f,fd,F,hm,hb'⟩:=d.ex;exact⟨f,fd,F.ok S len (fun cdv A outer s H vs Q E hr h=>let⟨t,h1,h2⟩:=hb f cdv A outer s H vs Q E hr h;⟨t,h1.out,h2⟩),hm,hb'⟩
structure Dk(K:W.Frag)(mg:Str->Option Value)(C:Addr)(x qual:Str)(st:Stmt)(ps:List Str):Prop where
 ex:∃(f:Addr) (fd:FuncData),Fun K "__init__" qual st f fd/\Mk K C f/\mg x=some (.ref C)/\Binds K fd ps []
theorem Dk.mk'{P:Program}{w:World}{K:W.Frag}{mg:Str->Option Value}{base:Heap}{C:Addr}{x qual:Str}{st:Stmt}{N ps:List Str}{k:Nat}{sp:Sp}(d:Dk K mg C x qual st ps)(S:FnScope N ps (defScope st))(len:∀ vs H Q E,sp vs H Q E->vs.length=ps.length)
 (hb:∀(f:Addr) (cdv:Value) (A:Around) (outer:List Env) (s:Shared) (H:Hp) (vs:List V) (Q:VK) (E:XK),Room k (A.deeper (envOfC qual (defScope st) s.heap.objs.size f cdv))->sp vs H Q E ->
  ∃ t,Bx (PSs (cxOf CX0 P w K mg base N qual (defScope st) f cdv A outer s H E).nox (defBody st) t)/\t { nx:=fun _ H'=>Q .non H',rt:=Q } (start N vs) H):Mkr P w K mg base C x (k+1) ps sp:=by
 obtain⟨f,fd,F,hm,hg,hb'⟩:=d.ex;exact⟨f,fd,F.ok S len (fun cdv A outer s H vs Q E hr h=>let⟨t,h1,h2⟩:=hb f cdv A outer s H vs Q E hr h;⟨t,h1.out,h2⟩),hm,hg,hb'⟩
noncomputable abbrev MRow:=List (Int×Int)
noncomputable def kvs(r:MRow):List (Key×V):=r.map fun p=>((Sum.inl p.1:Key),V.int p.2)
noncomputable def rLook(r:MRow)(k:Int):Option Int:=(r.find? fun p=>decide (p.1=k)).map (·.2)
noncomputable def rPut(r:MRow)(k v:Int):MRow:=if(rLook r k).isSome=true then r.map (fun p=>if p.1=k then(p.1,v)else p)else r++[(k,v)]
noncomputable def rCut(r:MRow)(k:Int):MRow:=r.filter fun p=>decide (p.1≠k)
noncomputable def oV:Option Int->V
 | none=>.non
 | some i=>.int i
noncomputable abbrev ROk(r:MRow):Prop:=(r.map (·.1)).Nodup
theorem rLook_pos{p:Int×Int}{r:MRow}{k:Int}(e:p.1=k):rLook (p::r) k=some p.2:=by simp[rLook,List.find?_cons,e]
theorem rLook_neg{p:Int×Int}{r:MRow}{k:Int}(e:¬ p.1=k):rLook (p::r) k=rLook r k:=by simp[rLook,List.find?_cons,e]
theorem inlE{a b:Int}:((Sum.inl a:Key)=Sum.inl b) ↔ a=b:=⟨Sum.inl.inj,congrArg _⟩
theorem valV_kvs(k:Int):∀ r:MRow,valV (kvs r) (Sum.inl k:Key)=(rLook r k).map V.int
 | []=>rfl
 | p::r=>by
   show valV (((Sum.inl p.1:Key),V.int p.2)::kvs r) (Sum.inl k:Key)=_;by_cases e:p.1=k
   · rw[rLook_pos e,valV_pos (inlE.mpr e)];rfl
   rw[rLook_neg e,valV_neg (fun z=>e (inlE.mp z)),valV_kvs k r]
theorem kvs_any(r:MRow)(k:Int):((kvs r).any fun kv=>decide (kv.1=(Sum.inl k:Key)))=(rLook r k).isSome:=by
 rw[valV_any,valV_kvs];cases rLook r k <;> rfl
theorem putK_kvs(r:MRow)(k v:Int):putK (kvs r) (Sum.inl k:Key) (V.int v)=kvs (rPut r k v):=by
 unfold putK rPut;rw[kvs_any];split
 · unfold kvs
   rw[List.map_map,List.map_map];refine List.map_congr_left fun p _=>?_;show(if(Sum.inl p.1:Key)=Sum.inl k then _ else _)=_;by_cases e:p.1=k
   · rw[if_pos (inlE.mpr e)]
     show _=((Sum.inl (if p.1=k then(p.1,v)else p).1:Key),V.int (if p.1=k then(p.1,v)else p).2);rw[if_pos e]
   rw[if_neg (fun z=>e (inlE.mp z))];show _=((Sum.inl (if p.1=k then(p.1,v)else p).1:Key),V.int (if p.1=k then(p.1,v)else p).2);rw[if_neg e]
 unfold kvs;rw[List.map_append]
 rfl
theorem dropK_kvs(k:Int):∀ r:MRow,dropK (kvs r) (Sum.inl k:Key)=kvs (rCut r k)
 | []=>rfl
 | p::r=>by
   show dropK (((Sum.inl p.1:Key),V.int p.2)::kvs r) (Sum.inl k:Key)=_;unfold rCut;rw[List.filter_cons];by_cases e:p.1=k
   · rw[dropK_pos (inlE.mpr e),if_neg (by simp[e]),dropK_kvs k r];rfl
   rw[dropK_neg (fun z=>e (inlE.mp z)),if_pos (by simp[e]),dropK_kvs k r];rfl
theorem kvs_len(r:MRow):(kvs r).length=r.length:=List.length_map ..
theorem rLook_none_iff(k:Int):∀{r:MRow},rLook r k=none ↔ ¬ k∈r.map (·.1)
 | []=>by simp[rLook]
 | p::r=>by
   rw[List.map_cons,List.mem_cons];by_cases e:p.1=k
   · rw[rLook_pos e];simp[e]
   rw[rLook_neg e,rLook_none_iff k]
   constructor
   · intro h z
     rcases z with z | z
     · exact e z.symm
     exact h z
   intro h z;exact h (.inr z)
theorem keys_put_old{r:MRow}{k v:Int}(h:(rLook r k).isSome=true):(rPut r k v).map (·.1)=r.map (·.1):=by
 unfold rPut;rw[if_pos h,List.map_map];refine List.map_congr_left fun p _=>?_;show(if p.1=k then(p.1,v)else p).1=p.1;split <;> rfl
theorem rPut_new{r:MRow}{k v:Int}(h:rLook r k=none):rPut r k v=r++[(k,v)]:=by
 unfold rPut;rw[h]
 rfl
theorem rPut_ok{r:MRow}{k v:Int}(h:ROk r):ROk (rPut r k v):=by
 cases e:rLook r k with
 | some x=>rw[ROk,keys_put_old (by rw[e];rfl)];exact h
 | none=>
   rw[ROk,rPut_new e,List.map_append];exact nd_snoc h ((rLook_none_iff k).mp e)
theorem rPut_len{r:MRow}{k v:Int}:(rPut r k v).length=r.length+(if rLook r k=none then 1 else 0):=by
 cases e:rLook r k with
 | some x=>
   unfold rPut;rw[e];simp
 | none=>rw[rPut_new e];simp
theorem rCut_ok{r:MRow}{k:Int}(h:ROk r):ROk (rCut r k):=by
 have:(rCut r k).map (·.1)=(r.map (·.1)).filter fun a=>decide (a≠k):=by
  unfold rCut;rw[List.filter_map]
  rfl
 rw[ROk,this];exact List.Pairwise.filter _ h
theorem rCut_no:∀{r:MRow}{k:Int},¬ k∈r.map (·.1)->rCut r k=r
 | [],_,_=>rfl
 | p::r,k,h=>by
   rw[List.map_cons,List.mem_cons]at h;unfold rCut;rw[List.filter_cons,if_pos (by simp only[decide_eq_true_eq];exact fun z=>h (.inl z.symm))]
   exact congrArg _ (rCut_no fun z=>h (.inr z))
theorem rCut_len:∀{r:MRow}{k:Int},ROk r->(rCut r k).length+(if rLook r k=none then 0 else 1)=r.length
 | [],_,_=>rfl
 | p::r,k,h=>by
   obtain⟨h1,h2⟩:=List.nodup_cons.mp (show(p.1::r.map (·.1)).Nodup from h);by_cases e:p.1=k
   · have e2:rCut (p::r) k=rCut r k:=by
      unfold rCut;rw[List.filter_cons,if_neg (by simp[e])]
     rw[e2,rCut_no (by rw[← e];exact h1),rLook_pos e,if_neg (by simp)]
     rfl
   have e2:rCut (p::r) k=p::rCut r k:=by
    unfold rCut;rw[List.filter_cons,if_pos (by simp[e])]
   have ih:=rCut_len (k:=k) h2;rw[e2,rLook_neg e,List.length_cons,List.length_cons];omega
noncomputable abbrev MRows:=List MRow
noncomputable def plc(f m:Int)(n:Nat)(k:Int):Nat:=((k*f+m) % 65536 % (n:Int)).toNat
theorem plc_int{f m:Int}{n:Nat}{k:Int}(h:0 < n):((plc f m n k:Nat):Int)=(k*f+m) % 65536 % (n:Int):=by
 unfold plc;rw[Int.toNat_of_nonneg (Int.emod_nonneg _ (by omega))]
theorem plc_lt{f m:Int}{n:Nat}{k:Int}(h:0 < n):plc f m n k < n:=by
 have e:=plc_int (f:=f) (m:=m) (k:=k) h;have:=Int.emod_lt_of_pos ((k*f+m) % 65536) (show(0:Int) < n by omega)
 omega
noncomputable def tot(R:MRows):Nat:=(R.map List.length).sum
noncomputable def sRow(f m:Int)(R:MRows)(k:Int):MRow:=R.getD (plc f m R.length k) []
noncomputable def sLook(f m:Int)(R:MRows)(k:Int):Option Int:=rLook (sRow f m R k) k
noncomputable def sPut(f m:Int)(R:MRows)(k v:Int):MRows:=R.set (plc f m R.length k) (rPut (sRow f m R k) k v)
noncomputable def sCut(f m:Int)(R:MRows)(k:Int):MRows:=R.set (plc f m R.length k) (rCut (sRow f m R k) k)
theorem getD_get{R:MRows}{i:Nat}(h:i < R.length):R[i]?=some (R.getD i []):=by
 rw[List.getD_eq_getElem?_getD,List.getElem?_eq_getElem h]
 rfl
theorem tot_set:∀(R:MRows) (i:Nat) (r:MRow),i < R.length->tot (R.set i r)+(R.getD i []).length=tot R+r.length
 | [],i,r,h=>absurd h (Nat.not_lt_zero _)
 | a::R,0,r,_=>by
   show r.length+(R.map List.length).sum+a.length=a.length+(R.map List.length).sum+r.length;omega
 | a::R,i+1,r,h=>by
   have ih:=tot_set R i r (Nat.lt_of_succ_lt_succ h);have e:(a::R).getD (i+1) []=R.getD i []:=by simp
   rw[e];show a.length+tot (R.set i r)+_=a.length+tot R+r.length;omega
theorem len_le_tot:∀(R:MRows) (i:Nat),(R.getD i []).length<=tot R
 | [],i=>by simp
 | a::R,0=>by
   show a.length<=a.length+(R.map List.length).sum;omega
 | a::R,i+1=>by
   have ih:=len_le_tot R i;have e:(a::R).getD (i+1) []=R.getD i []:=by simp
   rw[e];show _<=a.length+tot R;omega
theorem tot_rep(n:Nat):tot (List.replicate n [])=0:=by
 unfold tot;rw[List.map_replicate];show(List.replicate n 0).sum=0;simp
theorem sPut_len{f m:Int}{R:MRows}{k v:Int}:(sPut f m R k v).length=R.length:=List.length_set ..
theorem sCut_len{f m:Int}{R:MRows}{k:Int}:(sCut f m R k).length=R.length:=List.length_set ..
theorem sPut_tot{f m:Int}{R:MRows}{k v:Int}(h:0 < R.length):tot (sPut f m R k v)=tot R+(if sLook f m R k=none then 1 else 0):=by
 have:=tot_set R _ (rPut (sRow f m R k) k v) (plc_lt (f:=f) (m:=m) (k:=k) h);rw[rPut_len]at this;unfold sPut sLook;unfold sRow at *;omega
theorem sCut_tot{f m:Int}{R:MRows}{k:Int}(h:0 < R.length)(ok:∀ r∈R,ROk r):tot (sCut f m R k)+(if sLook f m R k=none then 0 else 1)=tot R:=by
 have lt:=plc_lt (f:=f) (m:=m) (k:=k) h;have:=tot_set R _ (rCut (sRow f m R k) k) lt;have e:=rCut_len (r:=sRow f m R k) (k:=k) (ok _ (List.mem_of_getElem? (getD_get lt)));unfold sCut sLook;unfold sRow at *;omega
theorem set_ok{R:MRows}{i:Nat}{r:MRow}(ok:∀ r∈R,ROk r)(h:ROk r):∀ q∈R.set i r,ROk q:=fun q hq=>by
 rcases List.mem_or_eq_of_mem_set hq with z | z
 · exact ok q z
 rw[z];exact h
noncomputable def sfl(t L:Addr)(z:Int):List (Str×V):=[("mixer",.ref t),("rows",.ref L),("held",.int z)]
theorem n_mr:¬ (("mixer":Str)="rows"):=by decide +kernel
theorem n_mh:¬ (("mixer":Str)="held"):=by decide +kernel
theorem n_rh:¬ (("rows":Str)="held"):=by decide +kernel
theorem sfl_mk(t L:Addr)(z:Int):putF "held" (.int z) (putF "rows" (.ref L) (putF "mixer" (.ref t) []))=sfl t L z:=by
 show putF "held" (.int z) (if("mixer":Str)="rows" then _ else _)=_;rw[if_neg n_mr];show(if("mixer":Str)="held" then _ else _)=_;rw[if_neg n_mh];show _::(if("rows":Str)="held" then _ else _)=_;rw[if_neg n_rh]
 rfl
theorem sfl_mixer(t L:Addr)(z:Int):(sfl t L z).lookup ("mixer":Str)=some (.ref t):=by rw[← sfl_mk,lookup_putF,if_neg n_mh,lookup_putF,if_neg n_mr,lookup_putF,if_pos rfl]
theorem sfl_rows(t L:Addr)(z:Int):(sfl t L z).lookup ("rows":Str)=some (.ref L):=by rw[← sfl_mk,lookup_putF,if_neg n_rh,lookup_putF,if_pos rfl]
theorem sfl_held(t L:Addr)(z:Int):(sfl t L z).lookup ("held":Str)=some (.int z):=by rw[← sfl_mk,lookup_putF,if_pos rfl]
theorem sfl_put(t L:Addr)(z y:Int):putF "held" (.int y) (sfl t L z)=sfl t L y:=by
 show(if("mixer":Str)="held" then _ else _)=_;rw[if_neg n_mh];show _::(if("rows":Str)="held" then _ else _)=_;rw[if_neg n_rh];show _::_::(if("held":Str)="held" then _ else _)=_;rw[if_pos rfl]
 rfl
structure NoS(x:Str):Prop where
 n1:¬ x="mixer"
 n2:¬ x="rows"
 n3:¬ x="held"
theorem sfl_no(t L:Addr)(z:Int){x:Str}(h:NoS x):(sfl t L z).lookup x=none:=by
 rw[← sfl_mk,lookup_putF,if_neg h.n3,lookup_putF,if_neg h.n2,lookup_putF,if_neg h.n1]
 rfl
structure ShX(C:Addr)(H:Hp)(p:Addr)(f m:Int)(R:MRows)(t L:Addr)(ds:List Addr):Prop where
 ob:∃ dx,H p=some (.ins C dx (sfl t L (tot R)))
 mx:H t=some (.tup [.int f,.int m])
 bm:0<=f/\f<=65535
 rw:H L=some (.lst (ds.map V.ref))
 len:ds.length=R.length
 nd:ds.Nodup
 at_:∀(i:Nat) (d:Addr) (r:MRow),ds[i]?=some d->R[i]?=some r->H d=some (.dK (kvs r))
 ok:∀ r∈R,ROk r
 pos:0 < R.length
 top:R.length<=8192
noncomputable def Sh(C:Addr)(H:Hp)(p:Addr)(f m:Int)(R:MRows)(F:Addr->Prop):Prop:=∃ t L ds,ShX C H p f m R t L ds /\ ∀ b,F b ↔ (b=p∨b=L∨b∈ds)
noncomputable def Fr(F:Addr->Prop)(H H':Hp):Prop:=∀ b o,¬ F b->H b=some o->H' b=some o
theorem Fr.refl(F:Addr->Prop)(H:Hp):Fr F H H:=fun _ _ _ h=>h
theorem Fr.trans{F:Addr->Prop}{H H1 H2:Hp}(a:Fr F H H1)(b:Fr F H1 H2):Fr F H H2:=fun c o n h=>b c o n (a c o n h)
theorem Sh.live{C:Addr}{H:Hp}{p:Addr}{f m:Int}{R:MRows}{F:Addr->Prop}(S:Sh C H p f m R F){b:Addr}(h:F b):∃ o,H b=some o /\ ∀ xs,o ≠ .tup xs:=by
 obtain⟨t,L,ds,S,hF⟩:=S;rcases(hF b).mp h with rfl | rfl | h
 · obtain⟨dx,e⟩:=S.ob
   exact⟨_,e,fun xs z=>by cases z⟩
 · exact⟨_,S.rw,fun xs z=>by cases z⟩
 obtain⟨i,e⟩:=List.mem_iff_getElem?.mp h;have hi:i < R.length:=by
  rw[← S.len];exact(List.getElem?_eq_some_iff.mp e).1
 exact⟨_,S.at_ i b _ e (List.getElem?_eq_getElem hi),fun xs z=>by cases z⟩
theorem Sh.fresh{C:Addr}{H:Hp}{p:Addr}{f m:Int}{R:MRows}{F:Addr->Prop}(S:Sh C H p f m R F){b:Addr}(h:H b=none):¬ F b:=fun z=>by
 obtain⟨o,e,_⟩:=S.live z;rw[h]at e;cases e
theorem Sh.notup{C:Addr}{H:Hp}{p:Addr}{f m:Int}{R:MRows}{F:Addr->Prop}(S:Sh C H p f m R F){b:Addr}{xs:List V}(h:H b=some (.tup xs)):¬ F b:=fun z=>by
 obtain⟨o,e,n⟩:=S.live z;rw[h]at e;cases e;exact n _ rfl
theorem Sh.keep{C:Addr}{H H':Hp}{p:Addr}{f m:Int}{R:MRows}{F G:Addr->Prop}(S:Sh C H p f m R F)(k:Fr G H H')(d:∀ b,F b -> ¬ G b)(dt:∀ b xs,H b=some (.tup xs) -> ¬ G b):Sh C H' p f m R F:=by
 obtain⟨t,L,ds,S,hF⟩:=S;have hp:¬ G p:=d p ((hF p).mpr (.inl rfl));have hL:¬ G L:=d L ((hF L).mpr (.inr (.inl rfl)));refine⟨t,L,ds,⟨?_,k _ _ (dt _ _ S.mx) S.mx,S.bm,k _ _ hL S.rw,S.len,S.nd,fun i x r e1 e2=>k _ _ (d x ((hF x).mpr (.inr (.inr (List.mem_of_getElem? e1))))) (S.at_ i x r e1 e2),S.ok,S.pos,S.top⟩,hF⟩;obtain⟨dx,e⟩:=S.ob;exact⟨dx,k _ _ hp e⟩
theorem Sh.same{C:Addr}{H H':Hp}{p:Addr}{f m:Int}{R:MRows}{F:Addr->Prop}(S:Sh C H p f m R F)(k:Same H H'):Sh C H' p f m R F:=
 S.keep (G:=fun _=>False) (fun b o _ e=>k b o e) (fun _ _ z=>z) fun _ _ _ z=>z
theorem Sh.pos{C:Addr}{H:Hp}{p:Addr}{f m:Int}{R:MRows}{F:Addr->Prop}(S:Sh C H p f m R F):0 < R.length:=by
 obtain⟨t,L,ds,S,hF⟩:=S;exact S.pos
theorem Sh.top{C:Addr}{H:Hp}{p:Addr}{f m:Int}{R:MRows}{F:Addr->Prop}(S:Sh C H p f m R F):R.length<=8192:=by
 obtain⟨t,L,ds,S,hF⟩:=S;exact S.top
noncomputable def PrV(H:Hp)(v:V)(p:Int×Int):Prop:=∃ a,v=.ref a/\H a=some (.tup [.int p.1,.int p.2])
noncomputable abbrev Prs(H:Hp)(xs:List V)(r:MRow):Prop:=Paired (PrV H) xs r
theorem PrV.keep{H H':Hp}{v:V}{p:Int×Int}(h:PrV H v p)(k:∀ a xs,H a=some (.tup xs)->H' a=some (.tup xs)):PrV H' v p:=by
 obtain⟨a,e,h⟩:=h;exact⟨a,e,k a _ h⟩
theorem Prs.keep{H H':Hp}{xs:List V}{r:MRow}(h:Prs H xs r)(k:∀ a xs,H a=some (.tup xs)->H' a=some (.tup xs)):Prs H' xs r:=Paired.mapP h fun _ _ z=>z.keep k
noncomputable def spSPlace(C:Addr):Sp:=fun vs H Q _=>∃(p:Addr) (k f m:Int) (R:MRows) (F:Addr->Prop),vs=[.ref p,.int k]/\Sh C H p f m R F/\Q (.int (plc f m R.length k)) H
noncomputable def spSRowW(C:Addr):Sp:=fun vs H Q _=>∃(p:Addr) (k f m:Int) (R:MRows) (t L:Addr) (ds:List Addr),vs=[.ref p,.int k]/\ShX C H p f m R t L ds /\ ∀ d,ds[plc f m R.length k]?=some d->Q (.ref d) H
noncomputable def spSPut(C:Addr):Sp:=fun vs H Q _=>∃(p:Addr) (k v f m:Int) (R:MRows) (F:Addr->Prop),vs=[.ref p,.int k,.int v]/\Sh C H p f m R F/\tot R<=100000 /\ ∀ H',Sh C H' p f m (sPut f m R k v) F->Fr F H H'->Q (oV (sLook f m R k)) H'
noncomputable def spSCut(C:Addr):Sp:=fun vs H Q _=>∃(p:Addr) (k f m:Int) (R:MRows) (F:Addr->Prop),vs=[.ref p,.int k]/\Sh C H p f m R F /\ ∀ H',Sh C H' p f m (sCut f m R k) F->Fr F H H'->Q (oV (sLook f m R k)) H'
noncomputable def spSLook(C:Addr):Sp:=fun vs H Q _=>∃(p:Addr) (k f m:Int) (R:MRows) (F:Addr->Prop),vs=[.ref p,.int k]/\Sh C H p f m R F/\Q (oV (sLook f m R k)) H
noncomputable def spSMany(C:Addr):Sp:=fun vs H Q _=>∃(p:Addr) (f m:Int) (R:MRows) (F:Addr->Prop),vs=[.ref p]/\Sh C H p f m R F/\Q (.int (tot R)) H
noncomputable def spSSize(C:Addr):Sp:=fun vs H Q _=>∃(p:Addr) (f m:Int) (R:MRows) (F:Addr->Prop),vs=[.ref p]/\Sh C H p f m R F/\Q (.int R.length) H
noncomputable def spSCheck(C:Addr):Sp:=fun vs H Q _=>∃(p:Addr) (i f m:Int) (R:MRows) (F:Addr->Prop),vs=[.ref p,.int i]/\Sh C H p f m R F/\0<=i/\i < R.length/\Q .non H
noncomputable def spSRow(C:Addr):Sp:=fun vs H Q _=>∃(p:Addr) (i:Nat) (f m:Int) (R:MRows) (F:Addr->Prop),vs=[.ref p,.int i]/\Sh C H p f m R F/\i < R.length /\ ∀ l xs H',Same H H'->H l=none->H' l=some (.lst xs)->Prs H' xs (R.getD i [])->Q (.ref l) H'
noncomputable def spSEmpty(C:Addr):Sp:=fun vs H Q _=>∃(p:Addr) (i:Nat) (f m:Int) (R:MRows) (F:Addr->Prop),vs=[.ref p,.int i]/\Sh C H p f m R F/\i < R.length /\
 ∀ l xs H' F',Fr F H H'->H l=none -> ¬ F' l->H' l=some (.lst xs)->Prs H' xs (R.getD i [])->Sh C H' p f m (R.set i []) F'->(∀ b,F' b->F b∨H b=none)->(∀ b,H' b=none->H b=none)->Q (.ref l) H'
noncomputable def isSize(n:Nat):Prop:=n∈[4,8,16,32,64,128,256,512,1024,2048,4096]
noncomputable def spSInit(C:Addr):Sp:=fun vs H Q _=>∃(x t dx:Addr) (n:Nat) (f m:Int),vs=[.ref x,.int n,.ref t]/\H x=some (.ins C dx [])/\H t=some (.tup [.int f,.int m])/\(0<=f/\f<=65535)/\isSize n /\
 ∀ H' F,Sh C H' x f m (List.replicate n []) F->(∀ b,F b->b=x∨H b=none)->(∀ b o,b≠x->H b=some o->H' b=some o)->Q .non H'
section
variable{D:Ends}{σ:L2.St}{H:Hp}{Q:VK}{v:V}{K:W.Frag}{C:Addr}{E:XK}
theorem wFld{ta:TE}{f:Str}(h:ta σ H fun x H1=>∃ a C dx fs v,x=.ref a/\H1 a=some (.ins C dx fs)/\Cls K C/\NoAttr K C f/\fs.lookup f=some v/\Q v H1):tFld K ta f σ H Q:=h
theorem wSFld{ta tv:TE}{f:Str}(h:tv σ H fun y H1=>ta σ H1 fun x H2=>∃ a C dx fs,x=.ref a/\H2 a=some (.ins C dx fs)/\Cls K C/\NoAttr K C f/\fs.length < 1000/\D.nx σ (upd H2 a (.ins C dx (putF f y fs)))):sFld K ta tv f D σ H:=h
theorem wMeth{m:Str}{sp:Sp}{ta:TE}{t:TA}(h:ta σ H fun x H1=>∃ a dx fs,x=.ref a/\H1 a=some (.ins C dx fs)/\fs.lookup m=none/\t σ H1 fun vs H2=>sp (x::(vs++[])) H2 Q E):tMeth C m sp [] E ta t σ H Q:=h
theorem wMake{sp:Sp}{t:TA}(h:t σ H fun vs H1=>∀ x dx,H1 x=none->H1 dx=none->dx≠x->sp (.ref x::(vs++[])) (upd (upd H1 dx (.own x)) x (.ins C dx [])) (fun v H2=>v=.non/\Q (.ref x) H2) E):tMake C sp [] E t σ H Q:=h
theorem wS{p:Addr}{f m:Int}{R:MRows}{F:Addr->Prop}{x:Str}{P:Prop}(S:Sh C H p f m R F)(hn:NoS x)(h:P):∃ a dx fs,V.ref p=.ref a/\H a=some (.ins C dx fs)/\fs.lookup x=none/\P:=by
 obtain⟨t,L,ds,S,_⟩:=S;obtain⟨dx,e⟩:=S.ob;exact⟨p,dx,_,rfl,e,sfl_no _ _ _ hn,h⟩
theorem wSPlace{p:Addr}{k f m:Int}{R:MRows}{F:Addr->Prop}(S:Sh C H p f m R F)(q:Q (.int (plc f m R.length k)) H):spSPlace C (V.ref p::([V.int k]++[])) H Q E:=⟨p,k,f,m,R,F,rfl,S,q⟩
theorem wSPut{p:Addr}{k y f m:Int}{R:MRows}{F:Addr->Prop}(S:Sh C H p f m R F)(hl:tot R<=100000)(q:∀ H',Sh C H' p f m (sPut f m R k y) F->Fr F H H'->Q (oV (sLook f m R k)) H'):spSPut C (V.ref p::([V.int k,V.int y]++[])) H Q E:=⟨p,k,y,f,m,R,F,rfl,S,hl,q⟩
theorem wSCut{p:Addr}{k f m:Int}{R:MRows}{F:Addr->Prop}(S:Sh C H p f m R F)(q:∀ H',Sh C H' p f m (sCut f m R k) F->Fr F H H'->Q (oV (sLook f m R k)) H'):spSCut C (V.ref p::([V.int k]++[])) H Q E:=⟨p,k,f,m,R,F,rfl,S,q⟩
theorem wSLook{p:Addr}{k f m:Int}{R:MRows}{F:Addr->Prop}(S:Sh C H p f m R F)(q:Q (oV (sLook f m R k)) H):spSLook C (V.ref p::([V.int k]++[])) H Q E:=⟨p,k,f,m,R,F,rfl,S,q⟩
theorem wSMany{p:Addr}{f m:Int}{R:MRows}{F:Addr->Prop}(S:Sh C H p f m R F)(q:Q (.int (tot R)) H):spSMany C (V.ref p::([]++[])) H Q E:=⟨p,f,m,R,F,rfl,S,q⟩
theorem wSSize{p:Addr}{f m:Int}{R:MRows}{F:Addr->Prop}(S:Sh C H p f m R F)(q:Q (.int R.length) H):spSSize C (V.ref p::([]++[])) H Q E:=⟨p,f,m,R,F,rfl,S,q⟩
theorem wSRow{p:Addr}{i:Int}{f m:Int}{R:MRows}{F:Addr->Prop}(S:Sh C H p f m R F)(i0:0<=i)(hi:i < R.length)(q:∀ l xs H',Same H H'->H l=none->H' l=some (.lst xs)->Prs H' xs (R.getD i.toNat [])->Q (.ref l) H'):spSRow C (V.ref p::([V.int i]++[])) H Q E:=
 ⟨p,i.toNat,f,m,R,F,by rw[Int.toNat_of_nonneg i0];rfl,S,by omega,q⟩
theorem wSEmpty{p:Addr}{i:Int}{f m:Int}{R:MRows}{F:Addr->Prop}(S:Sh C H p f m R F)(i0:0<=i)(hi:i < R.length)
 (q:∀ l xs H' F',Fr F H H'->H l=none -> ¬ F' l->H' l=some (.lst xs)->Prs H' xs (R.getD i.toNat [])->Sh C H' p f m (R.set i.toNat []) F'->(∀ b,F' b->F b∨H b=none)->(∀ b,H' b=none->H b=none)->Q (.ref l) H'):spSEmpty C (V.ref p::([V.int i]++[])) H Q E:=
 ⟨p,i.toNat,f,m,R,F,by rw[Int.toNat_of_nonneg i0];rfl,S,by omega,q⟩
theorem wShelf{Qf:Addr->Hp->Prop}{t:Addr}{n:Int}{f m:Int}(ht:H t=some (.tup [.int f,.int m]))(bf:0<=f/\f<=65535)(n0:0<=n)(hn:isSize n.toNat)
 (q:∀ p H' F,Sh C H' p f m (List.replicate n.toNat []) F->(∀ b,F b->H b=none)->Same H H'->Qf p H') :
 ∀ x dx,H x=none->H dx=none->dx≠x->spSInit C (V.ref x::([V.int n,V.ref t]++[])) (upd (upd H dx (.own x)) x (.ins C dx [])) (fun v H2=>v=.non/\Qf x H2) E:=fun x dx hx hdx hne=>by
 have s0:Same H (upd (upd H dx (.own x)) x (.ins C dx [])):=(Same.new hdx).trans (Same.new (by rw[upd_ne hne.symm];exact hx))
 refine⟨x,t,dx,n.toNat,f,m,by rw[Int.toNat_of_nonneg n0];rfl,upd_same,s0 _ _ ht,bf,hn,fun H' F S g k=>⟨rfl,q x H' F S (fun b hb=>?_) fun b o e=>k b o (ne_of_none e hx) (s0 b o e)⟩⟩
 rcases g b hb with rfl | z
 · exact hx
 exact s0.free z
end
noncomputable def CN(Pv:Nat->L2.St->Hp->Prop)(n i:Nat)(D:Addr)(σ:L2.St)(y:V)(H4:Hp):Prop:=∃ ys,H4 D=some (.lst ys)/\ys.length < sizeLine /\ ∃ m',m' < n - i/\(m'=n - (i+1)/\i+1<=n/\Pv (i+1) σ (upd H4 D (.lst (ys++[y]))))
noncomputable def CO(Pv:Nat->L2.St->Hp->Prop)(n i:Nat)(σ:L2.St)(H3:Hp):Prop:=∃ m',m' < n - i/\(m'=n - (i+1)/\i+1<=n/\Pv (i+1) σ H3)
theorem CN.mk{Pv:Nat->L2.St->Hp->Prop}{n i:Nat}{D:Addr}{σ:L2.St}{y:V}{H4:Hp}{ys:List V}(hi:i < n)(hD:H4 D=some (.lst ys))(hl:ys.length < sizeLine)(h:Pv (i+1) σ (upd H4 D (.lst (ys++[y])))):CN Pv n i D σ y H4:=
 ⟨ys,hD,hl,n - (i+1),by omega,rfl,hi,h⟩
theorem CO.mk{Pv:Nat->L2.St->Hp->Prop}{n i:Nat}{σ:L2.St}{H3:Hp}(hi:i < n)(h:Pv (i+1) σ H3):CO Pv n i σ H3:=⟨n - (i+1),by omega,rfl,hi,h⟩
section
variable{K:W.Frag}{n:Nat}{lo:Int}{a D:Addr}{xs:List V}{σ0:L2.St}{H1:Hp}{Q:VK}{tt:TT}{te:TE}
theorem comp_range{Qf:Hp->Prop}(Pv:Nat->L2.St->Hp->Prop)(h0:Pv 0 σ0 H1)
 (step:∀ i σ' H',i < n->Pv i σ' H'->tt (σ'.set 0 (some (.int (lo+i)))) H' fun ok H3=>if ok=true then te (σ'.set 0 (some (.int (lo+i)))) H3 (fun y H4=>CN Pv n i D (σ'.set 0 (some (.int (lo+i)))) y H4)else CO Pv n i (σ'.set 0 (some (.int (lo+i)))) H3)
 (fin:∀ σ H,Pv n σ H->Qf H) :
 ∃ W:Nat->Nat->L2.St->Hp->Prop,(∃ m,W 0 m σ0 H1) /\ ∀ i m σ' H',W i m σ' H'->((Itr lo n).stop i H'/\Qf H')∨((Itr lo n).go i H' /\ ∀ x H2,(Itr lo n).yld i H' x H2->tt (σ'.set 0 (some x)) H2 fun ok H3=>
   if ok=true then te (σ'.set 0 (some x)) H3 fun y H4=>∃ ys,H4 D=some (.lst ys)/\ys.length < sizeLine /\ ∃ m',m' < m/\W (i+1) m' (σ'.set 0 (some x)) (upd H4 D (.lst (ys++[y])))
   else ∃ m',m' < m/\W (i+1) m' (σ'.set 0 (some x)) H3):=by
 refine⟨fun i m σ H=>m=n - i/\i<=n/\Pv i σ H,⟨n,by omega,Nat.zero_le _,h0⟩,?_⟩
 rintro i m σ' H' ⟨rfl,hi,p⟩;by_cases hlt:i < n
 · refine .inr ⟨hlt,fun x H2 y=>?_⟩
   obtain⟨rfl,rfl⟩:=y;exact step i σ' _ hlt p
 have e:i=n:=by omega
 subst e;exact .inl ⟨Nat.le_refl _,fin _ _ p⟩
theorem comp_rangeU{Qf:Hp->Prop}(Pv:Nat->L2.St->Hp->Prop)(h0:Pv 0 σ0 H1)
 (step:∀ i σ' H',i < n->Pv i σ' H'->te (σ'.set 0 (some (.int (lo+i)))) H' (fun y H4=>CN Pv n i D (σ'.set 0 (some (.int (lo+i)))) y H4))
 (fin:∀ σ H,Pv n σ H->Qf H) :
 ∃ W:Nat->Nat->L2.St->Hp->Prop,(∃ m,W 0 m σ0 H1) /\ ∀ i m σ' H',W i m σ' H'->((Itr lo n).stop i H'/\Qf H')∨((Itr lo n).go i H' /\ ∀ x H2,(Itr lo n).yld i H' x H2 ->
   if true=true then te (σ'.set 0 (some x)) H2 fun y H4=>∃ ys,H4 D=some (.lst ys)/\ys.length < sizeLine /\ ∃ m',m' < m/\W (i+1) m' (σ'.set 0 (some x)) (upd H4 D (.lst (ys++[y])))
   else ∃ m',m' < m/\W (i+1) m' (σ'.set 0 (some x)) H2):=
 comp_range (tt:=fun _ H Q=>Q true H) Pv h0 (fun i σ' H' hi p=>iteT (step i σ' H' hi p)) fin
theorem comp_list{Qf:Hp->Prop}(Pv:Nat->L2.St->Hp->Prop)(h0:Pv 0 σ0 H1)(hl:∀ i σ H,i<=xs.length->Pv i σ H->SqL K H a xs)
 (step:∀ i x σ' H',xs[i]?=some x->i < xs.length->Pv i σ' H'->tt (σ'.set 0 (some x)) H' fun ok H3=>if ok=true then te (σ'.set 0 (some x)) H3 (fun y H4=>CN Pv xs.length i D (σ'.set 0 (some x)) y H4)else CO Pv xs.length i (σ'.set 0 (some x)) H3)
 (fin:∀ σ H,Pv xs.length σ H->Qf H) :
 ∃ W:Nat->Nat->L2.St->Hp->Prop,(∃ m,W 0 m σ0 H1) /\ ∀ i m σ' H',W i m σ' H'->((Itl K a).stop i H'/\Qf H')∨((Itl K a).go i H' /\ ∀ x H2,(Itl K a).yld i H' x H2->tt (σ'.set 0 (some x)) H2 fun ok H3=>
   if ok=true then te (σ'.set 0 (some x)) H3 fun y H4=>∃ ys,H4 D=some (.lst ys)/\ys.length < sizeLine /\ ∃ m',m' < m/\W (i+1) m' (σ'.set 0 (some x)) (upd H4 D (.lst (ys++[y])))
   else ∃ m',m' < m/\W (i+1) m' (σ'.set 0 (some x)) H3):=by
 refine⟨fun i m σ H=>m=xs.length - i/\i<=xs.length/\Pv i σ H,⟨xs.length,by omega,Nat.zero_le _,h0⟩,?_⟩
 rintro i m σ' H' ⟨rfl,hi,p⟩;have q:=hl i σ' H' hi p;by_cases hlt:i < xs.length
 · refine .inr ⟨⟨xs,xs[i],q,by simp[hlt]⟩,fun x H2 y=>?_⟩
   obtain⟨rfl,y⟩:=y;exact step i x σ' _ (y xs q) hlt p
 have e:i=xs.length:=by omega
 subst e;exact .inl ⟨⟨xs,q,Nat.le_refl _⟩,fin _ _ p⟩
theorem comp_listU{Qf:Hp->Prop}(Pv:Nat->L2.St->Hp->Prop)(h0:Pv 0 σ0 H1)(hl:∀ i σ H,i<=xs.length->Pv i σ H->SqL K H a xs)
 (step:∀ i x σ' H',xs[i]?=some x->i < xs.length->Pv i σ' H'->te (σ'.set 0 (some x)) H' (fun y H4=>CN Pv xs.length i D (σ'.set 0 (some x)) y H4))
 (fin:∀ σ H,Pv xs.length σ H->Qf H) :
 ∃ W:Nat->Nat->L2.St->Hp->Prop,(∃ m,W 0 m σ0 H1) /\ ∀ i m σ' H',W i m σ' H'->((Itl K a).stop i H'/\Qf H')∨((Itl K a).go i H' /\ ∀ x H2,(Itl K a).yld i H' x H2 ->
   if true=true then te (σ'.set 0 (some x)) H2 fun y H4=>∃ ys,H4 D=some (.lst ys)/\ys.length < sizeLine /\ ∃ m',m' < m/\W (i+1) m' (σ'.set 0 (some x)) (upd H4 D (.lst (ys++[y])))
   else ∃ m',m' < m/\W (i+1) m' (σ'.set 0 (some x)) H2):=
 comp_list (tt:=fun _ H Q=>Q true H) Pv h0 hl (fun i x σ' H' e hi p=>iteT (step i x σ' H' e hi p)) fin
end
section
variable{C:Addr}{H H':Hp}{p:Addr}{f m:Int}{R:MRows}{t L:Addr}{ds:List Addr}
theorem ShX.place{C:Addr}{H:Hp}(X:ShX C H p f m R t L ds)(k:Int):∃ d,ds[plc f m R.length k]?=some d/\H d=some (.dK (kvs (sRow f m R k))):=by
 have lt:=plc_lt (f:=f) (m:=m) (k:=k) X.pos;have lt':plc f m R.length k < ds.length:=by rw[X.len];exact lt
 exact⟨ds[plc f m R.length k],List.getElem?_eq_getElem lt',X.at_ _ _ _ (List.getElem?_eq_getElem lt') (getD_get lt)⟩
theorem ShX.set{i:Nat}{d:Addr}{r:MRow}(X:ShX C H p f m R t L ds)(hd:ds[i]?=some d)(ok:ROk r)(h1:∃ dx,H' p=some (.ins C dx (sfl t L (tot (R.set i r)))))(h2:H' d=some (.dK (kvs r)))
 (h3:∀ b o,b≠p->b≠d->H b=some o->H' b=some o):ShX C H' p f m (R.set i r) t L ds:=by
 have hi:i < R.length:=by rw[← X.len];exact(List.getElem?_eq_some_iff.mp hd).1
 have hd0:=X.at_ i d _ hd (getD_get hi);obtain⟨dx,hp⟩:=X.ob;refine⟨h1,h3 _ _ (ne_of X.mx hp (by intro z;cases z)) (ne_of X.mx hd0 (by intro z;cases z)) X.mx,X.bm,h3 _ _ (ne_of X.rw hp (by intro z;cases z)) (ne_of X.rw hd0 (by intro z;cases z)) X.rw,by rw[List.length_set];exact X.len,X.nd,fun j x q e1 e2=>?_,set_ok X.ok ok,by rw[List.length_set];exact X.pos,by rw[List.length_set];exact X.top⟩
 by_cases e:i=j
 · subst e
   rw[hd]at e1;cases e1;rw[List.getElem?_set_self hi]at e2;cases e2;exact h2
 rw[List.getElem?_set_ne e]at e2;have hx:=X.at_ j x q e1 e2;refine h3 _ _ (ne_of hx hp (by intro z;cases z)) (fun z=>e ?_) hx
 subst z;have l1:=(List.getElem?_eq_some_iff.mp hd).1;exact(List.getElem?_inj l1 X.nd).mp (hd.trans e1.symm)
theorem ShX.emptied{i:Nat}{d':Addr}(X:ShX C H p f m R t L ds)(hi:i < R.length)(hn:H d'=none)(h1:∃ dx,H' p=some (.ins C dx (sfl t L (tot (R.set i [])))))(h2:H' d'=some (.dK []))
 (h4:H' L=some (.lst ((ds.set i d').map V.ref))) (h3:∀ b o,b≠p->b≠L->H b=some o->H' b=some o):ShX C H' p f m (R.set i []) t L (ds.set i d'):=by
 obtain⟨dx,hp⟩:=X.ob;have live:∀ x∈ds,∃ r,H x=some (.dK (kvs r)):=fun x hx=>by
  obtain⟨j,e⟩:=List.mem_iff_getElem?.mp hx;have hj:j < R.length:=by rw[← X.len];exact(List.getElem?_eq_some_iff.mp e).1
  exact⟨_,X.at_ j x _ e (getD_get hj)⟩
 have nin:d'∉ds:=fun z=>by
  obtain⟨r,e⟩:=live _ z;rw[hn]at e;cases e
 refine⟨h1,h3 _ _ (ne_of X.mx hp (by intro z;cases z)) (ne_of X.mx X.rw (by intro z;cases z)) X.mx,X.bm,h4,by rw[List.length_set,List.length_set];exact X.len,?_,fun j x q e1 e2=>?_,set_ok X.ok (by simp[ROk]),by rw[List.length_set];exact X.pos,by rw[List.length_set];exact X.top⟩
 · have key:∀(l:List Addr) (i:Nat),l.Nodup->d'∉l->(l.set i d').Nodup:=by
    intro l
    induction l with
    | nil=>intro i h _;simpa using h
    | cons a l ih=>
      intro i h hn;obtain⟨h1,h2⟩:=List.nodup_cons.mp h;cases i with
      | zero=>exact List.nodup_cons.mpr ⟨fun z=>hn (List.mem_cons_of_mem _ z),h2⟩
      | succ i=>
        refine List.nodup_cons.mpr ⟨fun z=>?_,ih i h2 fun z=>hn (List.mem_cons_of_mem _ z)⟩;rcases List.mem_or_eq_of_mem_set z with z | z
        · exact h1 z
        exact hn (z ▸ List.mem_cons_self ..)
   exact key ds i X.nd nin
 by_cases e:i=j
 · subst e
   rw[List.getElem?_set_self (by rw[X.len];exact hi)]at e1
   cases e1;rw[List.getElem?_set_self hi]at e2;cases e2;exact h2
 rw[List.getElem?_set_ne e]at e1 e2;have hx:=X.at_ j x q e1 e2;exact h3 _ _ (ne_of hx hp (by intro z;cases z)) (ne_of hx X.rw (by intro z;cases z)) hx
end
theorem prs_of{H:Hp}:∀{as:List Addr}{r:MRow},as.length=r.length->(∀(j:Nat) (a:Addr),as[j]?=some a -> ∃ k x,(kvs r)[j]?=some (k,x)/\H a=some (.tup [kV k,x]))->Prs H (as.map V.ref) r
 | [],[],_,_=>.nil
 | a::as,p::r,hl,h=>by
   refine .cons ⟨a,rfl,?_⟩ (prs_of (Nat.succ.inj hl) fun j b e=>h (j+1) b e);obtain⟨k,x,e,z⟩:=h 0 a rfl;cases e;exact z
 | [],_::_,hl,_=>by cases hl
 | _::_,[],hl,_=>by cases hl
noncomputable def spWhole:Sp:=fun vs H Q _=>∃ n:Int,vs=[.int n]/\Q (.bl true) H
noncomputable def spIsSize:Sp:=fun vs H Q _=>∃ n:Nat,vs=[.int n]/\isSize n/\Q (.bl true) H
theorem inSizes{n:Nat}(h:isSize n):inV (V.int n) [.int 4,.int 8,.int 16,.int 32,.int 64,.int 128,.int 256,.int 512,.int 1024,.int 2048,.int 4096]=true:=by
 unfold isSize at h;simp only[List.mem_cons,List.not_mem_nil,or_false]at h;rcases h with rfl | rfl | rfl | rfl | rfl | rfl | rfl | rfl | rfl | rfl | rfl <;> decide
theorem isSize.bounds{n:Nat}(h:isSize n):4<=n/\n<=4096:=by
 unfold isSize at h;simp only[List.mem_cons,List.not_mem_nil,or_false]at h;rcases h with rfl | rfl | rfl | rfl | rfl | rfl | rfl | rfl | rfl | rfl | rfl <;> decide
theorem oV_getD{r:MRow}{k:Int}:(valV (kvs r) (Sum.inl k:Key)).getD V.non=oV (rLook r k):=by
 rw[valV_kvs];cases rLook r k <;> rfl
theorem wIf{σ:L2.St}{H:Hp}{Q:VK}{t:TT}{ta tb:TE}(h:t σ H fun c H1=>if c=true then ta σ H1 Q else tb σ H1 Q):tIf t ta tb σ H Q:=h
end SW
namespace SW.B
open PySem PySem.Spec PyProof.Rows L2 SW
theorem cmpI{X:Cx}{a b:Expr}{ta tb:TE}{pos:Pos}{op:CmpOp}{r:R2}(ho:OpR X (compareOp op) r)(ha:Bx (PE X a ta))(hb:Bx (PE X b tb))(hm:behindInMarks op b=false:=by first | rfl | with_unfolding_all rfl):Bx (PE X (.Compare a [op] [b] pos) (tOp r ta tb)):=⟨pe_cmpR ho ha.out hb.out hm⟩
theorem tcmpI{X:Cx}{a b:Expr}{ta tb:TE}{pos:Pos}{op:CmpOp}{r:R2}(ho:OpR X (compareOp op) r)(ha:Bx (PE X a ta))(hb:Bx (PE X b tb))(hm:behindInMarks op b=false:=by first | rfl | with_unfolding_all rfl):Bx (PT X (.Compare a [op] [b] pos) (tTest (tOp r ta tb))):=⟨pt_cmpR ho ha.out hb.out hm⟩
end SW.B
namespace SW
open PySem PySem.Spec PyProof.Rows L2
theorem putF_len(f:Str)(v:V):∀ fs:List (Str×V),(putF f v fs).length<=fs.length+1
 | []=>Nat.le_refl _
 | (k,x)::r=>by
   show(if k=f then(k,v)::r else(k,x)::putF f v r).length<=_;split
   · show r.length+1<=r.length+1+1;omega
   have:=putF_len f v r;show(putF f v r).length+1<=r.length+1+1;omega
end SW
namespace SW
open PySem PySem.Spec PyProof.Rows L2
section
variable{D:Ends}{σ:L2.St}{H:Hp}{Q:VK}{K:W.Frag}
theorem wDGet1{td ty:TE}(h:td σ H fun x H1=>∃ a,x=.ref a/\IsD H1 a/\ty σ H1 fun y H2=>∃ o,DGet H2 a y o/\Q (o.getD .non) H2):tDGet1 td ty σ H Q:=h
theorem wDPop2{td ty tx:TE}(h:td σ H fun x H1=>∃ a,x=.ref a/\IsD H1 a/\ty σ H1 fun y H2=>tx σ H2 fun z H3=>∃ kvs k,H3 a=some (.dK kvs)/\y=kV k/\(∀ v,valV kvs k=some v->Q v (upd H3 a (.dK (dropK kvs k))))/\(valV kvs k=none->Q z H3)):tDPop2 td ty tx σ H Q:=h
theorem wItems{td:TE}(h:td σ H fun x H1=>∃ a kvs,x=.ref a/\H1 a=some (.dK kvs) /\ ∀ v,H1 v=none->Q (.ref v) (upd H1 v (ViewO v a))):tItems td σ H Q:=h
theorem wDPut{td ty tv:TE}(h:tv σ H fun v H1=>td σ H1 fun x H2=>ty σ H2 fun y H3=>∃ a H4,x=.ref a/\DPut H3 a y v H4/\D.nx σ H4):sDPut td ty tv D σ H:=h
theorem wFAug{ta tv:TE}{rd:V->V->Hp->VK->Prop}{f:Str}(h:ta σ H fun x H1=>∃ a C dx fs v,x=.ref a/\H1 a=some (.ins C dx fs)/\Cls K C/\NoAttr K C f/\fs.lookup f=some v /\
 tv σ H1 fun y H2=>rd v y H2 fun z H3=>∃ dx' fs',H3 a=some (.ins C dx' fs')/\fs'.length < 1000/\D.nx σ (upd H3 a (.ins C dx' (putF f z fs')))):sFldAug K ta tv rd f D σ H:=h
theorem wCompSet{i:Nat}{t:TE}(h:t σ H fun v H1=>D.nx (σ.set i (some v)) H1):tCompSet i t D σ H:=h
theorem wSl{r:V->Option Int->Option Int->Hp->VK->Prop}{te:TE}{tl th:TO}(h:te σ H fun x H1=>tl σ H1 fun l H2=>th σ H2 fun u H3=>r x l u H3 Q):tSl r te tl th σ H Q:=h
theorem wNoPart{Q:Option Int->Hp->Prop}(h:Q none H):tNoPart σ H Q:=h
theorem wPart{t:TE}{Q:Option Int->Hp->Prop}(h:t σ H fun x H1=>∃ i,x=.int i/\Q (some i) H1):tPart t σ H Q:=h
end
section
variable{X:Cx}{pins:List (Addr×Obj)}{σ:L2.St}{H:Hp}{s:Shared}{h':Heap}
end
section
variable{X:Cx}{elts:List Expr}{k:Nat}{tp:Pos}
end
namespace B
end B
section
variable{prog:Program}{w:World}{A:Around}{E:Value->Shared->Prop}{s:Shared}
set_option maxRecDepth 100000 in
end
section
variable{X:Cx}{o e:Expr}{to te:TE}{pos p2:Pos}{hi:Option Expr}{th:TO}
end
namespace B
end B
theorem Prs.len{H:Hp}{xs:List V}{r:MRow}(h:Prs H xs r):xs.length=r.length:=Paired.length h
theorem Prs.get{H:Hp}:∀{xs:List V}{r:MRow}{i:Nat}{p:Int×Int},Prs H xs r->r[i]?=some p -> ∃ a,xs[i]?=some (.ref a)/\H a=some (.tup [.int p.1,.int p.2])
 | _,_,_,_,.nil,h=>by simp at h
 | _,_,0,p,.cons (b:=b) ⟨a,e,h⟩ _,g=>by
   simp at g;subst g;exact⟨a,by rw[e];rfl,h⟩
 | _,_,i+1,p,.cons _ t,g=>by
   obtain⟨a,e,h⟩:=Prs.get (i:=i) t (by simpa using g)
   exact⟨a,by simpa using e,h⟩
namespace B
theorem fldK(K:W.Frag){X:Cx}{e:Expr}{ta:TE}{f:Str}{pos:Pos}(he:Bx (PE X e ta))(h:X.K=K:=by rfl)(hb:attributeBase e f X.env (eval e X.env)=eval e X.env:=by rfl):Bx (PE X (.Attribute e f pos) (tFld K ta f)):=by subst h;exact⟨pe_fld he.out hb⟩
end B
end SW
namespace SW
open PySem PySem.Spec PyProof.Rows L2
theorem b_range:bootBuiltins "range"=some (.type "range"):=by decide +kernel
theorem b_set:bootBuiltins "set"=some (.type "set"):=by decide +kernel
theorem b_min:bootBuiltins "min"=some (.builtin "min"):=by decide +kernel
theorem b_max:bootBuiltins "max"=some (.builtin "max"):=by decide +kernel
noncomputable def nDist(ns:List Int):Nat:=(firstMet (fun i=>ns.getD i 0) ns.length).length
noncomputable def seqI(i:Int)(n:Nat):List Int:=(List.range n).map fun(k:Nat)=>i+(k:Int)
theorem vals_seq{i:Int}:∀{n:Nat}{acc:List Value},acc.length=n->(∀(j:Nat) v,acc[j]?=some v -> ∃ t,v=.int (i+j*1) t)->Vals ((seqI i n).map V.int) acc:=by
 intro n acc hl h;have key:∀(acc:List Value) (b:Nat),(∀(j:Nat) v,acc[j]?=some v -> ∃ t,v=.int (i+((b+j:Nat):Int)) t)->Vals (((List.range' b acc.length).map fun(k:Nat)=>i+(k:Int)).map V.int) acc:=by
  intro acc
  induction acc with
  | nil=>intro b _;exact .nil
  | cons v acc ih=>
    intro b h;refine .cons ?_ (ih (b+1) fun j v e=>?_)
    · obtain⟨t,e⟩:=h 0 v rfl
      exact⟨t,e⟩
    obtain⟨t,e'⟩:=h (j+1) v (by simpa using e)
    exact⟨t,by rw[e',show b+(j+1)=b+1+j by omega]⟩
 have:=key acc 0 fun j v e=>by
  obtain⟨t,e'⟩:=h j v e;exact⟨t,by rw[e',Int.mul_one,Nat.zero_add]⟩
 rw[hl]at this;unfold seqI;rw[List.range_eq_range'];exact this
section
variable{X:Cx}
theorem call_range2R:CallR X (.type "range") (fun xs H Q=>∃ i j,xs=[.int i,.int j] /\ ∀ p,H p=none->Q (.ref p) (upd H p (.rng i j))):=by
 intro pins s σ H xs us Q I r h;obtain⟨i,j,rfl,q⟩:=h;obtain⟨u,w',rfl,⟨t,rfl⟩,⟨t',rfl⟩⟩:=vals2 r;refine call_range_2 ⟨.ref s.heap.objs.size,upd H s.heap.objs.size (.rng i j),I.laid (t':=s.toks+1) (fun b u e=>Heap.get?_push_of_some _ e) (Nat.le_refl _) ?_,rfl,q _ (I.hok.fresh (Nat.le_refl _))⟩;exact⟨t,t',s.toks,Heap.get?_push_size _ rfl⟩
theorem call_list_rng:CallR X (.type "list") (fun xs H Q=>∃ r i j,xs=[.ref r]/\H r=some (.rng i j)/\(-(2 ^ 62)<=i/\i < 2 ^ 62 /\ -(2 ^ 62)<=j/\j < 2 ^ 62)/\i<=j/\j - i<=1000000/\X.calm=true /\ ∀ l,H l=none->Q (.ref l) (upd H l (.lst ((seqI i (j - i).toNat).map V.int)))):=by
 intro pins s σ H xs us Q I r h;obtain⟨a,i,j,rfl,ha,⟨h1,h2,h3,h4⟩,hij,hsz,hc,q⟩:=h;obtain⟨u,rfl,rx⟩:=vals1 r;cases rx;obtain⟨t,u',v',g⟩:=(show ObjOk X.prog X.w H s.heap a (.rng i j)from I.hok a _ ha);have hn:Builtin.Range.rangeSize i j 1=((j - i).toNat:Int):=by rw[rangeSize_one];split <;> omega
 refine call_list_range (n:=(j - i).toNat) (I.ok.hd hc) (show IsRange s.heap a i j 1 t u' v' from g) (small_one h1 h2 h3 h4) hn (by omega) fun h' tk acc c hk hS hacc=>?_
 have vs:Vals ((seqI i (j - i).toNat).map V.int) acc.toList:=vals_seq (by rw[Array.length_toList];exact hacc.1) fun k v e=>hacc.2 k v (by simpa using e)
 have ll:((seqI i (j - i).toNat).map V.int).length=(j - i).toNat:=by unfold seqI;simp
 refine⟨.ref s.heap.objs.size,_,I.laid (t':=tk) hk (Nat.le_refl _) (show ObjOk X.prog X.w _ h' _ (.lst ((seqI i (j - i).toNat).map V.int))from⟨by rw[ll,sizeLine_eq];omega,acc.toList,c,vs,hS⟩),rfl,q _ (I.hok.fresh (Nat.le_refl _))⟩
theorem call_setL:CallR X (.type "set") (fun xs H Q=>∃ l ns,xs=[.ref l]/\SqL X.K H l (List.map V.int ns)/\List.length ns+1 < 4096/\X.calm=true /\ ∀ a S,H a=none->Q (.ref a) (upd H a (.set S (nDist ns)))):=by
 intro pins s σ H xs us Q I r h;obtain⟨l,ns,rfl,hl,hn,hc,q⟩:=h;obtain⟨u,rfl,rx⟩:=vals1 r;cases rx;obtain⟨its,rv,pl,_⟩:=I.list hl;have hi:IntsAre its ns:=intsAre_of rv;have le:=rv.length;rw[List.length_map]at le;refine call_set_list (items:=its.toArray) (I.ok.hd hc) pl.isList hi (by rw[List.size_toArray,← le];exact hn) fun h' tk hS hk=>?_
 have e:(firstMet (fun i=>ns.getD i 0) its.toArray.size).length=nDist ns:=by rw[List.size_toArray,← le];rfl
 rw[e]at hS;exact⟨.ref s.heap.objs.size,_,I.laid (t':=tk) (fun b u g=>hk b u (Heap.lt_size g) g) (Nat.le_refl _) (show ObjOk X.prog X.w _ h' _ (.set _ _)from hS),rfl,q _ _ (I.hok.fresh (Nat.le_refl _))⟩
theorem call_lenS:CallR X (.builtin "len") (fun xs H Q=>∃ a S n,xs=[.ref a]/\H a=some (.set S n)/\Q (.int (n:Nat)) H):=by
 intro pins s σ H xs us Q I r h;obtain⟨a,S,n,rfl,ha,q⟩:=h;obtain⟨u,rfl,rx⟩:=vals1 r;cases rx;obtain⟨o,es,ep,t,ho,hex,hd,_,_,hb,hf,hn⟩:=(show ObjOk X.prog X.w H s.heap a (.set S n)from I.hok a _ ha);have:(scanBound:Nat)=4096:=rfl;exact call_len_set ho hex hd hf (by omega) ⟨.int n,H,I.tok _,⟨_,by rw[hn]⟩,q⟩
end
end SW
namespace SW
open PySem PySem.Spec PyProof.Rows L2
structure MT where
 el:Option MRows
 mv:Nat
 nw:MRows
noncomputable def putAll(f m:Int)(N:MRows)(r:MRow):MRows:=r.foldl (fun N p=>sPut f m N p.1 p.2) N
noncomputable def moves(f m:Int):MRows->MRows->Nat->Nat->MRows×MRows
 | E,N,_,0=>(E,N)
 | E,N,i,c+1=>moves f m (E.set i []) (putAll f m N (E.getD i [])) (i+1) c
noncomputable def reach(f m:Int)(n:Nat):MRows->Nat->Nat->List Int
 | _,_,0=>[]
 | E,i,c+1=>((E.getD i []).map fun p=>((plc f m n p.1:Nat):Int))++reach f m n E (i+1) c
noncomputable def due(pc:Nat)(M:MT):Nat:=match M.el with
 | none=>0
 | some E=>min (M.mv+pc) E.length - M.mv
noncomputable def goOn(f m:Int)(pc:Nat)(M:MT):MT:=match M.el with
 | none=>M
 | some E=>if M.mv+due pc M=E.length then⟨none,0,(moves f m E M.nw M.mv (due pc M)).2⟩else⟨some (moves f m E M.nw M.mv (due pc M)).1,M.mv+due pc M,(moves f m E M.nw M.mv (due pc M)).2⟩
noncomputable def onE(f m:Int)(M:MT)(k:Int):Option Int:=match M.el with
 | none=>none
 | some E=>sLook f m E k
noncomputable def tLook(f m:Int)(M:MT)(k:Int):Option Int:=match onE f m M k with
 | some v=>some v
 | none=>sLook f m M.nw k
noncomputable def putAt(f m:Int)(M:MT)(k v:Int):MT:=match M.el with
 | none=>{ M with nw:=sPut f m M.nw k v }
 | some E=>if sLook f m E k=none then { M with nw:=sPut f m M.nw k v } else { M with el:=some (sPut f m E k v) }
noncomputable def cutAt(f m:Int)(M:MT)(k:Int):MT:=match M.el with
 | none=>{ M with nw:=sCut f m M.nw k }
 | some E=>if sLook f m E k=none then { M with nw:=sCut f m M.nw k } else { M with el:=some (sCut f m E k) }
noncomputable def want(N:MRows):Nat:=if N.length < tot N then min (N.length*2) 4096 else if tot N*8 < N.length then max (N.length / 2) 4 else N.length
noncomputable def beg(M:MT):MT:=match M.el with
 | some _=>M
 | none=>if want M.nw=M.nw.length then M else⟨some M.nw,M.mv,List.replicate (want M.nw) []⟩
noncomputable def tch(f m:Int)(pc:Nat)(M:MT)(k:Int):Nat:=due pc M+nDist (((plc f m M.nw.length k:Nat):Int)::(match M.el with | none=>[] | some E=>reach f m M.nw.length E M.mv (due pc M)))
 + (match(goOn f m pc M).el with | none=>0 | some E=>if(goOn f m pc M).mv<=plc f m E.length k then 1 else 0)
noncomputable def cnt(M:MT):Nat:=(match M.el with | none=>0 | some E=>tot E)+tot M.nw
structure POk(f m:Int)(N:MRows):Prop where
 at_:∀(i:Nat) r p,N[i]?=some r->p∈r->plc f m N.length p.1=i
 ok:∀ r∈N,ROk r
structure TOk(f m:Int)(M:MT):Prop where
 nw:POk f m M.nw
 sz:isSize M.nw.length
 el:∀ E,M.el=some E->POk f m E/\isSize E.length/\M.mv < E.length/\(∀ i r,i < M.mv->E[i]?=some r->r=[])/\(∀ k,sLook f m E k≠none->sLook f m M.nw k=none)
 no:M.el=none->M.mv=0
theorem sLook_getD{f m:Int}{N:MRows}{k:Int}:sLook f m N k=rLook (N.getD (plc f m N.length k) []) k:=rfl
theorem set_getD{R:MRows}{i j:Nat}{r:MRow}(h:i < R.length):(R.set i r).getD j []=if i=j then r else R.getD j []:=by
 rw[List.getD_eq_getElem?_getD,List.getElem?_set];by_cases e:i=j
 · rw[if_pos e,if_pos e,if_pos h];rfl
 rw[if_neg e,if_neg e,List.getD_eq_getElem?_getD]
theorem rLook_put{r:MRow}{k v j:Int}:rLook (rPut r k v) j=if j=k then some v else rLook r j:=by
 have h:=valV_put (kvs r) (Sum.inl k:Key) (Sum.inl j) (V.int v);rw[putK_kvs,valV_kvs,valV_kvs]at h;by_cases e:j=k
 · rw[if_pos (inlE.mpr e)]at h
   rw[if_pos e];cases q:rLook (rPut r k v) j with
   | none=>rw[q]at h;cases h
   | some z=>rw[q]at h;injection h with h;injection h with h;rw[h]
 rw[if_neg (fun z=>e (inlE.mp z))]at h;rw[if_neg e];cases q:rLook (rPut r k v) j with
 | none=>rw[q]at h;cases q2:rLook r j with
   | none=>rfl
   | some z=>rw[q2]at h;cases h
 | some z=>rw[q]at h;cases q2:rLook r j with
   | none=>rw[q2]at h;cases h
   | some y=>rw[q2]at h;injection h with h;injection h with h;rw[h]
theorem rLook_cut{k j:Int}:∀{r:MRow},rLook (rCut r k) j=if j=k then none else rLook r j
 | []=>by unfold rCut;simp[rLook]
 | p::r=>by
   have ih:=rLook_cut (k:=k) (j:=j) (r:=r);by_cases e:p.1=k
   · have e2:rCut (p::r) k=rCut r k:=by
      unfold rCut;rw[List.filter_cons,if_neg (by simp[e])]
     rw[e2,ih];by_cases ej:j=k
     · rw[if_pos ej,if_pos ej]
     rw[if_neg ej,if_neg ej,rLook_neg (fun z=>ej (by rw[← z,e]))]
   have e2:rCut (p::r) k=p::rCut r k:=by
    unfold rCut;rw[List.filter_cons,if_pos (by simp[e])]
   rw[e2];by_cases ep:p.1=j
   · rw[rLook_pos ep,rLook_pos ep,if_neg (fun z=>e (by rw[ep,z]))]
   rw[rLook_neg ep,rLook_neg ep,ih]
theorem sLook_put{f m:Int}{N:MRows}{k v j:Int}(h:0 < N.length):sLook f m (sPut f m N k v) j=if j=k then some v else sLook f m N j:=by
 unfold sLook sRow;rw[sPut_len];unfold sPut sRow;rw[set_getD (plc_lt h)];by_cases e:j=k
 · subst e
   rw[if_pos rfl,if_pos rfl,rLook_put,if_pos rfl]
 rw[if_neg e];split
 · rename_i e2
   rw[rLook_put,if_neg e,e2]
 rfl
theorem sLook_cut{f m:Int}{N:MRows}{k j:Int}(h:0 < N.length):sLook f m (sCut f m N k) j=if j=k then none else sLook f m N j:=by
 unfold sLook sRow;rw[sCut_len];unfold sCut sRow;rw[set_getD (plc_lt h)];by_cases e:j=k
 · subst e
   rw[if_pos rfl,if_pos rfl,rLook_cut,if_pos rfl]
 rw[if_neg e];split
 · rename_i e2
   rw[rLook_cut,if_neg e,e2]
 rfl
theorem mem_put{r:MRow}{k v:Int}{p:Int×Int}(h:p∈rPut r k v):p.1=k∨p∈r:=by
 cases e:rLook r k with
 | none=>
   rw[rPut_new e]at h;rcases List.mem_append.mp h with h | h
   · exact .inr h
   exact .inl (by rw[List.mem_singleton.mp h])
 | some z=>
   unfold rPut at h;rw[e,if_pos (show(some z).isSome=true from rfl)]at h;obtain⟨q,hq,rfl⟩:=List.mem_map.mp h;by_cases e2:q.1=k
   · rw[if_pos e2];exact .inl e2
   rw[if_neg e2];exact .inr hq
theorem POk.set{f m:Int}{N:MRows}{i:Nat}{r:MRow}(P:POk f m N)(h:∀ p∈r,plc f m N.length p.1=i)(hr:ROk r):POk f m (N.set i r):=by
 refine⟨fun j q p e hp=>?_,set_ok P.ok hr⟩;rw[List.length_set];by_cases z:i=j
 · subst z
   have lt:i < (N.set i r).length:=(List.getElem?_eq_some_iff.mp e).1;rw[List.length_set]at lt;rw[List.getElem?_set_self lt]at e;cases e;exact h p hp
 rw[List.getElem?_set_ne z]at e;exact P.at_ j q p e hp
theorem POk.put{f m:Int}{N:MRows}{k v:Int}(P:POk f m N)(h:0 < N.length):POk f m (sPut f m N k v):=
 P.set (fun p hp=>by
  rcases mem_put hp with e | e
  · rw[e]
  exact P.at_ _ _ p (getD_get (plc_lt h)) e) (rPut_ok (P.ok _ (List.mem_of_getElem? (getD_get (plc_lt h)))))
theorem POk.cut{f m:Int}{N:MRows}{k:Int}(P:POk f m N)(h:0 < N.length):POk f m (sCut f m N k):=
 P.set (fun p hp=>P.at_ _ _ p (getD_get (plc_lt h)) (List.mem_filter.mp hp).1) (rCut_ok (P.ok _ (List.mem_of_getElem? (getD_get (plc_lt h)))))
theorem POk.empty{f m:Int}{N:MRows}{i:Nat}(P:POk f m N):POk f m (N.set i []):=P.set (fun p hp=>(List.not_mem_nil hp).elim) List.nodup_nil
theorem POk.rep{f m:Int}{n:Nat}:POk f m (List.replicate n []):=
 ⟨fun i r p e hp=>by rw[List.eq_of_mem_replicate (List.mem_of_getElem? e)]at hp;exact(List.not_mem_nil hp).elim,fun r hr=>by rw[List.eq_of_mem_replicate hr];exact List.nodup_nil⟩
theorem putAll_len{f m:Int}:∀{r:MRow}{N:MRows},(putAll f m N r).length=N.length
 | [],_=>rfl
 | p::r,N=>by
   show(putAll f m (sPut f m N p.1 p.2) r).length=_;rw[putAll_len,sPut_len]
theorem putAll_pok{f m:Int}:∀{r:MRow}{N:MRows},POk f m N->0 < N.length->POk f m (putAll f m N r)
 | [],_,P,_=>P
 | p::r,N,P,h=>putAll_pok (r:=r) (P.put h) (by rw[sPut_len];exact h)
theorem sLook_putAll{f m:Int}{k:Int}:∀{r:MRow}{N:MRows},ROk r->0 < N.length->sLook f m (putAll f m N r) k=match rLook r k with | some v=>some v | none=>sLook f m N k
 | [],_,_,_=>rfl
 | p::r,N,ok,h=>by
   obtain⟨h1,h2⟩:=List.nodup_cons.mp (show(p.1::r.map (·.1)).Nodup from ok);show sLook f m (putAll f m (sPut f m N p.1 p.2) r) k=_;rw[sLook_putAll h2 (by rw[sPut_len];exact h),sLook_put h]
   by_cases e:p.1=k
   · have:rLook r k=none:=(rLook_none_iff k).mpr (by rw[← e];exact h1)
     rw[this,rLook_pos e,if_pos e.symm]
   rw[rLook_neg e,if_neg (fun z=>e z.symm)]
theorem tot_putAll{f m:Int}:∀{r:MRow}{N:MRows},ROk r->0 < N.length->(∀ p∈r,sLook f m N p.1=none)->tot (putAll f m N r)=tot N+r.length
 | [],_,_,_,_=>rfl
 | p::r,N,ok,h,hn=>by
   obtain⟨h1,h2⟩:=List.nodup_cons.mp (show(p.1::r.map (·.1)).Nodup from ok);show tot (putAll f m (sPut f m N p.1 p.2) r)=_;rw[tot_putAll h2 (by rw[sPut_len];exact h) (fun q hq=>?_),sPut_tot h,hn p (List.mem_cons_self ..),if_pos rfl,List.length_cons]
   · omega
   rw[sLook_put h,if_neg (fun z=>h1 (List.mem_map.mpr ⟨q,hq,z⟩))];exact hn q (List.mem_cons_of_mem _ hq)
structure Pair(f m:Int)(E N:MRows)(i:Nat):Prop where
 e:POk f m E
 n:POk f m N
 e0:0 < E.length
 n0:0 < N.length
 dis:∀ k,sLook f m E k≠none->sLook f m N k=none
 bare:∀ j r,j < i->E[j]?=some r->r=[]
theorem rLook_mem{r:MRow}{k v:Int}(h:rLook r k=some v):∃ p∈r,p.1=k:=by
 unfold rLook at h;obtain⟨p,e,_⟩:=Option.map_eq_some_iff.mp h;exact⟨p,List.mem_of_find?_eq_some e,of_decide_eq_true (List.find?_some (p:=fun p:Int×Int=>decide (p.1=k)) e)⟩
theorem Pair.row{f m:Int}{E N:MRows}{i:Nat}(P:Pair f m E N i)(hi:i < E.length):ROk (E.getD i [])/\(∀ k,plc f m E.length k≠i->rLook (E.getD i []) k=none) /\ ∀ p∈E.getD i [],sLook f m E p.1=rLook (E.getD i []) p.1:=by
 have e:=getD_get hi;refine⟨P.e.ok _ (List.mem_of_getElem? e),fun k hk=>?_,fun p hp=>?_⟩
 · cases q:rLook (E.getD i []) k with
   | none=>rfl
   | some v=>
     obtain⟨p,hp,ep⟩:=rLook_mem q;exact absurd (P.e.at_ i _ p e hp) (by rw[ep];exact hk)
 rw[sLook_getD,P.e.at_ i _ p e hp]
theorem Pair.step{f m:Int}{E N:MRows}{i:Nat}(P:Pair f m E N i)(hi:i < E.length):Pair f m (E.set i []) (putAll f m N (E.getD i [])) (i+1) /\
 (∀ k,(match sLook f m (E.set i []) k with | some v=>some v | none=>sLook f m (putAll f m N (E.getD i [])) k)=match sLook f m E k with | some v=>some v | none=>sLook f m N k)/\tot (E.set i [])+tot (putAll f m N (E.getD i []))=tot E+tot N:=by
 obtain⟨ok,out,ins⟩:=P.row hi;have se:∀ k,sLook f m (E.set i []) k=if plc f m E.length k=i then none else sLook f m E k:=fun k=>by
  rw[sLook_getD,List.length_set,set_getD hi];by_cases e:plc f m E.length k=i
  · rw[if_pos e.symm,if_pos e];rfl
  rw[if_neg (fun z=>e z.symm),if_neg e];rfl
 have key:∀ k,plc f m E.length k=i->sLook f m E k=rLook (E.getD i []) k:=fun k e=>by rw[sLook_getD,e]
 refine⟨⟨P.e.empty,putAll_pok P.n P.n0,by rw[List.length_set];exact P.e0,by rw[putAll_len];exact P.n0,fun k hk=>?_,fun j r hj e=>?_⟩,fun k=>?_,?_⟩
 · rw[se]at hk
   by_cases e:plc f m E.length k=i
   · rw[if_pos e]at hk;exact absurd rfl hk
   rw[if_neg e]at hk;rw[sLook_putAll ok P.n0,out k e];exact P.dis k hk
 · by_cases z:i=j
   · subst z
     rw[List.getElem?_set_self hi]at e;cases e
     rfl
   rw[List.getElem?_set_ne z]at e;exact P.bare j r (by omega) e
 · rw[se,sLook_putAll ok P.n0]
   by_cases e:plc f m E.length k=i
   · rw[if_pos e,key k e]
   rw[if_neg e,out k e]
 have h1:=tot_set E i [] hi;have h2:=tot_putAll (f:=f) (m:=m) (N:=N) ok P.n0 fun p hp=>P.dis _ (by
  rw[ins p hp];exact fun z=>(rLook_none_iff p.1).mp z (List.mem_map.mpr ⟨p,hp,rfl⟩))
 rw[h2];have:([]:MRow).length=0:=rfl;omega
theorem moves_ok{f m:Int}:∀(c:Nat) {E N:MRows}{i:Nat},Pair f m E N i->i+c<=E.length->Pair f m (moves f m E N i c).1 (moves f m E N i c).2 (i+c)/\(moves f m E N i c).1.length=E.length/\(moves f m E N i c).2.length=N.length /\
 (∀ k,(match sLook f m (moves f m E N i c).1 k with | some v=>some v | none=>sLook f m (moves f m E N i c).2 k)=match sLook f m E k with | some v=>some v | none=>sLook f m N k)/\tot (moves f m E N i c).1+tot (moves f m E N i c).2=tot E+tot N
 | 0,E,N,i,P,_=>⟨P,rfl,rfl,fun _=>rfl,rfl⟩
 | c+1,E,N,i,P,h=>by
   obtain⟨P1,l1,t1⟩:=P.step (show i < E.length by omega)
   obtain⟨P2,a2,b2,l2,t2⟩:=moves_ok c P1 (by rw[List.length_set];omega)
   refine⟨?_,by show(moves f m (E.set i []) (putAll f m N (E.getD i [])) (i+1) c).1.length=_;rw[a2,List.length_set],by show(moves f m (E.set i []) (putAll f m N (E.getD i [])) (i+1) c).2.length=_;rw[b2,putAll_len],fun k=>(l2 k).trans (l1 k),t2.trans t1⟩
   have e:i+(c+1)=i+1+c:=by omega
   rw[e];exact P2
theorem none_of_bare{f m:Int}{E:MRows}(h0:0 < E.length)(h:∀ j r,j < E.length->E[j]?=some r->r=[])(k:Int):sLook f m E k=none:=by
 rw[sLook_getD];have lt:=plc_lt (f:=f) (m:=m) (k:=k) h0;rw[h _ _ lt (getD_get lt)]
 rfl
theorem tot_bare{E:MRows}(h:∀ j r,j < E.length->E[j]?=some r->r=[]):tot E=0:=by
 have key:∀ E:MRows,(∀ r∈E,r=[])->tot E=0:=by
  intro E
  induction E with
  | nil=>intro _;rfl
  | cons a E ih=>
    intro h;have:=ih fun r hr=>h r (List.mem_cons_of_mem _ hr);have e:=h a (List.mem_cons_self ..);subst e;show([]:MRow).length+tot E=0;rw[this]
    rfl
 refine key E fun r hr=>?_;obtain⟨i,e⟩:=List.mem_iff_getElem?.mp hr;exact h i r (List.getElem?_eq_some_iff.mp e).1 e
theorem isSize.pos{n:Nat}(h:isSize n):0 < n:=by have:=h.bounds;omega
theorem TOk.pair{f m:Int}{M:MT}{E:MRows}(T:TOk f m M)(e:M.el=some E):Pair f m E M.nw M.mv:=by
 obtain⟨P,s,_,b,d⟩:=T.el E e;exact⟨P,T.nw,s.pos,T.sz.pos,d,b⟩
theorem due_le{pc:Nat}{M:MT}{E:MRows}(e:M.el=some E)(h:M.mv < E.length):M.mv+due pc M<=E.length:=by
 unfold due;rw[e];show M.mv+(min (M.mv+pc) E.length - M.mv)<=E.length;omega
theorem goOn_ok{f m:Int}{pc:Nat}{M:MT}(T:TOk f m M):TOk f m (goOn f m pc M)/\(∀ k,tLook f m (goOn f m pc M) k=tLook f m M k)/\cnt (goOn f m pc M)=cnt M:=by
 cases e:M.el with
 | none=>
   have:goOn f m pc M=M:=by unfold goOn;rw[e]
   rw[this];exact⟨T,fun _=>rfl,rfl⟩
 | some E=>
   obtain⟨P,s,hm,b,d⟩:=T.el E e;obtain⟨P2,l1,l2,lk,tt⟩:=moves_ok (due pc M) (T.pair e) (due_le e hm);by_cases z:M.mv+due pc M=E.length
   · have eg:goOn f m pc M=⟨none,0,(moves f m E M.nw M.mv (due pc M)).2⟩:=by unfold goOn;rw[e];exact if_pos z
     have bare:∀ j r,j < (moves f m E M.nw M.mv (due pc M)).1.length->(moves f m E M.nw M.mv (due pc M)).1[j]?=some r->r=[]:=fun j r hj=>P2.bare j r (by rw[l1]at hj;omega)
     rw[eg];refine⟨⟨P2.n,by show isSize (moves f m E M.nw M.mv (due pc M)).2.length;rw[l2];exact T.sz,(fun E' h=>by cases h),fun _=>rfl⟩,fun k=>?_,?_⟩
     · have h1:=lk k
       rw[none_of_bare P2.e0 bare]at h1;refine Eq.trans (show sLook f m (moves f m E M.nw M.mv (due pc M)).2 k=_ from h1) ?_;unfold tLook onE;rw[e]
     have h1:=tot_bare bare;unfold cnt;rw[e];show 0+tot (moves f m E M.nw M.mv (due pc M)).2=tot E+tot M.nw;omega
   have eg:goOn f m pc M=⟨some (moves f m E M.nw M.mv (due pc M)).1,M.mv+due pc M,(moves f m E M.nw M.mv (due pc M)).2⟩:=by unfold goOn;rw[e];exact if_neg z
   rw[eg];have:=due_le (pc:=pc) e hm;refine⟨⟨P2.n,by show isSize (moves f m E M.nw M.mv (due pc M)).2.length;rw[l2];exact T.sz,(fun E' h=>by
    cases h;exact⟨P2.e,by rw[l1];exact s,by show M.mv+due pc M < _;rw[l1];omega,P2.bare,P2.dis⟩),fun h=>by cases h⟩,fun k=>?_,?_⟩
   · have h1:=lk k
     unfold tLook onE;rw[e];exact h1
   unfold cnt;rw[e];exact tt
theorem putAt_ok{f m:Int}{M:MT}{k v:Int}(T:TOk f m M):TOk f m (putAt f m M k v)/\(∀ j,tLook f m (putAt f m M k v) j=if j=k then some v else tLook f m M j)/\cnt (putAt f m M k v)=cnt M+(if tLook f m M k=none then 1 else 0):=by
 have n0:=T.sz.pos;cases e:M.el with
 | none=>
   have eg:putAt f m M k v={ M with nw:=sPut f m M.nw k v }:=by unfold putAt;rw[e]
   rw[eg];refine⟨⟨T.nw.put n0,by show isSize (sPut f m M.nw k v).length;rw[sPut_len];exact T.sz,(fun E h=>by rw[show M.el=none from e]at h;cases h),T.no⟩,fun j=>?_,?_⟩
   · unfold tLook onE
     simp only[e];exact sLook_put n0
   unfold cnt tLook onE;simp only[e];rw[sPut_tot n0];omega
 | some E=>
   obtain⟨P,s,hm,b,d⟩:=T.el E e;by_cases z:sLook f m E k=none
   · have eg:putAt f m M k v={ M with nw:=sPut f m M.nw k v }:=by unfold putAt;rw[e];exact if_pos z
     rw[eg];refine⟨⟨T.nw.put n0,by show isSize (sPut f m M.nw k v).length;rw[sPut_len];exact T.sz,(fun E' h=>?_),T.no⟩,fun j=>?_,?_⟩
     · obtain rfl:E=E':=Option.some.inj (e.symm.trans h)
       refine⟨P,s,hm,b,fun j hj=>?_⟩;show sLook f m (sPut f m M.nw k v) j=none;rw[sLook_put n0,if_neg (fun q=>hj (by rw[q];exact z))]
       exact d j hj
     · unfold tLook onE
       simp only[e];by_cases q:j=k
       · subst q
         rw[z,if_pos rfl];show sLook f m (sPut f m M.nw j v) j=_;rw[sLook_put n0,if_pos rfl]
       rw[if_neg q];show(match sLook f m E j with | some v=>some v | none=>sLook f m (sPut f m M.nw k v) j)=_;rw[sLook_put n0,if_neg q]
     unfold cnt tLook onE;simp only[e,z];rw[sPut_tot n0];omega
   have eg:putAt f m M k v={ M with el:=some (sPut f m E k v) }:=by unfold putAt;rw[e];exact if_neg z
   rw[eg];have e0:=s.pos;refine⟨⟨T.nw,T.sz,(fun E' h=>?_),fun h=>by cases h⟩,fun j=>?_,?_⟩
   · cases h
     refine⟨P.put e0,by rw[sPut_len];exact s,by rw[sPut_len];exact hm,fun i r hi er=>?_,fun j hj=>?_⟩
     · have hi:i < M.mv:=hi
       have hpl:plc f m E.length k≠i:=fun q=>z (by
        rw[sLook_getD,q,b i _ hi (getD_get (by omega))]
        rfl)
       unfold sPut at er;rw[List.getElem?_set_ne hpl]at er;exact b i r hi er
     rw[sLook_put e0]at hj;by_cases q:j=k
     · rw[q];exact d k z
     rw[if_neg q]at hj;exact d j hj
   · unfold tLook onE
     simp only[e];rw[sLook_put e0];by_cases q:j=k
     · rw[if_pos q,if_pos q]
     rw[if_neg q,if_neg q]
   unfold cnt tLook onE;simp only[e];rw[sPut_tot e0,if_neg z];cases q:sLook f m E k with
   | none=>exact absurd q z
   | some x=>simp
theorem cutAt_ok{f m:Int}{M:MT}{k:Int}(T:TOk f m M):TOk f m (cutAt f m M k)/\(∀ j,tLook f m (cutAt f m M k) j=if j=k then none else tLook f m M j)/\cnt (cutAt f m M k)+(if tLook f m M k=none then 0 else 1)=cnt M:=by
 have n0:=T.sz.pos;cases e:M.el with
 | none=>
   have eg:cutAt f m M k={ M with nw:=sCut f m M.nw k }:=by unfold cutAt;rw[e]
   rw[eg];have ct:=sCut_tot (f:=f) (m:=m) (k:=k) n0 T.nw.ok;refine⟨⟨T.nw.cut n0,by show isSize (sCut f m M.nw k).length;rw[sCut_len];exact T.sz,(fun E h=>by rw[show M.el=none from e]at h;cases h),T.no⟩,fun j=>?_,?_⟩
   · unfold tLook onE
     simp only[e];exact sLook_cut n0
   unfold cnt tLook onE;simp only[e];omega
 | some E=>
   obtain⟨P,s,hm,b,d⟩:=T.el E e;by_cases z:sLook f m E k=none
   · have eg:cutAt f m M k={ M with nw:=sCut f m M.nw k }:=by unfold cutAt;rw[e];exact if_pos z
     rw[eg];have ct:=sCut_tot (f:=f) (m:=m) (k:=k) n0 T.nw.ok;refine⟨⟨T.nw.cut n0,by show isSize (sCut f m M.nw k).length;rw[sCut_len];exact T.sz,(fun E' h=>?_),T.no⟩,fun j=>?_,?_⟩
     · obtain rfl:E=E':=Option.some.inj (e.symm.trans h)
       refine⟨P,s,hm,b,fun j hj=>?_⟩;show sLook f m (sCut f m M.nw k) j=none;rw[sLook_cut n0];split
       · rfl
       exact d j hj
     · unfold tLook onE
       simp only[e];by_cases q:j=k
       · subst q
         rw[z,if_pos rfl];show sLook f m (sCut f m M.nw j) j=_;rw[sLook_cut n0,if_pos rfl]
       rw[if_neg q];show(match sLook f m E j with | some v=>some v | none=>sLook f m (sCut f m M.nw k) j)=_;rw[sLook_cut n0,if_neg q]
     unfold cnt tLook onE;simp only[e,z];omega
   have eg:cutAt f m M k={ M with el:=some (sCut f m E k) }:=by unfold cutAt;rw[e];exact if_neg z
   rw[eg];have e0:=s.pos;have ct:=sCut_tot (f:=f) (m:=m) (k:=k) e0 P.ok;rw[if_neg z]at ct;refine⟨⟨T.nw,T.sz,(fun E' h=>?_),fun h=>by cases h⟩,fun j=>?_,?_⟩
   · cases h
     refine⟨P.cut e0,by rw[sCut_len];exact s,by rw[sCut_len];exact hm,fun i r hi er=>?_,fun j hj=>?_⟩
     · have hi:i < M.mv:=hi
       have hpl:plc f m E.length k≠i:=fun q=>z (by
        rw[sLook_getD,q,b i _ hi (getD_get (by omega))]
        rfl)
       unfold sCut at er;rw[List.getElem?_set_ne hpl]at er;exact b i r hi er
     rw[sLook_cut e0]at hj;by_cases q:j=k
     · rw[if_pos q]at hj;exact absurd rfl hj
     rw[if_neg q]at hj;exact d j hj
   · unfold tLook onE
     simp only[e];rw[sLook_cut e0];by_cases q:j=k
     · subst q
       rw[if_pos rfl,if_pos rfl];exact d j z
     rw[if_neg q,if_neg q]
   unfold cnt tLook onE;simp only[e];cases q:sLook f m E k with
   | none=>exact absurd q z
   | some x=>simp;omega
theorem want_size{N:MRows}(h:isSize N.length):isSize (want N):=by
 unfold want;generalize tot N=t;unfold isSize at h;simp only[List.mem_cons,List.not_mem_nil,or_false]at h;rcases h with h | h | h | h | h | h | h | h | h | h | h <;> rw[h] <;> (split;· unfold isSize;decide) <;> (split;· unfold isSize;decide) <;> (unfold isSize;decide)
theorem beg_ok{f m:Int}{M:MT}(T:TOk f m M):TOk f m (beg M)/\(∀ j,tLook f m (beg M) j=tLook f m M j)/\cnt (beg M)=cnt M:=by
 cases e:M.el with
 | some E=>
   have:beg M=M:=by unfold beg;rw[e]
   rw[this];exact⟨T,fun _=>rfl,rfl⟩
 | none=>
   by_cases z:want M.nw=M.nw.length
   · have:beg M=M:=by unfold beg;rw[e];exact if_pos z
     rw[this];exact⟨T,fun _=>rfl,rfl⟩
   have eg:beg M=⟨some M.nw,M.mv,List.replicate (want M.nw) []⟩:=by unfold beg;rw[e];exact if_neg z
   rw[eg];have ws:=want_size T.sz;have hz:∀ k,sLook f m (List.replicate (want M.nw) []) k=none:=fun k=>none_of_bare (by rw[List.length_replicate];exact ws.pos) (fun j r _ er=>List.eq_of_mem_replicate (List.mem_of_getElem? er)) k
   refine⟨⟨POk.rep,by show isSize (List.replicate (want M.nw) []).length;rw[List.length_replicate];exact ws,(fun E h=>by
    cases h;exact⟨T.nw,T.sz,by rw[T.no e];exact T.sz.pos,fun i r hi=>absurd hi (by rw[T.no e];exact Nat.not_lt_zero _),fun k _=>hz k⟩),fun h=>by cases h⟩,fun j=>?_,?_⟩
   · unfold tLook onE
     simp only[e];show(match sLook f m M.nw j with | some v=>some v | none=>sLook f m (List.replicate (want M.nw) []) j)=_;rw[hz];cases sLook f m M.nw j <;> rfl
   unfold cnt;simp only[e];rw[tot_rep];omega
noncomputable def tfl(t:Addr)(pc:Int)(el:V)(mv:Int)(n:Addr)(tc:Int):List (Str×V):=[("mixer",.ref t),("pace",.int pc),("elder",el),("moved",.int mv),("newer",.ref n),("touches",.int tc)]
section
variable(t:Addr)(pc:Int)(el:V)(mv:Int)(n:Addr)(tc:Int)
theorem tfl_mixer:(tfl t pc el mv n tc).lookup ("mixer":Str)=some (.ref t):=by kernel_rfl
theorem tfl_pace:(tfl t pc el mv n tc).lookup ("pace":Str)=some (.int pc):=by kernel_rfl
theorem tfl_elder:(tfl t pc el mv n tc).lookup ("elder":Str)=some el:=by kernel_rfl
theorem tfl_moved:(tfl t pc el mv n tc).lookup ("moved":Str)=some (.int mv):=by kernel_rfl
theorem tfl_newer:(tfl t pc el mv n tc).lookup ("newer":Str)=some (.ref n):=by kernel_rfl
theorem tfl_touches:(tfl t pc el mv n tc).lookup ("touches":Str)=some (.int tc):=by kernel_rfl
theorem put_elder(v:V):putF "elder" v (tfl t pc el mv n tc)=tfl t pc v mv n tc:=by kernel_rfl
theorem put_moved(z:Int):putF "moved" (.int z) (tfl t pc el mv n tc)=tfl t pc el z n tc:=by kernel_rfl
theorem put_newer(z:Addr):putF "newer" (.ref z) (tfl t pc el mv n tc)=tfl t pc el mv z tc:=by kernel_rfl
theorem put_touches(z:Int):putF "touches" (.int z) (tfl t pc el mv n tc)=tfl t pc el mv n z:=by kernel_rfl
theorem tfl_mk:putF "touches" (.int tc) (putF "newer" (.ref n) (putF "moved" (.int mv) (putF "elder" el (putF "pace" (.int pc) (putF "mixer" (.ref t) [])))))=tfl t pc el mv n tc:=by kernel_rfl
end
structure NoT(x:Str):Prop where
 no:∀(t:Addr) (pc:Int) (el:V) (mv:Int) (n:Addr) (tc:Int),(tfl t pc el mv n tc).lookup x=none
theorem nt_put:NoT "put":=⟨fun _ _ _ _ _ _=>by kernel_rfl⟩
theorem nt_cut:NoT "cut":=⟨fun _ _ _ _ _ _=>by kernel_rfl⟩
theorem nt_look:NoT "look":=⟨fun _ _ _ _ _ _=>by kernel_rfl⟩
theorem nt_many:NoT "many":=⟨fun _ _ _ _ _ _=>by kernel_rfl⟩
theorem nt_touched:NoT "touched":=⟨fun _ _ _ _ _ _=>by kernel_rfl⟩
theorem nt_sizes:NoT "sizes":=⟨fun _ _ _ _ _ _=>by kernel_rfl⟩
theorem nt_shelves:NoT "shelves":=⟨fun _ _ _ _ _ _=>by kernel_rfl⟩
theorem nt_go_on:NoT "go_on":=⟨fun _ _ _ _ _ _=>by kernel_rfl⟩
theorem nt_due_places:NoT "due_places":=⟨fun _ _ _ _ _ _=>by kernel_rfl⟩
theorem nt_move_place:NoT "move_place":=⟨fun _ _ _ _ _ _=>by kernel_rfl⟩
theorem nt_end_move:NoT "end_move":=⟨fun _ _ _ _ _ _=>by kernel_rfl⟩
theorem nt_stands_on_elder:NoT "stands_on_elder":=⟨fun _ _ _ _ _ _=>by kernel_rfl⟩
theorem nt_shelf_with:NoT "shelf_with":=⟨fun _ _ _ _ _ _=>by kernel_rfl⟩
theorem nt_begin_move:NoT "begin_move":=⟨fun _ _ _ _ _ _=>by kernel_rfl⟩
theorem nt_wanted_size:NoT "wanted_size":=⟨fun _ _ _ _ _ _=>by kernel_rfl⟩
noncomputable def ElAt(CS:Addr)(H:Hp)(f m:Int)(v:V)(o:Option MRows)(FE:Addr->Prop):Prop:=match o with
 | none=>v=.non /\ ∀ b,¬ FE b
 | some E=>∃ e,v=.ref e/\Sh CS H e f m E FE
structure TbX(CS CT:Addr)(H:Hp)(p:Addr)(f m:Int)(pc:Nat)(M:MT)(tc:Int)(t n:Addr)(v:V)(FN FE:Addr->Prop):Prop where
 ob:∃ dx,H p=some (.ins CT dx (tfl t pc v M.mv n tc))
 mx:H t=some (.tup [.int f,.int m])
 bm:0<=f/\f<=65535
 nw:Sh CS H n f m M.nw FN
 el:ElAt CS H f m v M.el FE
 ne:∀ b,FE b -> ¬ FN b
 np:¬ FN p /\ ¬ FE p
noncomputable def Tb(CS CT:Addr)(H:Hp)(p:Addr)(f m:Int)(pc:Nat)(M:MT)(tc:Int)(F:Addr->Prop):Prop:=∃ t n v FN FE,TbX CS CT H p f m pc M tc t n v FN FE /\ ∀ b,F b ↔ (b=p∨FN b∨FE b)
section
variable{CS CT:Addr}{H H':Hp}{p:Addr}{f m:Int}{pc:Nat}{M:MT}{tc:Int}{t n:Addr}{v:V}{FN FE F G:Addr->Prop}
theorem ElAt.keep{o:Option MRows}(S:ElAt CS H f m v o FE)(k:Fr G H H')(d:∀ b,FE b -> ¬ G b)(dt:∀ b xs,H b=some (.tup xs) -> ¬ G b):ElAt CS H' f m v o FE:=by
 cases o with
 | none=>exact S
 | some E=>
   obtain⟨e,he,S⟩:=S;exact⟨e,he,S.keep k d dt⟩
theorem ElAt.live{o:Option MRows}(S:ElAt CS H f m v o FE){b:Addr}(h:FE b):∃ o',H b=some o' /\ ∀ xs,o' ≠ .tup xs:=by
 cases o with
 | none=>exact absurd h (S.2 b)
 | some E=>
   obtain⟨e,he,S⟩:=S;exact S.live h
theorem Tb.live(S:Tb CS CT H p f m pc M tc F){b:Addr}(h:F b):∃ o',H b=some o' /\ ∀ xs,o' ≠ .tup xs:=by
 obtain⟨t,n,v,FN,FE,X,hF⟩:=S;rcases(hF b).mp h with rfl | h | h
 · obtain⟨dx,e⟩:=X.ob
   exact⟨_,e,fun xs z=>by cases z⟩
 · exact X.nw.live h
 exact X.el.live h
theorem Tb.fresh(S:Tb CS CT H p f m pc M tc F){b:Addr}(h:H b=none):¬ F b:=fun z=>by
 obtain⟨o,e,_⟩:=S.live z;rw[h]at e;cases e
theorem Tb.notup(S:Tb CS CT H p f m pc M tc F){b:Addr}{xs:List V}(h:H b=some (.tup xs)):¬ F b:=fun z=>by
 obtain⟨o,e,nn⟩:=S.live z;rw[h]at e;cases e;exact nn _ rfl
theorem Tb.keep(S:Tb CS CT H p f m pc M tc F)(k:Fr G H H')(d:∀ b,F b -> ¬ G b)(dt:∀ b xs,H b=some (.tup xs) -> ¬ G b):Tb CS CT H' p f m pc M tc F:=by
 obtain⟨t,n,v,FN,FE,X,hF⟩:=S;obtain⟨dx,e⟩:=X.ob;exact⟨t,n,v,FN,FE,⟨⟨dx,k _ _ (d p ((hF p).mpr (.inl rfl))) e⟩,k _ _ (dt _ _ X.mx) X.mx,X.bm,X.nw.keep k (fun b hb=>d b ((hF b).mpr (.inr (.inl hb)))) dt,X.el.keep k (fun b hb=>d b ((hF b).mpr (.inr (.inr hb)))) dt,X.ne,X.np⟩,hF⟩
theorem Tb.same(S:Tb CS CT H p f m pc M tc F)(k:Same H H'):Tb CS CT H' p f m pc M tc F:=
 S.keep (G:=fun _=>False) (fun b o _ e=>k b o e) (fun _ _ z=>z) fun _ _ _ z=>z
theorem Tb.self(S:Tb CS CT H p f m pc M tc F):F p:=by
 obtain⟨t,n,v,FN,FE,X,hF⟩:=S;exact(hF p).mpr (.inl rfl)
end
noncomputable abbrev Gr(H:Hp)(F F':Addr->Prop):Prop:=∀ b,F' b->F b∨H b=none
noncomputable def spTDue(CS CT:Addr):Sp:=fun vs H Q _=>∃(p:Addr) (f m:Int) (pc:Nat) (M:MT) (tc:Int) (F:Addr->Prop),vs=[.ref p]/\Tb CS CT H p f m pc M tc F/\TOk f m M/\pc<=1000 /\
 ∀ l H',Same H H'->H l=none->H' l=some (.lst ((seqI M.mv (due pc M)).map V.int))->Q (.ref l) H'
noncomputable def spTMove(CS CT:Addr):Sp:=fun vs H Q _=>∃(p:Addr) (i:Nat) (f m:Int) (pc:Nat) (E N:MRows) (mv:Nat) (tc:Int) (F:Addr->Prop),vs=[.ref p,.int i]/\Tb CS CT H p f m pc ⟨some E,mv,N⟩ tc F/\i < E.length/\Pair f m E N i/\tot E+tot N<=90000 /\
 ∀ l H' F',Tb CS CT H' p f m pc ⟨some (E.set i []),mv,putAll f m N (E.getD i [])⟩ tc F'->Gr H F F'->Fr F H H'->H l=none -> ¬ F' l->H' l=some (.lst (((E.getD i []).map fun q=>((plc f m N.length q.1:Nat):Int)).map V.int))->Q (.ref l) H'
noncomputable def endM(M:MT):MT:=match M.el with
 | none=>M
 | some E=>if M.mv=E.length then⟨none,0,M.nw⟩else M
noncomputable def spTEnd(CS CT:Addr):Sp:=fun vs H Q _=>∃(p:Addr) (f m:Int) (pc:Nat) (M:MT) (tc:Int) (F:Addr->Prop),vs=[.ref p]/\Tb CS CT H p f m pc M tc F /\
 ∀ H' F',Tb CS CT H' p f m pc (endM M) tc F'->Gr H F F'->Fr F H H'->Q .non H'
noncomputable def standsE(f m:Int)(M:MT)(k:Int):Bool:=match M.el with
 | none=>false
 | some E=>decide (M.mv<=plc f m E.length k)
noncomputable def spTStands(CS CT:Addr):Sp:=fun vs H Q _=>∃(p:Addr) (k f m:Int) (pc:Nat) (M:MT) (tc:Int) (F:Addr->Prop),vs=[.ref p,.int k]/\Tb CS CT H p f m pc M tc F/\Q (.bl (standsE f m M k)) H
noncomputable def spTGo(CS CT:Addr):Sp:=fun vs H Q _=>∃(p:Addr) (k f m:Int) (pc:Nat) (M:MT) (tc:Int) (F:Addr->Prop),vs=[.ref p,.int k]/\Tb CS CT H p f m pc M tc F/\TOk f m M/\pc<=1000/\(cnt M<=4000∨M.el=none) /\
 ∀ H' F',Tb CS CT H' p f m pc (goOn f m pc M) (tch f m pc M k) F'->Gr H F F'->Fr F H H'->Q .non H'
noncomputable def spTWith(CS CT:Addr):Sp:=fun vs H Q _=>∃(p:Addr) (k f m:Int) (pc:Nat) (M:MT) (tc:Int) (t n:Addr) (v:V) (FN FE:Addr->Prop),vs=[.ref p,.int k]/\TbX CS CT H p f m pc M tc t n v FN FE /\
 (∀ E,M.el=some E->sLook f m E k≠none->Q v H)/\(onE f m M k=none->Q (.ref n) H)
noncomputable def spTWant(CS CT:Addr):Sp:=fun vs H Q _=>∃(p:Addr) (f m:Int) (pc:Nat) (M:MT) (tc:Int) (F:Addr->Prop),vs=[.ref p]/\Tb CS CT H p f m pc M tc F/\Q (.int (want M.nw:Nat)) H
noncomputable def spTBegin(CS CT:Addr):Sp:=fun vs H Q _=>∃(p:Addr) (f m:Int) (pc:Nat) (M:MT) (tc:Int) (F:Addr->Prop),vs=[.ref p]/\Tb CS CT H p f m pc M tc F/\isSize M.nw.length /\
 ∀ H' F',Tb CS CT H' p f m pc (beg M) tc F'->Gr H F F'->Fr F H H'->Q .non H'
noncomputable def mPut(f m:Int)(pc:Nat)(M:MT)(k v:Int):MT:=beg (putAt f m (goOn f m pc M) k v)
noncomputable def mCut(f m:Int)(pc:Nat)(M:MT)(k:Int):MT:=beg (cutAt f m (goOn f m pc M) k)
noncomputable def mLook(f m:Int)(pc:Nat)(M:MT):MT:=beg (goOn f m pc M)
noncomputable def spTPut(CS CT:Addr):Sp:=fun vs H Q _=>∃(p:Addr) (k y f m:Int) (pc:Nat) (M:MT) (tc:Int) (F:Addr->Prop),vs=[.ref p,.int k,.int y]/\Tb CS CT H p f m pc M tc F/\TOk f m M/\pc<=1000/\cnt M<=4900/\(cnt M<=4000∨M.el=none) /\
 ∀ H' F',Tb CS CT H' p f m pc (mPut f m pc M k y) (tch f m pc M k) F'->Gr H F F'->Fr F H H'->Q (oV (tLook f m M k)) H'
noncomputable def spTCut(CS CT:Addr):Sp:=fun vs H Q _=>∃(p:Addr) (k f m:Int) (pc:Nat) (M:MT) (tc:Int) (F:Addr->Prop),vs=[.ref p,.int k]/\Tb CS CT H p f m pc M tc F/\TOk f m M/\pc<=1000/\cnt M<=4000 /\
 ∀ H' F',Tb CS CT H' p f m pc (mCut f m pc M k) (tch f m pc M k) F'->Gr H F F'->Fr F H H'->Q (oV (tLook f m M k)) H'
noncomputable def spTLook(CS CT:Addr):Sp:=fun vs H Q _=>∃(p:Addr) (k f m:Int) (pc:Nat) (M:MT) (tc:Int) (F:Addr->Prop),vs=[.ref p,.int k]/\Tb CS CT H p f m pc M tc F/\TOk f m M/\pc<=1000/\cnt M<=4000 /\
 ∀ H' F',Tb CS CT H' p f m pc (mLook f m pc M) (tch f m pc M k) F'->Gr H F F'->Fr F H H'->Q (oV (tLook f m M k)) H'
noncomputable def spTShelves(CS CT:Addr):Sp:=fun vs H Q _=>∃(p:Addr) (f m:Int) (pc:Nat) (M:MT) (tc:Int) (t n:Addr) (v:V) (FN FE:Addr->Prop),vs=[.ref p]/\TbX CS CT H p f m pc M tc t n v FN FE /\
 ∀ l,H l=none->Q (.ref l) (upd H l (.lst (match M.el with | none=>[.ref n] | some _=>[v,.ref n])))
noncomputable def spTMany(CS CT:Addr):Sp:=fun vs H Q _=>∃(p:Addr) (f m:Int) (pc:Nat) (M:MT) (tc:Int) (F:Addr->Prop),vs=[.ref p]/\Tb CS CT H p f m pc M tc F /\ ∀ H',Same H H'->Q (.int (cnt M:Nat)) H'
noncomputable def PrT(K:W.Frag)(H:Hp)(v:V)(p:Int×Int):Prop:=∃ a,v=.ref a/\SqT K H a [.int p.1,.int p.2]
noncomputable def RowT(K:W.Frag)(H:Hp)(v:V)(r:MRow):Prop:=∃ b ys,v=.ref b/\SqT K H b ys/\Paired (PrT K H) ys r
noncomputable def RowsT(K:W.Frag)(H:Hp)(a:Addr)(R:MRows):Prop:=∃ xs,SqT K H a xs/\Paired (RowT K H) xs R
noncomputable def laid(f m:Int)(R:MRows):MRows:=R.foldl (fun N r=>putAll f m N r) (List.replicate R.length [])
noncomputable def spShelfOf(K:W.Frag)(CS:Addr):Sp:=fun vs H Q _=>∃(a t:Addr) (f m:Int) (R:MRows),vs=[.ref a,.ref t]/\RowsT K H a R/\isSize R.length/\tot R<=5000/\H t=some (.tup [.int f,.int m])/\(0<=f/\f<=65535) /\
 ∀ p H' F,Sh CS H' p f m (laid f m R) F->(∀ b,F b->H b=none)->Same H H'->Q (.ref p) H'
noncomputable def M0:MT:=⟨none,0,List.replicate 4 []⟩
section
variable{CS CT:Addr}{H:Hp}{Q:VK}{E:XK}{p:Addr}{k y f m:Int}{pc:Nat}{M:MT}{tc:Int}{F:Addr->Prop}
theorem wT{x:Str}{P:Prop}(S:Tb CS CT H p f m pc M tc F)(hn:NoT x)(h:P):∃ a dx fs,V.ref p=.ref a/\H a=some (.ins CT dx fs)/\fs.lookup x=none/\P:=by
 obtain⟨t,n,v,FN,FE,X,hF⟩:=S;obtain⟨dx,e⟩:=X.ob;exact⟨p,dx,_,rfl,e,hn.no _ _ _ _ _ _,h⟩
theorem wTPut(S:Tb CS CT H p f m pc M tc F)(T:TOk f m M)(hp:pc<=1000)(hc:cnt M<=4000)(q:∀ H' F',Tb CS CT H' p f m pc (mPut f m pc M k y) (tch f m pc M k) F'->Gr H F F'->Fr F H H'->Q (oV (tLook f m M k)) H'):spTPut CS CT (V.ref p::([V.int k,V.int y]++[])) H Q E:=⟨p,k,y,f,m,pc,M,tc,F,rfl,S,T,hp,Nat.le_trans hc (by decide),.inl hc,q⟩
theorem wTCut(S:Tb CS CT H p f m pc M tc F)(T:TOk f m M)(hp:pc<=1000)(hc:cnt M<=4000)(q:∀ H' F',Tb CS CT H' p f m pc (mCut f m pc M k) (tch f m pc M k) F'->Gr H F F'->Fr F H H'->Q (oV (tLook f m M k)) H'):spTCut CS CT (V.ref p::([V.int k]++[])) H Q E:=⟨p,k,f,m,pc,M,tc,F,rfl,S,T,hp,hc,q⟩
theorem wTLook(S:Tb CS CT H p f m pc M tc F)(T:TOk f m M)(hp:pc<=1000)(hc:cnt M<=4000)(q:∀ H' F',Tb CS CT H' p f m pc (mLook f m pc M) (tch f m pc M k) F'->Gr H F F'->Fr F H H'->Q (oV (tLook f m M k)) H'):spTLook CS CT (V.ref p::([V.int k]++[])) H Q E:=⟨p,k,f,m,pc,M,tc,F,rfl,S,T,hp,hc,q⟩
theorem wTMany(S:Tb CS CT H p f m pc M tc F)(q:∀ H',Same H H'->Q (.int (cnt M:Nat)) H'):spTMany CS CT (V.ref p::([]++[])) H Q E:=⟨p,f,m,pc,M,tc,F,rfl,S,q⟩
end
theorem M0_ok{f m:Int}:TOk f m M0:=⟨POk.rep,by show isSize 4;unfold isSize;decide,(fun E h=>by cases h),fun _=>rfl⟩
theorem moves_snoc{f m:Int}:∀(j:Nat) (E N:MRows) (i:Nat),moves f m E N i (j+1)=((moves f m E N i j).1.set (i+j) [],putAll f m (moves f m E N i j).2 ((moves f m E N i j).1.getD (i+j) []))
 | 0,E,N,i=>rfl
 | j+1,E,N,i=>by
   show moves f m (E.set i []) (putAll f m N (E.getD i [])) (i+1) (j+1)=_;rw[moves_snoc j];have e:i+1+j=i+(j+1):=by omega
   rw[e]
   rfl
theorem moves_getD{f m:Int}:∀(j:Nat) (E N:MRows) (i k:Nat),i+j<=k->i+j<=E.length->(moves f m E N i j).1.getD k []=E.getD k []
 | 0,_,_,_,_,_,_=>rfl
 | j+1,E,N,i,k,h,hl=>by
   show(moves f m (E.set i []) (putAll f m N (E.getD i [])) (i+1) j).1.getD k []=_;rw[moves_getD j _ _ _ _ (by omega) (by rw[List.length_set];omega),set_getD (by omega),if_neg (by omega)]
theorem reach_snoc{f m:Int}{n:Nat}:∀(j:Nat) (E:MRows) (i:Nat),reach f m n E i (j+1)=reach f m n E i j++(E.getD (i+j) []).map fun p=>((plc f m n p.1:Nat):Int)
 | 0,E,i=>by
   show((E.getD i []).map fun p=>((plc f m n p.1:Nat):Int))++[]=[]++_;rw[List.append_nil,List.nil_append]
   rfl
 | j+1,E,i=>by
   show((E.getD i []).map fun p=>((plc f m n p.1:Nat):Int))++reach f m n E (i+1) (j+1)=(((E.getD i []).map fun p=>((plc f m n p.1:Nat):Int))++reach f m n E (i+1) j)++_;rw[reach_snoc j,List.append_assoc,show i+1+j=i+(j+1) by omega]
theorem moves_len1{f m:Int}:∀(j:Nat) (E N:MRows) (i:Nat),(moves f m E N i j).1.length=E.length
 | 0,_,_,_=>rfl
 | j+1,E,N,i=>by
   rw[moves_snoc];show((moves f m E N i j).1.set (i+j) []).length=_;rw[List.length_set,moves_len1 j]
theorem moves_len2{f m:Int}:∀(j:Nat) (E N:MRows) (i:Nat),(moves f m E N i j).2.length=N.length
 | 0,_,_,_=>rfl
 | j+1,E,N,i=>by
   rw[moves_snoc];show(putAll f m (moves f m E N i j).2 _).length=_;rw[putAll_len,moves_len2 j]
theorem reach_tot{f m:Int}{n:Nat}:∀(j:Nat) (E N:MRows) (i:Nat),i+j<=E.length->tot (moves f m E N i j).1+(reach f m n E i j).length=tot E
 | 0,_,_,_,_=>rfl
 | j+1,E,N,i,h=>by
   have ih:=reach_tot (f:=f) (m:=m) (n:=n) j E N i (by omega)
   have t:=tot_set (moves f m E N i j).1 (i+j) [] (by rw[moves_len1];omega)
   rw[moves_getD j E N i (i+j) (Nat.le_refl _) (by omega)]at t
   rw[moves_snoc,reach_snoc,List.length_append,List.length_map];show tot ((moves f m E N i j).1.set (i+j) [])+_=_;have e0:([]:MRow).length=0:=rfl;omega
theorem tot_putAll_le{f m:Int}:∀{r:MRow}{N:MRows},0 < N.length->tot (putAll f m N r)<=tot N+r.length
 | [],_,_=>Nat.le_refl _
 | p::r,N,h=>by
   show tot (putAll f m (sPut f m N p.1 p.2) r)<=_;have:=tot_putAll_le (f:=f) (m:=m) (r:=r) (N:=sPut f m N p.1 p.2) (by rw[sPut_len];exact h)
   rw[sPut_tot h]at this;rw[List.length_cons];split at this <;> omega
theorem putAll_take{f m:Int}{N:MRows}{r:MRow}{j:Nat}{p:Int×Int}(h:r[j]?=some p):putAll f m N (r.take (j+1))=sPut f m (putAll f m N (r.take j)) p.1 p.2:=by
 rw[List.take_add_one,h];unfold putAll;rw[List.foldl_append]
 rfl
noncomputable def mid(f m:Int)(M:MT)(j:Nat):MT:=match M.el with
 | none=>M
 | some E=>⟨some (moves f m E M.nw M.mv j).1,M.mv,(moves f m E M.nw M.mv j).2⟩
noncomputable def rch(f m:Int)(M:MT)(j:Nat):List Int:=match M.el with
 | none=>[]
 | some E=>reach f m M.nw.length E M.mv j
theorem Gr.trans{H H1:Hp}{F F1 F2:Addr->Prop}(a:Gr H F F1)(k:Fr F H H1)(b:Gr H1 F1 F2):Gr H F F2:=fun c hc=>by
 rcases b c hc with z | z
 · exact a c z
 by_cases hF:F c
 · exact .inl hF
 cases e:H c with
 | none=>exact .inr rfl
 | some o=>rw[k c o hF e]at z;cases z
section
variable{CS CT:Addr}{H H':Hp}{p:Addr}{f m:Int}{pc:Nat}{M:MT}{tc:Int}{t n:Addr}{v:V}{FN FE F G:Addr->Prop}
theorem TbX.tb(X:TbX CS CT H p f m pc M tc t n v FN FE):Tb CS CT H p f m pc M tc (fun b=>b=p∨FN b∨FE b):=⟨t,n,v,FN,FE,X,fun _=>Iff.rfl⟩
theorem TbX.setN{N':MRows}(X:TbX CS CT H p f m pc M tc t n v FN FE)(S:Sh CS H' n f m N' FN)(k:Fr FN H H'):TbX CS CT H' p f m pc { M with nw:=N' } tc t n v FN FE:=by
 obtain⟨dx,e⟩:=X.ob;exact⟨⟨dx,k _ _ X.np.1 e⟩,k _ _ (X.nw.notup X.mx) X.mx,X.bm,S,X.el.keep k X.ne fun b xs e=>X.nw.notup e,X.ne,X.np⟩
theorem TbX.setE{E E':MRows}{e:Addr}(X:TbX CS CT H p f m pc M tc t n (.ref e) FN FE)(he:M.el=some E)(S:Sh CS H' e f m E' FE)(k:Fr FE H H'):TbX CS CT H' p f m pc { M with el:=some E' } tc t n (.ref e) FN FE:=by
 obtain⟨dx,eo⟩:=X.ob;have hel:=X.el;rw[he]at hel;obtain⟨e',_,SE⟩:=hel;exact⟨⟨dx,k _ _ X.np.2 eo⟩,k _ _ (SE.notup X.mx) X.mx,X.bm,X.nw.keep k (fun b hb z=>X.ne b z hb) fun b xs e=>SE.notup e,⟨e,rfl,S⟩,X.ne,X.np⟩
end
theorem endM_go{f m:Int}{pc:Nat}{M:MT}:endM { mid f m M (due pc M)with mv:=M.mv+due pc M }=goOn f m pc M:=by
 unfold endM mid goOn;cases e:M.el with
 | none=>
   have:due pc M=0:=by unfold due;rw[e]
   simp only[e,this];cases M;simp at e;subst e
   rfl
 | some E=>
   simp only[moves_len1]
theorem tch_eq{f m:Int}{pc:Nat}{M:MT}{k:Int}:tch f m pc M k=due pc M+nDist (((plc f m M.nw.length k:Nat):Int)::rch f m M (due pc M))+(if standsE f m (goOn f m pc M) k=true then 1 else 0):=by
 unfold tch rch standsE
 congr 1
 cases (goOn f m pc M).el with
 | none=>rfl
 | some E=>
   simp only[];by_cases z:(goOn f m pc M).mv<=plc f m E.length k
   · rw[if_pos z,if_pos (decide_eq_true z)]
   rw[if_neg z,if_neg (by rw[decide_eq_false z];exact Bool.false_ne_true)]
theorem putAt_nw{f m:Int}{M:MT}{k v:Int}(h:onE f m M k=none):SW.putAt f m M k v={ M with nw:=sPut f m M.nw k v }:=by
 unfold SW.putAt;unfold onE at h;cases e:M.el with
 | none=>rfl
 | some E=>
   rw[e]at h;exact if_pos h
theorem putAt_el{f m:Int}{M:MT}{k v:Int}{E:MRows}(e:M.el=some E)(h:sLook f m E k≠none):SW.putAt f m M k v={ M with el:=some (sPut f m E k v) }:=by
 unfold SW.putAt;rw[e];exact if_neg h
theorem cutAt_nw{f m:Int}{M:MT}{k:Int}(h:onE f m M k=none):SW.cutAt f m M k={ M with nw:=sCut f m M.nw k }:=by
 unfold SW.cutAt;unfold onE at h;cases e:M.el with
 | none=>rfl
 | some E=>
   rw[e]at h;exact if_pos h
theorem cutAt_el{f m:Int}{M:MT}{k:Int}{E:MRows}(e:M.el=some E)(h:sLook f m E k≠none):SW.cutAt f m M k={ M with el:=some (sCut f m E k) }:=by
 unfold SW.cutAt;rw[e];exact if_neg h
theorem tLook_el{f m:Int}{M:MT}{k:Int}{E:MRows}(e:M.el=some E)(h:sLook f m E k≠none):sLook f m E k=tLook f m M k:=by
 unfold tLook onE;rw[e];cases z:sLook f m E k with
 | none=>exact absurd z h
 | some x=>simp[z]
theorem tLook_nw{f m:Int}{M:MT}{k:Int}(h:onE f m M k=none):sLook f m M.nw k=tLook f m M k:=by
 unfold tLook;rw[h]
theorem wITup{K:W.Frag}{σ:L2.St}{H:Hp}{tl:TE}{R:It->Hp->Prop}(h:tl σ H fun x H1=>∃ a,x=.ref a/\(∃ xs,SqT K H1 a xs)/\R (Itt K a) H1):iTup K tl σ H R:=h
namespace B
end B
noncomputable def Well(H:Hp)(p:Addr):Prop:=∃ a b:Int,H p=some (.lst [.int a,.int b])/\0<=b/\b < 2147483648
theorem Well.same{H H':Hp}{p:Addr}(r:Well H p)(s:Same H H'):Well H' p:=by
 obtain⟨a,b,h,z⟩:=r;exact⟨a,b,s _ _ h,z⟩
noncomputable def spWell:Sp:=fun vs H Q _=>∃ c:Int,vs=[.int c] /\ ∀ p o,H p=none->Well (upd H p o) p->Q (.ref p) (upd H p o)
theorem wWell{c:Int}{H:Hp}{Q:VK}{E:XK}(k:∀ p o,H p=none->Well (upd H p o) p->Q (.ref p) (upd H p o)):spWell ([.int c]++[]) H Q E:=⟨c,rfl,k⟩
noncomputable def spDraw:Sp:=fun vs H Q _=>∃(p:Addr) (m:Int),vs=[.ref p,.int m]/\0 < m/\m < 18446744073709551616/\Well H p /\ ∀ r H',0<=r->r < m->Well H' p->KeepBut p H H'->Q (.int r) H'
theorem wDraw{p:Addr}{m:Int}{H:Hp}{Q:VK}{E:XK}(hp:Well H p)(h0:0 < m)(h1:m < 18446744073709551616)(k:∀ r H',0<=r->r < m->Well H' p->KeepBut p H H'->Q (.int r) H'):spDraw ([.ref p,.int m]++[]) H Q E:=⟨p,m,rfl,h0,h1,hp,k⟩
theorem KeepBut.fr'{p:Addr}{H H':Hp}(k:KeepBut p H H'):Fr (fun b=>b=p) H H':=fun b o n e=>k b o n e
inductive Deed where
 | put (k v:Int)
 | look (k:Int)
 | cut (k:Int)
noncomputable def deedT:Deed->List V
 | .put k v=>[.str "put",.int k,.int v]
 | .look k=>[.str "look",.int k]
 | .cut k=>[.str "cut",.int k]
noncomputable def DeedV(H:Hp)(v:V)(d:Deed):Prop:=∃ a,v=.ref a/\H a=some (.tup (deedT d))
noncomputable def deedR(r:MRow):Deed->MRow
 | .put k v=>rPut r k v
 | .look _=>r
 | .cut k=>rCut r k
noncomputable def deedK:Deed->Int
 | .put k _=>k
 | .look k=>k
 | .cut k=>k
noncomputable def deedM(f m:Int)(pc:Nat)(M:MT):Deed->MT
 | .put k v=>mPut f m pc M k v
 | .look _=>mLook f m pc M
 | .cut k=>mCut f m pc M k
noncomputable def spAsked(CS CT:Addr):Sp:=fun vs H Q _=>∃(p:Addr) (v:V) (d:Deed) (f m:Int) (pc:Nat) (M:MT) (tc:Int) (F:Addr->Prop),vs=[.ref p,v]/\Tb CS CT H p f m pc M tc F/\TOk f m M/\pc<=1000/\cnt M<=4000/\DeedV H v d /\
 ∀ H' F',Tb CS CT H' p f m pc (deedM f m pc M d) (tch f m pc M (deedK d)) F'->Gr H F F'->Fr F H H'->Q (oV (tLook f m M (deedK d))) H'
theorem wAsked{CS CT p:Addr}{v:V}{d:Deed}{f m:Int}{pc:Nat}{M:MT}{tc:Int}{F:Addr->Prop}{H:Hp}{Q:VK}{E:XK}(S:Tb CS CT H p f m pc M tc F)(T:TOk f m M)(hp:pc<=1000)(hc:cnt M<=4000)(hd:DeedV H v d)
 (k:∀ H' F',Tb CS CT H' p f m pc (deedM f m pc M d) (tch f m pc M (deedK d)) F'->Gr H F F'->Fr F H H'->Q (oV (tLook f m M (deedK d))) H'):spAsked CS CT ([.ref p,v]++[]) H Q E:=⟨p,v,d,f,m,pc,M,tc,F,rfl,S,T,hp,hc,hd,k⟩
theorem deed_ok{f m:Int}{pc:Nat}{M:MT}(T:TOk f m M)(d:Deed):TOk f m (deedM f m pc M d) /\ ∀ r:MRow,ROk r->(∀ k,rLook r k=tLook f m M k)->r.length=cnt M->ROk (deedR r d)/\(∀ k,rLook (deedR r d) k=tLook f m (deedM f m pc M d) k)/\(deedR r d).length=cnt (deedM f m pc M d):=by
 obtain⟨T1,l1,c1⟩:=goOn_ok (pc:=pc) T;cases d with
 | put k v=>
   obtain⟨T2,l2,c2⟩:=putAt_ok (k:=k) (v:=v) T1;obtain⟨T3,l3,c3⟩:=beg_ok T2;refine⟨T3,fun r ok hl hc=>⟨rPut_ok ok,fun j=>?_,?_⟩⟩
   · show rLook (rPut r k v) j=tLook f m (beg (SW.putAt f m (goOn f m pc M) k v)) j
     rw[l3,l2,l1,rLook_put,hl]
   show(rPut r k v).length=cnt (beg (SW.putAt f m (goOn f m pc M) k v));rw[c3,c2,c1,l1,rPut_len,hl,hc]
 | look k=>
   obtain⟨T3,l3,c3⟩:=beg_ok T1;refine⟨T3,fun r ok hl hc=>⟨ok,fun j=>?_,?_⟩⟩
   · show rLook r j=tLook f m (beg (goOn f m pc M)) j
     rw[l3,l1,hl]
   show r.length=cnt (beg (goOn f m pc M));rw[c3,c1,hc]
 | cut k=>
   obtain⟨T2,l2,c2⟩:=cutAt_ok (k:=k) T1;obtain⟨T3,l3,c3⟩:=beg_ok T2;refine⟨T3,fun r ok hl hc=>⟨rCut_ok ok,fun j=>?_,?_⟩⟩
   · show rLook (rCut r k) j=tLook f m (beg (SW.cutAt f m (goOn f m pc M) k)) j
     rw[l3,l2,l1,rLook_cut,hl]
   show(rCut r k).length=cnt (beg (SW.cutAt f m (goOn f m pc M) k));have h1:=rCut_len (k:=k) ok;rw[hl]at h1;rw[l1]at c2;rw[c3];omega
structure CompScopeN(X:Cx)(scope:Scope)(cl:List (Str×Addr))(os:List Str)(js:List Nat)(N':List Str):Prop where
 clos:closureFor scope X.env=pure cl
 kind:scope.kind=.function
 nocell:∀ y∈scope.names,y.2 ≠ .cell
 names:∀ y∈scope.names,y.2=.local->scope.names.lookup y.1=some .local
 sub:∀ p∈cl,X.env.cells.lookup p.1=some p.2
 has:∀ y,((relabel scope X.env).names.lookup y=some .cell∨(relabel scope X.env).names.lookup y=some .free) -> ∃ c,cl.lookup y=some c
 nm:N'=os++js.map fun j=>X.N.getD j Str.empty
 see:∀(i j:Nat),js[i]?=some j -> ∃ y,X.N[j]?=some y/\(X.env.kindOf y=some .cell∨X.env.kindOf y=some .free)/\((relabel scope X.env).names.lookup y=some .cell∨(relabel scope X.env).names.lookup y=some .free)
noncomputable def seenN(n:Nat)(σ:L2.St)(js:List Nat):L2.St:=List.replicate n none++js.map fun j=>σ.getD j none
section
variable{X:Cx}{scope:Scope}{cl:List (Str×Addr)}{os:List Str}{js:List Nat}{N':List Str}{pins:List (Addr×Obj)}{σ:L2.St}{H:Hp}{s:Shared}{fp:List Addr}
theorem CompScopeN.sub'(S:CompScopeN X scope cl os js N'){y:Str}{c:Addr}(h:cl.lookup y=some c):X.env.cells.lookup y=some c:=S.sub (y,c) (PySem.mem_of_lookup h)
theorem compN_ok(S:CompScopeN X scope cl os js N')(I:Inv X pins σ H s)(hf:∀ b∈fp,FpOk X pins H b)(ho:∀ b∈fp,b < s.heap.objs.size):(compCx X scope cl N' s H fp pins).Ok where
 mod:=I.ok.mod
 kind:=S.kind
 glob:=I.ok.glob
 blt:=I.ok.blt
 above:=Nat.le_refl _
 inj:=fun y z c h1 h2=>I.ok.inj y z c (S.sub' h1) (S.sub' h2)
 has:=fun y h=>S.has y h
 cab:=fun y c h=>absurd h Bool.false_ne_true
 hd:=I.ok.hd
 frames:=I.ok.frames
 stk:=.inl rfl
 exf:=fun b hb=>⟨Nat.ne_of_lt (ho b hb),fun y c h=>(hf b hb).2.2.2.2.1 y c (S.sub' h)⟩
 bs:=I.bs
 bsz:=Nat.le_trans I.ok.bsz I.sz
 noex:=fun b o e hb=>by
  rcases(hf b hb).2.2.2.1 with z | z
  · exact I.ok.noex b o e z
  exact absurd (Nat.lt_of_lt_of_le (Heap.lt_size (I.ok.bs b o e).1) z) (Nat.lt_irrefl _)
 exfs:=fun b hb z=>by
  rcases List.mem_cons.mp (I.stkSub b z)with e | e
  · exact(hf b hb).2.1 e
  exact(hf b hb).2.2.1 e
 funs:=I.stack
 frf:=I.stkFree
theorem compN_inv(S:CompScopeN X scope cl os js N')(I:Inv X pins σ H s)(hf:∀ b∈fp,FpOk X pins H b)(ho:∀ b∈fp,b < s.heap.objs.size){s4:Shared}{m:Str->Option Value}(hos:s4.os=s.os)(hg:s4.gens=s.gens)
 (hn:s4.heap.Ns s.heap.objs.size m) (hk:∀ b o,s.heap.get? b=some o->s4.heap.get? b=some o):Inv (compCx X scope cl N' s H fp pins) [] (seenN os.length σ js) H s4 where
 ok:=compN_ok S I hf ho
 os:=hos
 bare:=by rw[hg];exact I.bare
 base:=Un.kept hk
 loc:=by
  obtain⟨mX,_,hl⟩:=I.loc;refine⟨m,hn,fun i y v h1 h2 h3=>?_⟩;by_cases hio:i < os.length
  · unfold seenN at h2
    rw[List.getElem?_append_left (by rw[List.length_replicate];exact hio),List.getElem?_replicate_of_lt hio]at h2
    cases h2
  obtain⟨i',rfl⟩:∃ i',i=os.length+i':=⟨i - os.length,by omega⟩
  have h1':N'[os.length+i']?=some y:=h1;rw[S.nm,List.getElem?_append_right (by omega),Nat.add_sub_cancel_left,List.getElem?_map]at h1'
  unfold seenN at h2;rw[List.getElem?_append_right (by rw[List.length_replicate];omega),List.length_replicate,Nat.add_sub_cancel_left,List.getElem?_map]at h2
  revert h1' h2
  generalize i'=i;intro h2 h1';cases ej:js[i]? with
  | none=>rw[ej]at h2;cases h2
  | some j=>
    rw[ej]at h1' h2;obtain⟨z,hz,k1,k2⟩:=S.see i j ej;have ey:z=y:=by
     have:X.N.getD j Str.empty=y:=Option.some.inj h1';rw[List.getD_eq_getElem?_getD,hz]at this;exact this
    subst ey;have ev:σ[j]?=some (some v):=by
     have q:σ.getD j none=some v:=Option.some.inj h2;rw[List.getD_eq_getElem?_getD]at q;cases e:σ[j]? with
     | none=>rw[e]at q;cases q
     | some w'=>rw[e]at q;exact congrArg some q
    have kx:X.env.scope.names.lookup z=some .cell∨X.env.scope.names.lookup z=some .free:=k1;obtain⟨u,r,l⟩:=hl j z v hz ev (.inr kx);refine⟨u,r,.inr ⟨k2,?_⟩⟩;obtain⟨c,hc⟩:=S.has z k2;rcases l with ⟨kl,_⟩ | ⟨_,c',e',cell⟩
    · rcases k1 with k1 | k1 <;> rw[k1]at kl <;> cases kl
    have:c'=c:=Option.some.inj (e'.symm.trans (S.sub' hc));subst this;obtain⟨o,q1,q2⟩:=cell;exact⟨c',hc,o,hk _ _ q1,q2⟩
 cell:=fun y c h=>by
  obtain⟨v,o,q1,q2⟩:=I.cell y c (S.sub' h);exact⟨v,o,hk _ _ q1,q2⟩
 free:=I.hok.fresh (Nat.le_refl _)
 freeC:=fun y c h=>I.freeC y c (S.sub' h)
 pin:=fun p hp=>by
  have hp':p∈X.pn++pins:=by
   have q:p∈(X.pn++pins)++[]:=hp;rw[List.append_nil]at q;exact q
  obtain⟨e,n,ne,nf,d⟩:=I.pin p hp';refine⟨hk _ _ e,n,Nat.ne_of_lt (Heap.lt_size e),fun z=>?_,d⟩;rcases List.mem_cons.mp (I.stkSub p.1 z)with q | q
  · exact ne q
  exact nf q
 hok:=I.hok.kept hk
 len:=by
  show(seenN os.length σ js).length=N'.length;rw[S.nm];unfold seenN;simp
end
noncomputable def tCompN(n:Nat)(js:List Nat)(wi:TI)(gt:TG)(tt:TT)(te:TE):TE:=fun σ H Q=>wi σ H fun J H1=>∀ D,H1 D=none -> ∃ W:Nat->Nat->L2.St->Hp->Prop,(∃ m,W 0 m (seenN n σ js) (upd H1 D (.lst []))) /\
 ∀ i m σ' H',W i m σ' H'->(J.stop i H'/\Q (.ref D) H')∨(J.go i H' /\ ∀ x H2,J.yld i H' x H2->gt x σ' H2 fun σ2 H2'=>tt σ2 H2' fun ok H3=>
   if ok=true then te σ2 H3 fun y H4=>∃ ys,H4 D=some (.lst ys)/\ys.length < sizeLine /\ ∃ m',m' < m/\W (i+1) m' σ2 (upd H4 D (.lst (ys++[y])))
   else ∃ m',m' < m/\W (i+1) m' σ2 H3)
section
variable{X:Cx}{scope:Scope}{cl:List (Str×Addr)}{os:List Str}{js:List Nat}{N':List Str}{elt iter:Expr}{ifs:List Expr}{tgt:Expr}{pos:Pos}{wi:TI}{gt:TG}{tt:TT}{te:TE}
theorem compN_core{RR:Value->Addr->Result->Shared->Prop}{pins:List (Addr×Obj)}{σ:L2.St}{H2:Hp}{s2:Shared}{Q:VK}{it:Addr}{fp:List Addr}{tn:Nat->Heap->Prop}{J:It}(S:CompScopeN X scope cl os js N')(hc:X.calm=true)(hg:∀ s H fp pins,PG (compCx X scope cl N' s H fp pins) tgt gt)
 (ht:∀ s H fp pins,PTs (compCx X scope cl N' s H fp pins) ifs tt) (he:∀ s H fp pins,PE (compCx X scope cl N' s H fp pins) elt te)
 (I2:Inv X pins σ H2 s2) (T:Turn X.prog X.w X.K tgt J fp it tn) (st2:tn 0 s2.heap) (f2:∀ b∈fp,FpOk X pins H2 b)
 (k:∀ D,H2 D=none -> ∃ W:Nat->Nat->L2.St->Hp->Prop,(∃ m,W 0 m (seenN os.length σ js) (upd H2 D (.lst []))) /\
  ∀ i m σ' H',W i m σ' H'->(J.stop i H'/\Q (.ref D) H')∨(J.go i H' /\ ∀ x H2,J.yld i H' x H2->gt x σ' H2 fun σ2 H2'=>tt σ2 H2' fun ok H3=>
    if ok=true then te σ2 H3 fun y H4=>∃ ys,H4 D=some (.lst ys)/\ys.length < sizeLine /\ ∃ m',m' < m/\W (i+1) m' σ2 (upd H4 D (.lst (ys++[y])))
    else ∃ m',m' < m/\W (i+1) m' σ2 H3))
 (fin:∀(D C:Addr) (s6:Shared) (H6:Hp) (m:Str->Option Value),s6.heap.Ns C m->(∀ h',Heap.SameBut C s6.heap h'->Inv X pins σ H6 { s6 with heap:=h' })->H6 C=none->FpOk X pins H6 C->Q (.ref D) H6->RR (.ref D) C (.ok .next) s6) :
 wpAny (model X.prog X.w) X.A (newList []) (fun acc s₃=>wpAny (model X.prog X.w) X.A (newFunctionEnv scope X.env.globals cl [] X.env.qual none .none (some X.env)) (fun cenv s₄=>
  codeAny (model X.prog X.w) X.A (.compStart (.ListComp elt [⟨tgt,iter,ifs,0⟩] scope pos) 0 (.ref it) acc { cenv with scope:=relabel scope X.env }) (RR acc cenv.locals) s₄) X.xe s₃) X.xe s2:=by
 have hDn:H2 s2.heap.objs.size=none:=I2.hok.fresh (Nat.le_refl _);obtain⟨W,⟨m0,w0⟩,turn⟩:=k s2.heap.objs.size hDn;refine wpAny_newObj_type (wpAny_newFunctionEnv S.nocell (by intro y hy;simp at hy) (fun h4 hns4 hsb4=>?_) S.kind) (by show 0<=sizeLine;exact Nat.zero_le _)
 have I3:Inv X pins σ (upd H2 s2.heap.objs.size (.lst [])) { s2 with heap:=s2.heap.push { cls:=.type "list",dict:=none,data:=.seq ([]:List Value).toArray } }:=
  I2.laid (t':=s2.toks) (fun b u e=>Heap.get?_push_of_some _ e) (Nat.le_refl _) ⟨Nat.zero_le _,[],0,.nil,Heap.get?_push_size _ rfl⟩
 have ltf:∀ b∈fp,b < s2.heap.objs.size:=fun b hb=>let⟨o,e,_⟩:=T.obj 0 _ st2 b hb;Heap.lt_size e;have f3:∀ b∈fp,FpOk X pins (upd H2 s2.heap.objs.size (.lst [])) b:=fun b hb=>⟨by rw[upd_ne (Nat.ne_of_lt (ltf b hb))];exact(f2 b hb).1,(f2 b hb).2⟩
 generalize hH:upd H2 s2.heap.objs.size (.lst [])=H3 at *;generalize hS3:({ s2 with heap:=s2.heap.push { cls:=.type "list",dict:=none,data:=.seq ([]:List Value).toArray } }:Shared)=s3 at *;have o3:∀ b∈fp,b < s3.heap.objs.size:=fun b hb=>by
  rw[← hS3];show b < (s2.heap.push _).objs.size;rw[Heap.size_push];exact Nat.lt_succ_of_lt (ltf b hb)
 have k4:∀ b o,s3.heap.get? b=some o->h4.get? b=some o:=fun b o e=>(hsb4.2 b (Nat.ne_of_lt (Heap.lt_size e))).trans (Heap.get?_push_of_some _ e);have st3:tn 0 s3.heap:=T.keep 0 _ _ st2 fun b hb o e=>by rw[← hS3];exact Heap.get?_push_of_some _ e
 have st4:tn 0 h4:=T.keep 0 _ _ st3 fun b hb o e=>k4 b o e;have I4:Inv (compCx X scope cl N' s3 H3 fp pins) [] (seenN os.length σ js) H3 { s3 with heap:=h4,toks:=s3.toks+([]:List (Str×Value)).length }:=compN_inv S I3 f3 o3 rfl rfl hns4 k4;have ok:=compN_ok S I3 f3 o3;have fp5:∀{H':Hp},(∀ b∈fp,H' b=none) -> ∀ b∈fp,FpOk (compCx X scope cl N' s3 H3 fp pins) [] H' b:=fun hn b hb=>
  ⟨hn b hb,Nat.ne_of_lt (o3 b hb),ok.exfs b hb,.inl hb,fun y c h=>(f3 b hb).2.2.2.2.1 y c (S.sub' h),fun p hp=>(f3 b hb).2.2.2.2.2 p (by
   have q:p∈(X.pn++pins)++[]:=hp;rw[List.append_nil]at q;exact q)⟩
 have loop:codeAny (model X.prog X.w) X.A (.compLoop (.ListComp elt [⟨tgt,iter,ifs,0⟩] scope pos) 0 (.ref it) (.ref s2.heap.objs.size) (compEnvC scope cl s3.heap.objs.size X.env))
  (RR (.ref s2.heap.objs.size) s3.heap.objs.size) { s3 with heap:=h4,toks:=s3.toks+([]:List (Str×Value)).length }:=by
  refine comp_loop (fun n s'=>∃ i σ' H',Inv (compCx X scope cl N' s3 H3 fp pins) [] σ' H' s'/\tn i s'.heap/\(∀ b∈fp,H' b=none)/\W i n σ' H') ?_ m0 ⟨0,_,_,I4,st4,fun b hb=>(f3 b hb).1,w0⟩;rintro n s5 ⟨i,σ5,H5,I5,st5,fr5,w5⟩;rcases turn i n σ5 H5 w5 with ⟨stop,q⟩ | ⟨go,step⟩
  · refine wpAny_mono (T.done (compCx X scope cl N' s3 H3 fp pins) rfl rfl rfl hc i [] s5 σ5 H5 (fun _ _=>False) I5 (fp5 fr5) st5 stop) (fun r s6 ⟨hr,I6⟩=>?_) (fun _ _ z=>z.elim)
    subst hr;obtain⟨m,hm,_⟩:=I6.loc;exact fin _ _ s6 H5 m hm (fun h' hs'=>comp_back I3 f3 I6 hs') I6.free (I3.fpOk (Nat.le_refl _) I6.free) q
  refine wpAny_mono (T.item (compCx X scope cl N' s3 H3 fp pins) rfl rfl rfl hc i [] s5 σ5 H5 (fun _ _=>False) I5 (fp5 fr5) st5 go) (fun r s6 ⟨u,hr,h6⟩=>?_) (fun _ _ z=>z.elim);subst hr;refine wpAny_mono h6 (fun _ s6 ⟨y,H6,I6,r6,y6,st6,fr6⟩=>?_) (fun _ _ z=>z.elim);have I6':=I6.pinned (fp5 fr6) (T.obj _ _ st6);have again:∀{σ7:L2.St}{H7:Hp}{s7:Shared}{m':Nat},Inv (compCx X scope cl N' s3 H3 fp pins) ([]++pinsAt fp s6.heap) σ7 H7 s7->m' < n->W (i+1) m' σ7 H7 ->
   ∃ m,m < n /\ ∃ i σ' H',Inv (compCx X scope cl N' s3 H3 fp pins) [] σ' H' s7/\tn i s7.heap/\(∀ b∈fp,H' b=none)/\W i m σ' H':=fun {σ7 H7 s7 m'} I7 hm w7=>by
   refine⟨m',hm,i+1,σ7,H7,I7.unpinned,T.keep _ _ _ st6 fun b hb o e=>(I7.pin (b,o) (List.mem_append_right _ (List.mem_append_right _ (mem_pinsAt hb e)))).1,fun b hb=>?_,w7⟩;obtain⟨o,e,d⟩:=T.obj _ _ st6 b hb;exact(I7.pin (b,o) (List.mem_append_right _ (List.mem_append_right _ (mem_pinsAt hb e)))).2.1
  have step':=step y H6 y6;refine wpAny_mono (hg s3 H3 fp pins _ s6 σ5 H6 y u _ I6' r6 step') (fun _ s7 ⟨σ7,H7,I7,step'⟩=>?_) (fun _ _ z=>z.elim);refine wpAny_mono (ht s3 H3 fp pins _ s7 _ H7 _ (fun _ _=>False) (fun _ _ z=>z) I7 step') (fun okk s8 ⟨H8,I8,q8⟩=>?_) (fun _ _ z=>z.elim);cases okk with
  | false=>
    obtain⟨m',hm,w8⟩:=q8;exact again I8 hm w8
  | true=>
    refine wpAny_mono (he s3 H3 fp pins _ s8 _ H8 _ I8 q8) (fun ev s9 ⟨z,H9,I9,r9,ys,hys,hlen,m',hm,w9⟩=>?_) (fun _ _ z=>z.elim);refine wpAny_mono (mt_append (X:=compCx X scope cl N' s3 H3 fp pins) _ s9 _ H9 (.ref s2.heap.objs.size) [z] (.ref s2.heap.objs.size) [ev] (fun _ H'=>H'=upd H9 s2.heap.objs.size (.lst (ys++[z]))) I9 rfl (.cons r9 .nil)
     ⟨_,ys,z,rfl,rfl,hys,hlen,rfl⟩) (fun _ s10 ⟨_,H10,I10,_,e10⟩=>?_) (fun _ _ z=>z.elim)
    subst e10;exact again I10 hm w9
 exact codeAny_compStart_list loop (T.self X.A 0 _ _ _ st4 loop)
theorem pe_compN(S:CompScopeN X scope cl os js N')(hc:X.calm=true)(hg:∀ s H fp pins,PG (compCx X scope cl N' s H fp pins) tgt gt)(hi:PI X tgt iter wi)
 (ht:∀ s H fp pins,PTs (compCx X scope cl N' s H fp pins) ifs tt) (he:∀ s H fp pins,PE (compCx X scope cl N' s H fp pins) elt te)
 (hs:∀ x,foldedSetIterable iter X.env x=pure x:=by intro _;rfl):PE X (.ListComp elt [⟨tgt,iter,ifs,0⟩] scope pos) (tCompN os.length js wi gt tt te):=by
 intro pins s σ H Q I h;rw[eval_ListComp];refine wpAny_comprehension_free (use:=none) rfl hs S.clos S.kind S.names (thn (hi pins s σ H _ I h) fun v s1 h1=>thn h1 fun itv s2 h2=>?_);obtain⟨it,fp,tn,J,H2,e,I2,T,st2,f2,k⟩:=h2;subst e;exact compN_core (RR:=fun acc C=>compPost (model X.prog X.w) X.A X.xe none (EP X pins σ Q) acc C) S hc hg ht he I2 T st2 f2 k fun D C s6 H6 m hm back _ _ q=>⟨m,hm,fun h' hs'=>⟨.ref D,H6,back h' hs',rfl,q⟩⟩
end
namespace B
section
variable{X:Cx}{scope:Scope}{cl:List (Str×Addr)}{tgt:Expr}{N':List Str}{elt iter c:Expr}{pos:Pos}{wi:TI}{gt:TG}{te:TE}{tc:TT}{os:List Str}
theorem compN(os:List Str)(js:List Nat)(N':List Str)(S:CompScopeN X scope cl os js N')(hi:Bx (PI X tgt iter wi))(hg:∀ s H fp pins,Bx (PG (compCx X scope cl N' s H fp pins) tgt gt))(he:∀ s H fp pins,Bx (PE (compCx X scope cl N' s H fp pins) elt te))(hc:X.calm=true:=by rfl)
 (hs:∀ x,foldedSetIterable iter X.env x=pure x:=by intro _;rfl):Bx (PE X (.ListComp elt [⟨tgt,iter,[],0⟩] scope pos) (tCompN os.length js wi gt (fun _ H Q=>Q true H) te)):=
 ⟨pe_compN S hc (fun s H fp pins=>(hg s H fp pins).out) hi.out (fun _ _ _ _=>pts_nil) (fun s H fp pins=>(he s H fp pins).out) hs⟩
end
end B
theorem CompScopeN.of{X:Cx}{scope:Scope}{cl:List (Str×Addr)}{os:List Str}{js:List Nat}{N':List Str}(clos:closureFor scope X.env=pure cl)(kind:scope.kind=.function)(nocell:scope.names.all (fun y=>y.2 != .cell)=true)
 (names:scope.names.all (fun y=>y.2 != .local || scope.names.lookup y.1 == some .local)=true) (sub:SubCl X.env.cells cl)
 (has:(relabel scope X.env).names.all (fun p=>!isCF (some p.2) || (cl.lookup p.1).isSome)=true) (nm:N'=os++js.map fun j=>X.N.getD j Str.empty)
 (see:js.all (fun j=>match X.N[j]? with | some y=>isCF (X.env.kindOf y) && isCF ((relabel scope X.env).names.lookup y) | none=>false)=true):CompScopeN X scope cl os js N' where
 clos:=clos
 kind:=kind
 nocell:=fun y hy=>by
  have:=List.all_eq_true.mp nocell y hy;exact bne_iff_ne.mp this
 names:=fun y hy e=>by
  have:=List.all_eq_true.mp names y hy;rw[e]at this;exact beq_iff_eq.mp (by simpa using this)
 sub:=sub.all
 has:=fun y h=>by
  have go:∀ k,(relabel scope X.env).names.lookup y=some k->isCF (some k)=true -> ∃ c,cl.lookup y=some c:=fun k hk hc=>by
   have:=List.all_eq_true.mp has (y,k) (PySem.mem_of_lookup hk);simp only[hc,Bool.not_true,Bool.false_or]at this;exact Option.isSome_iff_exists.mp this
  rcases h with h | h
  · exact go _ h rfl
  exact go _ h rfl
 nm:=nm
 see:=fun i j e=>by
  have:=List.all_eq_true.mp see j (List.mem_of_getElem? e);cases ey:X.N[j]? with
  | none=>rw[ey]at this;cases this
  | some y=>
    rw[ey]at this;rw[Bool.and_eq_true]at this;exact⟨y,rfl,isCF_of this.1,isCF_of this.2⟩
theorem wCompN{n:Nat}{σ:L2.St}{H:Hp}{Q:VK}{js:List Nat}{wi:TI}{gt:TG}{tt:TT}{te:TE}(h:wi σ H fun J H1=>∀ D,H1 D=none -> ∃ W:Nat->Nat->L2.St->Hp->Prop,(∃ m,W 0 m (seenN n σ js) (upd H1 D (.lst []))) /\
 ∀ i m σ' H',W i m σ' H'->(J.stop i H'/\Q (.ref D) H')∨(J.go i H' /\ ∀ x H2,J.yld i H' x H2->gt x σ' H2 fun σ2 H2'=>tt σ2 H2' fun ok H3=>
   if ok=true then te σ2 H3 fun y H4=>∃ ys,H4 D=some (.lst ys)/\ys.length < sizeLine /\ ∃ m',m' < m/\W (i+1) m' σ2 (upd H4 D (.lst (ys++[y])))
   else ∃ m',m' < m/\W (i+1) m' σ2 H3)):tCompN n js wi gt tt te σ H Q:=h
theorem compN_list{K:PySem.W.Frag}{a D:Addr}{xs:List V}{σ0:L2.St}{H1:Hp}{gt:TG}{tt:TT}{te:TE}{Qf:Hp->Prop}(Pv:Nat->L2.St->Hp->Prop)(h0:Pv 0 σ0 H1)(hl:∀ i σ H,i<=xs.length->Pv i σ H->SqL K H a xs)
 (step:∀ i x σ' H',xs[i]?=some x->i < xs.length->Pv i σ' H'->gt x σ' H' fun σ2 H2'=>tt σ2 H2' fun ok H3=>if ok=true then te σ2 H3 (fun y H4=>CN Pv xs.length i D σ2 y H4)else CO Pv xs.length i σ2 H3)
 (fin:∀ σ H,Pv xs.length σ H->Qf H) :
 ∃ W:Nat->Nat->L2.St->Hp->Prop,(∃ m,W 0 m σ0 H1) /\ ∀ i m σ' H',W i m σ' H'->((Itl K a).stop i H'/\Qf H')∨((Itl K a).go i H' /\ ∀ x H2,(Itl K a).yld i H' x H2->gt x σ' H2 fun σ2 H2'=>tt σ2 H2' fun ok H3=>
   if ok=true then te σ2 H3 fun y H4=>∃ ys,H4 D=some (.lst ys)/\ys.length < sizeLine /\ ∃ m',m' < m/\W (i+1) m' σ2 (upd H4 D (.lst (ys++[y])))
   else ∃ m',m' < m/\W (i+1) m' σ2 H3):=by
 refine⟨fun i m σ H=>m=xs.length - i/\i<=xs.length/\Pv i σ H,⟨xs.length,by omega,Nat.zero_le _,h0⟩,?_⟩
 rintro i m σ' H' ⟨rfl,hi,p⟩;have q:=hl i σ' H' hi p;by_cases hlt:i < xs.length
 · refine .inr ⟨⟨xs,xs[i],q,by simp[hlt]⟩,fun x H2 y=>?_⟩
   obtain⟨rfl,y⟩:=y;exact step i x σ' _ (y xs q) hlt p
 have e:i=xs.length:=by omega
 subst e;exact .inl ⟨⟨xs,q,Nat.le_refl _⟩,fin _ _ p⟩
namespace B
theorem gtupK(K:W.Frag){X:Cx}{es:List Expr}{pos:Pos}{kk n:Nat}{u:TGs}(h:Bx (PGs X es u))(hK:X.K=K:=by rfl)(hc:X.calm=true:=by rfl)(hn:(assignEach es X.env).length=n:=by rfl)(hst:(assignEach es X.env).findIdx? (·.1)=none:=by rfl):Bx (PG X (.Tuple es kk pos) (gTup K n u)):=by
 subst hK;exact⟨pg_tup hc h.out hn hst⟩
end B
section
variable{prog:Program}{w:World}{A:Around}{E:Value->Shared->Prop}{s:Shared}
end
section
variable{X:Cx}{elts:List Expr}{k:Nat}{tp:Pos}
end
namespace B
end B
theorem b_str:bootBuiltins "str"=some (.type "str"):=by decide +kernel
theorem isi_tup_str{K:W.Frag}:W.kitOne K (.type "tuple") (.type "str")=some false:=by
 show W.kitOne [] (.type "tuple") (.type "str")=some false
 decide +kernel
noncomputable abbrev KeepT(H H':Hp):Prop:=∀ a xs,H a=some (.tup xs)->H' a=some (.tup xs)
theorem KeepT.same{H H':Hp}(s:Same H H'):KeepT H H':=fun a xs e=>s _ _ e
noncomputable def RowU(H:Hp)(v:V)(r:MRow):Prop:=∃ b ys,v=.ref b/\H b=some (.tup ys)/\Prs H ys r
noncomputable def RowsU(H:Hp)(v:V)(R:MRows):Prop:=∃ a xs,v=.ref a/\H a=some (.tup xs)/\Paired (RowU H) xs R
noncomputable def ElU(H:Hp)(v:V):Option MRows->Prop
 | none=>v=.non
 | some E=>RowsU H v E
noncomputable def StU(H:Hp)(v:V)(M:MT):Prop:=∃ a e w,v=.ref a/\H a=some (.tup [e,.int (M.mv:Nat),w])/\ElU H e M.el/\RowsU H w M.nw
theorem RowU.keep{H H':Hp}{v:V}{r:MRow}(h:RowU H v r)(k:KeepT H H'):RowU H' v r:=by
 obtain⟨b,ys,e,hb,p⟩:=h;exact⟨b,ys,e,k _ _ hb,p.keep k⟩
theorem RowsU.keep{H H':Hp}{v:V}{R:MRows}(h:RowsU H v R)(k:KeepT H H'):RowsU H' v R:=by
 obtain⟨b,ys,e,hb,p⟩:=h;exact⟨b,ys,e,k _ _ hb,Paired.mapP p fun _ _ z=>RowU.keep z k⟩
theorem ElU.keep{H H':Hp}{v:V}{o:Option MRows}(h:ElU H v o)(k:KeepT H H'):ElU H' v o:=by
 cases o with
 | none=>exact h
 | some E=>exact RowsU.keep h k
theorem StU.keep{H H':Hp}{v:V}{M:MT}(h:StU H v M)(k:KeepT H H'):StU H' v M:=by
 obtain⟨a,e,w,hv,ha,he,hw⟩:=h;exact⟨a,e,w,hv,k _ _ ha,he.keep k,hw.keep k⟩
noncomputable def szE:Option MRows->V
 | none=>.non
 | some E=>.int (E.length:Nat)
noncomputable def spTSizes(CS CT:Addr):Sp:=fun vs H Q _=>∃(p:Addr) (f m:Int) (pc:Nat) (M:MT) (tc:Int) (F:Addr->Prop),vs=[.ref p]/\Tb CS CT H p f m pc M tc F /\ ∀ a,H a=none->Q (.ref a) (upd H a (.tup [szE M.el,.int (M.nw.length:Nat)]))
noncomputable def spTTouched(CS CT:Addr):Sp:=fun vs H Q _=>∃(p:Addr) (f m:Int) (pc:Nat) (M:MT) (tc:Int) (F:Addr->Prop),vs=[.ref p]/\Tb CS CT H p f m pc M tc F/\Q (.int tc) H
section
variable{CS CT:Addr}{H:Hp}{Q:VK}{E:XK}{p:Addr}{f m:Int}{pc:Nat}{M:MT}{tc:Int}{F:Addr->Prop}
theorem wTSizes(S:Tb CS CT H p f m pc M tc F)(q:∀ a,H a=none->Q (.ref a) (upd H a (.tup [szE M.el,.int (M.nw.length:Nat)]))):spTSizes CS CT (V.ref p::([]++[])) H Q E:=⟨p,f,m,pc,M,tc,F,rfl,S,q⟩
theorem wTTouched(S:Tb CS CT H p f m pc M tc F)(q:Q (.int tc) H):spTTouched CS CT (V.ref p::([]++[])) H Q E:=⟨p,f,m,pc,M,tc,F,rfl,S,q⟩
end
theorem _root_.L2.SqT.but{K:W.Frag}{H H':Hp}{x C dx b:Addr}{fs:List (Str×V)}{ys:List V}(hx:H x=some (.ins C dx fs))(k:∀ c o,c≠x->H c=some o->H' c=some o)(h:SqT K H b ys):SqT K H' b ys:=by
 rcases h with (z | ⟨o,z⟩) | z
 · exact .inl (.inl (k _ _ (ne_of z hx (by intro z;cases z)) z))
 · exact .inl (.inr ⟨o,k _ _ (ne_of z hx (by intro z;cases z)) z⟩)
 exact .inr z
theorem RowsT.but{K:W.Frag}{H H':Hp}{x C dx a:Addr}{fs:List (Str×V)}{R:MRows}(hx:H x=some (.ins C dx fs))(k:∀ c o,c≠x->H c=some o->H' c=some o)(h:RowsT K H a R):RowsT K H' a R:=by
 obtain⟨xs,hs,p⟩:=h;refine⟨xs,hs.but hx k,Paired.mapP p fun v r ⟨b,ys,e,hb,q⟩=>⟨b,ys,e,hb.but hx k,Paired.mapP q fun v p ⟨a,e,ha⟩=>⟨a,e,ha.but hx k⟩⟩⟩
theorem RowsU.rowsT{K:W.Frag}{H:Hp}{v:V}{R:MRows}(h:RowsU H v R):∃ a,v=.ref a/\RowsT K H a R:=by
 obtain⟨a,xs,e,ha,p⟩:=h;exact⟨a,e,xs,SqT.of ha,Paired.mapP p fun v r ⟨b,ys,e,hb,q⟩=>⟨b,ys,e,SqT.of hb,Paired.mapP q fun v p ⟨a,e,ha⟩=>⟨a,e,SqT.of ha⟩⟩⟩
noncomputable def ElT(K:W.Frag)(H:Hp)(v:V):Option MRows->Prop
 | none=>v=.non
 | some E=>∃ a,v=.ref a/\RowsT K H a E
theorem ElU.elT{K:W.Frag}{H:Hp}{v:V}{o:Option MRows}(h:ElU H v o):ElT K H v o:=by
 cases o with
 | none=>exact h
 | some E=>exact RowsU.rowsT h
noncomputable def spTInit(CS CT:Addr):Sp:=fun vs H Q _=>∃(x t dx:Addr) (f m:Int) (pc:Nat) (v:V) (M:MT),vs=[.ref x,.ref t,.int pc,v]/\H x=some (.ins CT dx [])/\H t=some (.tup [.int f,.int m])/\(0<=f/\f<=65535)/\TOk f m M/\cnt M<=5000/\(v=.non/\M=M0∨StU H v M) /\
 ∀ H' F,Tb CS CT H' x f m pc M 0 F->(∀ b,F b->b=x∨H b=none)->(∀ b o,b≠x->H b=some o->H' b=some o)->Q .non H'
section
variable{CS CT:Addr}{H:Hp}{Q:VK}{E:XK}{f m:Int}
theorem wTableG{Qf:Addr->Hp->Prop}{t:Addr}{n:Int}{v:V}{M:MT}(ht:H t=some (.tup [.int f,.int m]))(bf:0<=f/\f<=65535)(n0:0<=n)(T:TOk f m M)(hc:cnt M<=5000)(hv:v=.non/\M=M0∨StU H v M)
 (q:∀ p H' F,Tb CS CT H' p f m n.toNat M 0 F->(∀ b,F b->H b=none)->Same H H'->Qf p H') :
 ∀ x dx,H x=none->H dx=none->dx≠x->spTInit CS CT (V.ref x::([V.ref t,V.int n,v]++[])) (upd (upd H dx (.own x)) x (.ins CT dx [])) (fun v H2=>v=.non/\Qf x H2) E:=fun x dx hx hdx hne=>by
 have s0:Same H (upd (upd H dx (.own x)) x (.ins CT dx [])):=(Same.new hdx).trans (Same.new (by rw[upd_ne hne.symm];exact hx))
 refine⟨x,t,dx,f,m,n.toNat,v,M,by rw[Int.toNat_of_nonneg n0];rfl,upd_same,s0 _ _ ht,bf,T,hc,hv.imp id (fun u=>u.keep (KeepT.same s0)),fun H' F S g k=>⟨rfl,q x H' F S (fun b hb=>?_) fun b o e=>k b o (ne_of_none e hx) (s0 b o e)⟩⟩
 rcases g b hb with rfl | z
 · exact hx
 exact s0.free z
end
theorem putAll_row{f m:Int}{N:MRows}{j:Nat}(hj:j < N.length):∀(r p:MRow),ROk (p++r)->(∀ q∈r,plc f m N.length q.1=j)->putAll f m (N.set j p) r=N.set j (p++r)
 | [],p,_,_=>by rw[List.append_nil];rfl
 | q::r,p,ok,h=>by
   show putAll f m (sPut f m (N.set j p) q.1 q.2) r=_;have e1:plc f m (N.set j p).length q.1=j:=by rw[List.length_set];exact h q (List.mem_cons_self ..)
   have e2:sRow f m (N.set j p) q.1=p:=by
    unfold sRow;rw[e1,set_getD hj,if_pos rfl]
   have e3:rLook p q.1=none:=(rLook_none_iff q.1).mpr fun z=>by
    have ok':(p.map (·.1)++(q::r).map (·.1)).Nodup:=by rw[← List.map_append];exact ok
    exact(List.nodup_append.mp ok').2.2 _ z _ (List.mem_map.mpr ⟨q,List.mem_cons_self ..,rfl⟩) rfl
   have e4:sPut f m (N.set j p) q.1 q.2=N.set j (p++[q]):=by
    unfold sPut;rw[e1,e2,rPut_new e3,List.set_set]
   have e5:p++q::r=(p++[q])++r:=by simp
   rw[e4,e5];exact putAll_row hj r (p++[q]) (by rw[← e5];exact ok) fun x hx=>h x (List.mem_cons_of_mem _ hx)
theorem laid_go{f m:Int}{n:Nat}:∀(R A:MRows),A.length+R.length=n->(∀(i:Nat) r,R[i]?=some r->ROk r /\ ∀ p∈r,plc f m n p.1=A.length+i)->R.foldl (fun N r=>putAll f m N r) (A++List.replicate R.length [])=A++R
 | [],A,_,_=>rfl
 | r::R,A,hn,h=>by
   have h0:=h 0 r rfl;show R.foldl _ (putAll f m (A++List.replicate (R.length+1) []) r)=_;have hl:(A++List.replicate (R.length+1) ([]:MRow)).length=n:=by
    rw[List.length_append,List.length_replicate];rw[List.length_cons]at hn;exact hn
   have hj:A.length < (A++List.replicate (R.length+1) ([]:MRow)).length:=by
    rw[List.length_append,List.length_replicate];omega
   have es:∀ x:MRow,(A++List.replicate (R.length+1) ([]:MRow)).set A.length x=(A++[x])++List.replicate R.length []:=fun x=>by
    rw[List.set_append_right _ _ (Nat.le_refl _),Nat.sub_self,List.replicate_succ,List.set_cons_zero,List.append_assoc]
    rfl
   have e0:(A++List.replicate (R.length+1) ([]:MRow)).set A.length []=A++List.replicate (R.length+1) []:=by
    rw[es,List.replicate_succ,List.append_assoc]
    rfl
   have e1:=putAll_row (f:=f) (m:=m) hj r [] h0.1 (fun q hq=>by rw[hl];exact h0.2 q hq)
   rw[e0,es]at e1;rw[e1];have ih:=laid_go (f:=f) (m:=m) (n:=n) R (A++[r]) (by rw[List.length_append];rw[List.length_cons]at hn;show A.length+1+R.length=n;omega) fun i q e=>by
    have:=h (i+1) q e;refine⟨this.1,fun p hp=>?_⟩;rw[this.2 p hp,List.length_append];show _=A.length+1+i;omega
   rw[show([]++r:MRow)=r from rfl,ih,List.append_assoc]
   rfl
theorem laid_eq{f m:Int}{R:MRows}(P:POk f m R):laid f m R=R:=
 laid_go (n:=R.length) R [] (Nat.zero_add _) fun i r e=>⟨P.ok r (List.mem_of_getElem? e),fun p hp=>by rw[P.at_ i r p e hp];exact(Nat.zero_add _).symm⟩
noncomputable def shp(M:MT):Option Nat×Nat×Nat:=(M.el.map List.length,M.mv,M.nw.length)
theorem shp_put{f m:Int}{M:MT}{k v:Int}:shp (putAt f m M k v)=shp M:=by
 unfold putAt;cases e:M.el with
 | none=>unfold shp;simp only[e,sPut_len]
 | some E=>
   simp only[];split
   · unfold shp;simp only[e,sPut_len]
   unfold shp;simp only[e,Option.map,sPut_len]
theorem shp_cut{f m:Int}{M:MT}{k:Int}:shp (cutAt f m M k)=shp M:=by
 unfold cutAt;cases e:M.el with
 | none=>unfold shp;simp only[e,sCut_len]
 | some E=>
   simp only[];split
   · unfold shp;simp only[e,sCut_len]
   unfold shp;simp only[e,Option.map,sCut_len]
section
variable{CS CT:Addr}{H H':Hp}{p p2:Addr}{f m f2 m2:Int}{pc pc2:Nat}{M M2:MT}{tc tc2:Int}{F F' G:Addr->Prop}
end
theorem wSeqC{D:Ends}{σ:L2.St}{H:Hp}{t u:TS}(h:∀ N:L2.St->Hp->Prop,N=u D->t { D with nx:=N } σ H):tSeq t u D σ H:=h _ rfl
theorem wGo{N N':L2.St->Hp->Prop}{σ:L2.St}{H:Hp}(e:N=N')(h:N' σ H):N σ H:=e ▸ h
@[elab_as_elim] theorem len0{α:Type}{P:List α -> Prop}(us:List α)(hl:us.length=0)(h:Unit->P []):P us:=by
  cases us with
  | nil=>exact h ()
  | cons a l=>cases hl
@[elab_as_elim] theorem len1{α:Type}{P:List α -> Prop}(us:List α)(hl:us.length=1)(h:∀ a,P [a]):P us:=by
  cases us with
  | nil=>cases hl
  | cons a l=>exact len0 (P:=fun l=>P (a::l)) l (Nat.succ.inj hl) fun _=>h a
@[elab_as_elim] theorem len2{α:Type}{P:List α -> Prop}(us:List α)(hl:us.length=2)(h:∀ a b,P [a,b]):P us:=by
  cases us with
  | nil=>cases hl
  | cons a l=>exact len1 (P:=fun l=>P (a::l)) l (Nat.succ.inj hl) fun b=>h a b
@[elab_as_elim] theorem len3{α:Type}{P:List α -> Prop}(us:List α)(hl:us.length=3)(h:∀ a b c,P [a,b,c]):P us:=by
  cases us with
  | nil=>cases hl
  | cons a l=>exact len2 (P:=fun l=>P (a::l)) l (Nat.succ.inj hl) fun b c=>h a b c
@[elab_as_elim] theorem len4{α:Type}{P:List α -> Prop}(us:List α)(hl:us.length=4)(h:∀ a b c d,P [a,b,c,d]):P us:=by
  cases us with
  | nil=>cases hl
  | cons a l=>exact len3 (P:=fun l=>P (a::l)) l (Nat.succ.inj hl) fun b c d=>h a b c d
@[elab_as_elim] theorem len5{α:Type}{P:List α -> Prop}(us:List α)(hl:us.length=5)(h:∀ a b c d e,P [a,b,c,d,e]):P us:=by
  cases us with
  | nil=>cases hl
  | cons a l=>exact len4 (P:=fun l=>P (a::l)) l (Nat.succ.inj hl) fun b c d e=>h a b c d e
theorem walkX{q:Program}{loose:List Str}{XP:(Str->Option Value)->Heap->Prop}{K:Params->W.Frag}{as:List Addr}{n t:Nat}{r:W.RowW}{d:DefRec}{kwd:List (Str×Expr)}{run:Value->List Value->Sem Value}
 (e:∀ P,as=(K P).map (·.1)) (h:W.WalkO q loose XP (W.InK K) r d kwd run):W.WalkX q loose XP (W.X.obsZ as) (W.X.valZ K n t) r d kwd run:=
 fun w s₀ s₁ mg mb G y a o pm cd doc dV kV ho hd hcd hD hmg hg args vals as' L hpre=>h w s₀ s₁ mg mb G (W.InK.keeps w _ _ (W.X.z_facts e y).2.1 (W.Laid.keeps L)) a o pm cd doc dV kV ho hd hcd hD hmg hg args vals as' hpre
noncomputable def Cut(M:L2.St->Hp->Prop)(G:(L2.St->Hp->Prop)->Prop):Prop:=∀ N,N=M->G N
theorem wCut{M:L2.St->Hp->Prop}{G:(L2.St->Hp->Prop)->Prop}(h:∀ N,N=M->G N):Cut M G:=h
theorem forListC{K:PySem.W.Frag}{a:Addr}{xs:List V}{g:TG}{tb:TS}{D:Ends}{σ:L2.St}{H:Hp}(Pv:Nat->L2.St->Hp->Prop)(h0:Pv 0 σ H)(hl:∀ i σ H,i<=xs.length->Pv i σ H->SqL K H a xs)
 (hs:∀ i x σ H,xs[i]?=some x->Pv i σ H->Cut (Pv (i+1)) fun N=>g x σ H fun σ2 H2=>tb { D with nx:=N,ct:=N,bk:=D.nx } σ2 H2) (hd:∀ σ H,Pv xs.length σ H->D.nx σ H) :
 ∃ W:Nat->Nat->L2.St->Hp->Prop,(∃ m,W 0 m σ H) /\ ∀ i m σ H,W i m σ H ->
   ((Itl K a).stop i H/\D.nx σ H)∨((Itl K a).go i H /\ ∃ N:L2.St->Hp->Prop,(∀ σ' H',N σ' H' -> ∃ m',m' < m/\W (i+1) m' σ' H') /\ ∀ x H',(Itl K a).yld i H x H'->g x σ H' fun σ2 H2=>tb { D with nx:=N,ct:=N,bk:=D.nx } σ2 H2):=
 for_list Pv h0 hl (fun i x σ H e p=>hs i x σ H e p _ rfl) hd
theorem forRangeC{lo:Int}{n:Nat}{g:TG}{tb:TS}{D:Ends}{σ:L2.St}{H:Hp}(Pv:Nat->L2.St->Hp->Prop)(h0:Pv 0 σ H)
 (hs:∀ i σ H,i < n->Pv i σ H->Cut (Pv (i+1)) fun N=>g (.int (lo+i)) σ H fun σ2 H2=>tb { D with nx:=N,ct:=N,bk:=D.nx } σ2 H2) (hd:∀ σ H,Pv n σ H->D.nx σ H) :
 ∃ W:Nat->Nat->L2.St->Hp->Prop,(∃ m,W 0 m σ H) /\ ∀ i m σ H,W i m σ H ->
   ((Itr lo n).stop i H/\D.nx σ H)∨((Itr lo n).go i H /\ ∃ N:L2.St->Hp->Prop,(∀ σ' H',N σ' H' -> ∃ m',m' < m/\W (i+1) m' σ' H') /\ ∀ x H',(Itr lo n).yld i H x H'->g x σ H' fun σ2 H2=>tb { D with nx:=N,ct:=N,bk:=D.nx } σ2 H2):=
 for_range Pv h0 (fun i σ H e p=>hs i σ H e p _ rfl) hd
section
variable{K:W.Frag}{H:Hp}{p C dx:Addr}{fs:List (Str×V)}{v:V}{f:Str}
theorem iFld{R:Addr->Addr->V->Prop}(hp:H p=some (.ins C dx fs))(hc:Cls K C)(hn:NoAttr K C f)(hl:fs.lookup f=some v)(h:R p C v):∃ a C dx fs v,V.ref p=.ref a/\H a=some (.ins C dx fs)/\Cls K C/\NoAttr K C f/\fs.lookup f=some v/\R a C v:=⟨p,C,dx,fs,v,rfl,hp,hc,hn,hl,h⟩
theorem iSFld{R:Addr->Addr->Addr->List (Str×V)->Prop}(hp:H p=some (.ins C dx fs))(hc:Cls K C)(hn:NoAttr K C f)(hl:fs.length < 1000)(h:R p C dx fs):∃ a C dx fs,V.ref p=.ref a/\H a=some (.ins C dx fs)/\Cls K C/\NoAttr K C f/\fs.length < 1000/\R a C dx fs:=⟨p,C,dx,fs,rfl,hp,hc,hn,hl,h⟩
theorem iIsi{x:V}{T:String}{t:Value}{b:Bool}{R:Bool->Prop}(ty:TyOf K H x t)(e:W.kitOne K t (.type T)=some b)(h:R b):∃ x' T' t' b',[x,V.ty T]=[x',V.ty T']/\TyOf K H x' t'/\W.kitOne K t' (.type T')=some b'/\R b':=⟨x,T,t,b,rfl,ty,e,h⟩
theorem iLen{l:Addr}{ys:List V}{R:List V->Prop}(h1:SqL K H l ys∨SqT K H l ys)(h:R ys):∃ p ys,[V.ref l]=[V.ref p]/\(SqL K H p ys∨SqT K H p ys)/\R ys:=⟨l,ys,rfl,h1,h⟩
end
section
variable{CS CT:Addr}{H:Hp}{Q:VK}{E:XK}{p:Addr}{k f m:Int}{pc:Nat}{M:MT}{tc:Int}{F:Addr->Prop}
theorem wTGo(S:Tb CS CT H p f m pc M tc F)(T:TOk f m M)(hp:pc<=1000)(hc:cnt M<=4000∨M.el=none)(q:∀ H' F',Tb CS CT H' p f m pc (goOn f m pc M) (tch f m pc M k) F'->Gr H F F'->Fr F H H'->Q .non H'):spTGo CS CT (V.ref p::([V.int k]++[])) H Q E:=⟨p,k,f,m,pc,M,tc,F,rfl,S,T,hp,hc,q⟩
theorem wTWith{t n:Addr}{v:V}{FN FE:Addr->Prop}(X:TbX CS CT H p f m pc M tc t n v FN FE)(q1:∀ E,M.el=some E->sLook f m E k≠none->Q v H)(q2:onE f m M k=none->Q (.ref n) H):spTWith CS CT (V.ref p::([V.int k]++[])) H Q E:=⟨p,k,f,m,pc,M,tc,t,n,v,FN,FE,rfl,X,q1,q2⟩
theorem wTBegin(S:Tb CS CT H p f m pc M tc F)(hs:isSize M.nw.length)(q:∀ H' F',Tb CS CT H' p f m pc (beg M) tc F'->Gr H F F'->Fr F H H'->Q .non H'):spTBegin CS CT (V.ref p::([]++[])) H Q E:=⟨p,f,m,pc,M,tc,F,rfl,S,hs,q⟩
theorem wTWant(S:Tb CS CT H p f m pc M tc F)(q:Q (.int (want M.nw:Nat)) H):spTWant CS CT (V.ref p::([]++[])) H Q E:=⟨p,f,m,pc,M,tc,F,rfl,S,q⟩
theorem wTDue(S:Tb CS CT H p f m pc M tc F)(T:TOk f m M)(hp:pc<=1000)(q:∀ l H',Same H H'->H l=none->H' l=some (.lst ((seqI M.mv (due pc M)).map V.int))->Q (.ref l) H'):spTDue CS CT (V.ref p::([]++[])) H Q E:=⟨p,f,m,pc,M,tc,F,rfl,S,T,hp,q⟩
theorem wTEnd(S:Tb CS CT H p f m pc M tc F)(q:∀ H' F',Tb CS CT H' p f m pc (endM M) tc F'->Gr H F F'->Fr F H H'->Q .non H'):spTEnd CS CT (V.ref p::([]++[])) H Q E:=⟨p,f,m,pc,M,tc,F,rfl,S,q⟩
theorem wTStands(S:Tb CS CT H p f m pc M tc F)(q:Q (.bl (standsE f m M k)) H):spTStands CS CT (V.ref p::([V.int k]++[])) H Q E:=⟨p,k,f,m,pc,M,tc,F,rfl,S,q⟩
theorem wTShelves{t n:Addr}{v:V}{FN FE:Addr->Prop}(X:TbX CS CT H p f m pc M tc t n v FN FE)(q:∀ l,H l=none->Q (.ref l) (upd H l (.lst (match M.el with | none=>[.ref n] | some _=>[v,.ref n])))):spTShelves CS CT (V.ref p::([]++[])) H Q E:=⟨p,f,m,pc,M,tc,t,n,v,FN,FE,rfl,X,q⟩
theorem wSRowW{R:MRows}{t L:Addr}{ds:List Addr}(X:ShX CS H p f m R t L ds)(q:∀ d,ds[plc f m R.length k]?=some d->Q (.ref d) H):spSRowW CS (V.ref p::([V.int k]++[])) H Q E:=⟨p,k,f,m,R,t,L,ds,rfl,X,q⟩
end
theorem fs{N P:List Str}{sc:Scope}(a:sc.kind=.function:=by rfl)(b:sc.isCoroutine=false:=by rfl)(c:sc.isGenerator=false:=by rfl)(d:N.Nodup:=by decide +kernel)(e:N.take P.length=P:=by rfl)(f:∀ x∈P,sc.names.lookup x=some .local∨sc.names.lookup x=some .cell:=by decide +kernel)(h:∀ y∈sc.names,y.2 ≠ .free:=by decide +kernel):FnScope N P sc:=⟨a,b,c,d,e,f,h⟩
theorem bd0{K:W.Frag}{x qual:Str}{st:Stmt}{f:Addr}{fd:FuncData}(F:Fun K x qual st f fd)(h:∀(kV doc pm:Value) (an:Option Addr) (cdv ct:Value),bindArgs (W.fnOf x qual (defArgs st) (defBody st) (defScope st) .none kV doc pm an cdv ct) ⟨[],[]⟩=pure ([]):=by intros;rfl):Binds K fd [] []:=F.binds fun _ _ _ _ _ _ us hl=>len0 us hl fun _=>h _ _ _ _ _ _
theorem bd1{K:W.Frag}{x qual p0:Str}{st:Stmt}{f:Addr}{fd:FuncData}(F:Fun K x qual st f fd)(h:∀(kV doc pm:Value) (an:Option Addr) (cdv ct:Value) (a0:Value),bindArgs (W.fnOf x qual (defArgs st) (defBody st) (defScope st) .none kV doc pm an cdv ct) ⟨[a0],[]⟩=pure ([(p0,a0)]):=by intros;rfl):Binds K fd [p0] []:=F.binds fun _ _ _ _ _ _ us hl=>len1 us hl fun a0=>h _ _ _ _ _ _ a0
theorem bd2{K:W.Frag}{x qual p0 p1:Str}{st:Stmt}{f:Addr}{fd:FuncData}(F:Fun K x qual st f fd)(h:∀(kV doc pm:Value) (an:Option Addr) (cdv ct:Value) (a0 a1:Value),bindArgs (W.fnOf x qual (defArgs st) (defBody st) (defScope st) .none kV doc pm an cdv ct) ⟨[a0,a1],[]⟩=pure ([(p0,a0),(p1,a1)]):=by intros;rfl):Binds K fd [p0,p1] []:=F.binds fun _ _ _ _ _ _ us hl=>len2 us hl fun a0 a1=>h _ _ _ _ _ _ a0 a1
theorem bd3{K:W.Frag}{x qual p0 p1 p2:Str}{st:Stmt}{f:Addr}{fd:FuncData}(F:Fun K x qual st f fd)(h:∀(kV doc pm:Value) (an:Option Addr) (cdv ct:Value) (a0 a1 a2:Value),bindArgs (W.fnOf x qual (defArgs st) (defBody st) (defScope st) .none kV doc pm an cdv ct) ⟨[a0,a1,a2],[]⟩=pure ([(p0,a0),(p1,a1),(p2,a2)]):=by intros;rfl):Binds K fd [p0,p1,p2] []:=F.binds fun _ _ _ _ _ _ us hl=>len3 us hl fun a0 a1 a2=>h _ _ _ _ _ _ a0 a1 a2
theorem bd4{K:W.Frag}{x qual p0 p1 p2 p3:Str}{st:Stmt}{f:Addr}{fd:FuncData}(F:Fun K x qual st f fd)(h:∀(kV doc pm:Value) (an:Option Addr) (cdv ct:Value) (a0 a1 a2 a3:Value),bindArgs (W.fnOf x qual (defArgs st) (defBody st) (defScope st) .none kV doc pm an cdv ct) ⟨[a0,a1,a2,a3],[]⟩=pure ([(p0,a0),(p1,a1),(p2,a2),(p3,a3)]):=by intros;rfl):Binds K fd [p0,p1,p2,p3] []:=F.binds fun _ _ _ _ _ _ us hl=>len4 us hl fun a0 a1 a2 a3=>h _ _ _ _ _ _ a0 a1 a2 a3
section
variable{X:Cx}{elts:List Expr}{k:Nat}{tp:Pos}
end
namespace B
end B
theorem walks_list{prog:Program}{w:World}{A:Around}(hh:A.handled=none)(I l:Addr)(hne:l≠I)(items:Array Value):Walks prog w A I [I,l] [I] items.size (fun i v=>items[i]?=some v) (fun i h=>h.IsListIter I l i/\h.IsList l items) where
 sub:=by simp
 frame:=fun i h h' st k=>⟨st.1.at fun o e=>k I (by simp) o e,st.2.at fun o e=>k l (by simp) o e⟩
 item:=fun i s Q E hi st hQ=>by
  refine wpAny_pyNext_list_item st.1 st.2 (x:=items[i]) (by simp[hi]) fun h' a sb=>?_
  exact hQ items[i] h' s.toks (by simp[hi]) ⟨a,st.2.extBut sb.extBut hne⟩ fun b o hb e=>sb.extBut b o (fun z=>hb (by simp[z])) e
 done:=fun s Q E st hQ=>by
  refine wpAny_pyNext_list_end hh st.1 st.2 (by simp) fun h' kk=>?_
  exact hQ h' s.toks fun b o hb e=>kk b o (fun z=>hb (by simp[z])) e
 self:=fun i s Q E st hQ=>wpAny_pyIter_listiter st.1 hQ
theorem all_getD:∀ bs:List Bool,(List.range bs.length).all (fun i=>bs.getD i false)=bs.all id
 | []=>rfl
 | b::bs=>by
   rw[List.length_cons,List.range_succ_eq_map,List.all_cons,List.all_map,List.all_cons]
   congr 1
   exact all_getD bs
theorem b_all:bootBuiltins "all"=some (.builtin "all"):=by decide +kernel
theorem call_allL{X:Cx}:CallR X (.builtin "all") (fun xs H Q=>∃ l bs,xs=[.ref l]/\SqL X.K H l (List.map V.bl bs)/\X.calm=true/\Q (.bl (List.all bs id)) H):=by
 intro pins s σ H xs us Q I r h;obtain⟨l,bs,rfl,hl,hc,q⟩:=h;obtain⟨u,rfl,rx⟩:=vals1 r;cases rx;obtain⟨its,rv,pl,_⟩:=I.list hl;have le:=rv.length;rw[List.length_map]at le;have hv:∀(i:Nat) v,its[i]?=some v->v=.bool (bs.getD i false):=fun i v e=>by
  have hi:i < its.length:=(List.getElem?_eq_some_iff.mp e).1;obtain⟨u,hu,ru⟩:=rv.get (i:=i) (x:=V.bl bs[i]) (by simp[le ▸ hi])
  rw[e]at hu;cases hu;rw[show v=Value.bool bs[i]from ru,List.getD_eq_getElem?_getD,List.getElem?_eq_getElem (by omega)]
  rfl
 have lt:l < s.heap.objs.size:=by
  obtain⟨o,e,_⟩:=pl.isList;exact Heap.lt_size e
 have W:=walks_list (prog:=X.prog) (w:=X.w) (A:=X.A.in1) (show X.A.in1.handled=none from I.ok.hd hc) s.heap.objs.size l (Nat.ne_of_lt lt) its.toArray;refine call_all_walk (wpAny_pyIter_list pl.isList ⟨_,_,_,_,_,_,fun i=>bs.getD i false,rfl,W,And.intro ?_ ?_,?_,fun h' tk hk=>?_⟩)
 · exact⟨_,Heap.get?_push_size _ rfl,rfl,rfl⟩
 · exact pl.isList.push _
 · intro i v s' Q' E' hp hq
   rw[hv i v (by simpa using hp)]
   exact wpAny_truthy_bool hq
 have ea:(List.range its.toArray.size).all (fun i=>bs.getD i false)=bs.all id:=by
  rw[List.size_toArray,← le];exact all_getD bs
 rw[ea];refine⟨.bl (bs.all id),H,I.kept (t':=tk) (fun b o e=>hk b o (fun z=>?_) (Heap.get?_push_of_some _ e)),rfl,q⟩;rw[List.mem_singleton]at z;subst z;exact absurd (Heap.lt_size e) (Nat.lt_irrefl _)
theorem b_sorted:bootBuiltins "sorted"=some (.builtin "sorted"):=by decide +kernel
section
variable{prog:Program}{w:World}{A:Around}{E:Value->Shared->Prop}{s:Shared}{T:String}{r d:Addr}{n:Nat}{P:Nat->Value->Prop}{OK:Heap->Prop}
end
theorem vals_ints:∀{vs:List Value}{ns:List Int},IntsAre vs ns->Vals (ns.map V.int) vs
 | _,_,.nil=>.nil
 | _,_,.cons n t r=>.cons ⟨t,rfl⟩ (vals_ints r)
section
variable{X:Cx}{e st:Expr}{te ts:TE}{pos p2:Pos}
end
section
variable{K:W.Frag}{a D:Addr}{xs:List V}{σ0:L2.St}{H1:Hp}{gt:TG}{tt:TT}{te:TE}
theorem comp_tup{Qf:Hp->Prop}(Pv:Nat->L2.St->Hp->Prop)(h0:Pv 0 σ0 H1)(hl:∀ i σ H,i<=xs.length->Pv i σ H->SqT K H a xs)
 (step:∀ i x σ' H',xs[i]?=some x->i < xs.length->Pv i σ' H'->tt (σ'.set 0 (some x)) H' fun ok H3=>if ok=true then te (σ'.set 0 (some x)) H3 (fun y H4=>CN Pv xs.length i D (σ'.set 0 (some x)) y H4)else CO Pv xs.length i (σ'.set 0 (some x)) H3)
 (fin:∀ σ H,Pv xs.length σ H->Qf H) :
 ∃ W:Nat->Nat->L2.St->Hp->Prop,(∃ m,W 0 m σ0 H1) /\ ∀ i m σ' H',W i m σ' H'->((Itt K a).stop i H'/\Qf H')∨((Itt K a).go i H' /\ ∀ x H2,(Itt K a).yld i H' x H2->tt (σ'.set 0 (some x)) H2 fun ok H3=>
   if ok=true then te (σ'.set 0 (some x)) H3 fun y H4=>∃ ys,H4 D=some (.lst ys)/\ys.length < sizeLine /\ ∃ m',m' < m/\W (i+1) m' (σ'.set 0 (some x)) (upd H4 D (.lst (ys++[y])))
   else ∃ m',m' < m/\W (i+1) m' (σ'.set 0 (some x)) H3):=by
 refine⟨fun i m σ H=>m=xs.length - i/\i<=xs.length/\Pv i σ H,⟨xs.length,by omega,Nat.zero_le _,h0⟩,?_⟩
 rintro i m σ' H' ⟨rfl,hi,p⟩;have q:=hl i σ' H' hi p;by_cases hlt:i < xs.length
 · refine .inr ⟨⟨xs,xs[i],q,by simp[hlt]⟩,fun x H2 y=>?_⟩
   obtain⟨rfl,y⟩:=y;exact step i x σ' _ (y xs q) hlt p
 have e:i=xs.length:=by omega
 subst e;exact .inl ⟨⟨xs,q,Nat.le_refl _⟩,fin _ _ p⟩
end
section
variable{X:Cx}
end
noncomputable def TK(H H':Hp):Prop:=∀ a xs,H a=some (.tup xs)->H' a=some (.tup xs)
theorem Same.tk{H H':Hp}(s:Same H H'):TK H H':=fun a xs e=>s a _ e
theorem paired_len{α β:Type}{F:α -> β -> Prop}:∀{xs:List α}{ys:List β},Paired F xs ys->xs.length=ys.length
 | _,_,.nil=>rfl
 | _,_,.cons _ t=>by rw[List.length_cons,List.length_cons,paired_len t]
theorem paired_get{α β:Type}{F:α -> β -> Prop}:∀{xs:List α}{ys:List β}{i:Nat}{v:α},Paired F xs ys->xs[i]?=some v -> ∃ d,ys[i]?=some d/\F v d
 | _,_,_,_,.nil,h=>by simp at h
 | _,_,0,v,.cons (b:=b) hd _,g=>by
   simp at g;subst g;exact⟨b,rfl,hd⟩
 | _,_,i+1,v,.cons _ t,g=>by
   obtain⟨d,e,h⟩:=paired_get (i:=i) t (by simpa using g)
   exact⟨d,by simpa using e,h⟩
theorem paired_append{α β:Type}{F:α -> β -> Prop}{xs2:List α}{ys2:List β}(g:Paired F xs2 ys2):∀{xs:List α}{ys:List β},Paired F xs ys->Paired F (xs++xs2) (ys++ys2)
 | _,_,.nil=>g
 | _,_,.cons h t=>.cons h (paired_append g t)
noncomputable def oN:Option Nat->V
 | none=>.non
 | some n=>.int n
theorem dd_len:∀(ns acc:List Int),(ns.foldl step_dedup acc).length<=acc.length+ns.length
 | [],acc=>Nat.le_refl _
 | n::ns,acc=>by
   have:=dd_len ns (step_dedup acc n);rw[List.foldl_cons,List.length_cons];have:(step_dedup acc n).length<=acc.length+1:=by unfold step_dedup;split <;> simp
   omega
theorem range_getD(ns:List Int):(List.range ns.length).map (fun i=>ns.getD i 0)=ns:=by
 apply List.ext_getElem?
 intro i;rw[List.getElem?_map];by_cases h:i < ns.length
 · simp[h]
 simp[h]
theorem nDist_le(ns:List Int):nDist ns<=ns.length:=by
 unfold nDist firstMet;rw[range_getD];have:=dd_len ns []
 simpa using this
end SW
namespace SW
open PySem PySem.Spec PyProof.Rows L2
namespace B
theorem make0{X:Cx}{C:Addr}{x:Str}{k:Nat}{ps:List Str}{sp:Sp}{p pos:Pos}(M:Mkr X.prog X.w X.K X.mg X.base C x k ps sp)(hr:Room (k+1) X.A)(hg:Gl X x:=by rfl)(hdb:(x == ("__debug__":Str))=false:=by decide) :
 Bx (PE X (.Call (.Name x p) [] [] pos) (tMake C sp [] E0 tNil)):=by
 obtain⟨f,fd,G,M,hm,b⟩:=M.ex;exact⟨pe_make0 M G hr hg hm b .nil pass0 hdb⟩
end B
section
variable{H:Hp}{Q:VK}{E:XK}{p:Addr}
end
section
variable{C:Addr}{H:Hp}{Q:VK}{E:XK}{p wa oa:Addr}{L:LS}
end
section
variable{C:Addr}{H H':Hp}{p:Addr}{L:LS}{wa oa:Addr}
end
end SW
namespace SW
open PySem PySem.Spec PyProof.Rows L2
section
variable{X:Cx}{scope:Scope}{cl:List (Str×Addr)}{os:List Str}{js:List Nat}{N':List Str}{elt tgt iter:Expr}{ifs:List Expr}{pos:Pos}{wi:TI}{gt:TG}{tt:TT}{te:TE}
end
namespace B
end B
section
variable{X:Cx}{pins:List (Addr×Obj)}{σ:L2.St}{H:Hp}{s:Shared}
end
section
variable{a D:Addr}{o:Obj}{kvs:List (Key×V)}{σ0:L2.St}{H1:Hp}{tt:TT}{te:TE}
end
section
variable{K:W.Frag}{H:Hp}
end
namespace B
end B
namespace B
end B
end SW
namespace SW
open PySem PySem.Spec PyProof.Rows L2
section
variable{X:Cx}{elts:List Expr}{k:Nat}{tp:Pos}
end
end SW
namespace SW
open PySem PySem.Spec PyProof.Rows L2
section
variable{prog:Program}{w:World}{A:Around}{E:Value->Shared->Prop}{s:Shared}
end
section
variable{X:Cx}
end
section
variable{X:Cx}
end
section
variable{X:Cx}
end
section
variable{X:Cx}
end
namespace B
end B
theorem take_snocF{α:Type}{xs:List α}{i:Nat}{v:α}(h:xs[i]?=some v):xs.take (i+1)=xs.take i++[v]:=by rw[List.take_add_one,h];rfl
section
variable{X:Cx}
end
section
variable{X:Cx}
end
section
variable{t:Addr}{pc:Int}{ve:V}{mv:Int}{qn sp:Addr}
end
section
variable{H H':Hp}{md t sp qn qe:Addr}{ve:V}{f m:Int}{pc:Nat}{M:MT}{ss:Spots}{lsN lsE:List Addr}{F G:Addr->Prop}
end
theorem len_le_sub{α:Type}[DecidableEq α]:∀{a b:List α},a.Nodup->(∀ x∈a,x∈b)->a.length<=b.length
 | [],b,_,_=>Nat.zero_le _
 | x::a,b,n,h=>by
   obtain⟨h1,h2⟩:=List.nodup_cons.mp n;have hx:=h x (List.mem_cons_self ..);have:=len_le_sub (a:=a) (b:=b.erase x) h2 (fun y hy=>(List.mem_erase_of_ne (fun z=>h1 (by rw[← z];exact hy))).mpr (h y (List.mem_cons_of_mem _ hy)))
   rw[List.length_erase_of_mem hx]at this;have hp:=List.length_pos_of_mem hx;rw[List.length_cons];omega
theorem len_eq_mem{α:Type}[DecidableEq α]{a b:List α}(ha:a.Nodup)(hb:b.Nodup)(h:∀ x,x∈a ↔ x∈b):a.length=b.length:=
 Nat.le_antisymm (len_le_sub ha fun x=>(h x).mp) (len_le_sub hb fun x=>(h x).mpr)
theorem dd_all:∀(ns acc:List Int),acc.Nodup->(ns.foldl step_dedup acc).Nodup /\ ∀ x,x∈ns.foldl step_dedup acc ↔ x∈acc∨x∈ns
 | [],acc,h=>⟨h,fun x=>⟨.inl,fun z=>z.elim id fun y=>(List.not_mem_nil y).elim⟩⟩
 | n::ns,acc,h=>by
   have h2:(step_dedup acc n).Nodup /\ ∀ x,x∈step_dedup acc n ↔ x∈acc∨x=n:=by
    unfold step_dedup;split
    · rename_i e
      have e:n∈acc:=by simpa using e
      exact⟨h,fun x=>⟨.inl,fun z=>z.elim id fun y=>y ▸ e⟩⟩
    rename_i e;have e:n∉acc:=by simpa using e
    refine⟨?_,fun x=>by simp⟩
    rw[List.nodup_append];exact⟨h,by simp,fun a ha b hb z=>e (by rw[List.mem_singleton.mp hb]at z;rw[← z];exact ha)⟩
   obtain⟨i1,i2⟩:=dd_all ns _ h2.1;refine⟨i1,fun x=>?_⟩;rw[List.foldl_cons,i2 x,h2.2 x,List.mem_cons]
   constructor
   · rintro((z | z) | z)
     · exact .inl z
     · exact .inr (.inl z)
     exact .inr (.inr z)
   rintro(z | z | z)
   · exact .inl (.inl z)
   · exact .inl (.inr z)
   exact .inr z
theorem nDist_len{ns l:List Int}(h:l.Nodup)(e:∀ x,x∈l ↔ x∈ns):nDist ns=l.length:=by
 unfold nDist firstMet;rw[range_getD];obtain⟨a,b⟩:=dd_all ns [] List.nodup_nil;refine len_eq_mem a h fun x=>?_;rw[b x,e x];simp
section
variable{H H' H3:Hp}{md t sp qn qe q:Addr}{ve:V}{f m:Int}{pc:Nat}{M:MT}{ss:Spots}{lsN lsE ls:List Addr}{R:MRows}
end
section
variable{prog:Program}{w:World}{A:Around}{E:Value->Shared->Prop}{s:Shared}
end
section
variable{X:Cx}
end
theorem M0_look{f m k:Int}:tLook f m M0 k=none:=none_of_bare (by decide) (fun j r _ er=>List.eq_of_mem_replicate (List.mem_of_getElem? er)) k
end SW
set_option maxHeartbeats 4000000
namespace SW
open PySem PySem.Spec PyProof.Rows L2
noncomputable def Rat(M:MT):Prop:=∀ E,M.el=some E->E.length=2*M.nw.length∨M.nw.length=2*E.length
theorem has_nodup:∀ ns:List Int,∃ l:List Int,l.Nodup /\ ∀ x,x∈l ↔ x∈ns
 | []=>⟨[],List.nodup_nil,fun _=>Iff.rfl⟩
 | n::ns=>by
   obtain⟨l,h1,h2⟩:=has_nodup ns;by_cases z:n∈l
   · exact⟨l,h1,fun x=>⟨fun y=>List.mem_cons_of_mem _ ((h2 x).mp y),fun y=>(List.mem_cons.mp y).elim (fun e=>e ▸ z) fun y=>(h2 x).mpr y⟩⟩
   exact⟨n::l,List.nodup_cons.mpr ⟨z,h1⟩,fun x=>by rw[List.mem_cons,List.mem_cons,h2]⟩
theorem nDist_sub{ns l:List Int}(h:∀ x∈ns,x∈l):nDist ns<=l.length:=by
 obtain⟨q,h1,h2⟩:=has_nodup ns;rw[nDist_len h1 h2];exact len_le_sub h1 fun x hx=>h x ((h2 x).mp hx)
noncomputable def covs(e n:Nat):Nat->Nat->List Int
 | _,0=>[]
 | i,c+1=>((i % n:Nat):Int)::(((i+e) % n:Nat):Int)::covs e n (i+1) c
theorem covs_len(e n:Nat):∀(c i:Nat),(covs e n i c).length=2*c
 | 0,_=>rfl
 | c+1,i=>by
   show(covs e n (i+1) c).length+1+1=_;rw[covs_len e n c];omega
theorem plc_half{f m:Int}{e n i:Nat}{k:Int}(n0:0 < n)(e0:0 < e)(h:e=2*n∨n=2*e)(hi:plc f m e k=i):plc f m n k=i % n∨plc f m n k=(i+e) % n:=by
 obtain⟨μ,hμ⟩:∃ μ:Nat,((k*f+m) % 65536)=(μ:Int):=⟨((k*f+m) % 65536).toNat,by have:=Int.emod_nonneg (k*f+m) (show(65536:Int)≠0 by decide);omega⟩
 have pe:∀ q:Nat,plc f m q k=μ % q:=fun q=>by
  unfold plc;rw[hμ,← Int.natCast_emod]
  rfl
 rw[pe]at hi ⊢;rcases h with rfl | rfl
 · left
   rw[← hi,Nat.mod_mod_of_dvd _ ⟨2,Nat.mul_comm _ _⟩]
 rw[← hi];have hd:=Nat.div_add_mod μ e;have hlt:=Nat.mod_lt μ e0;rcases Nat.mod_two_eq_zero_or_one (μ / e)with z | z
 · left
   have hq:=Nat.div_add_mod (μ / e) 2;have e1:μ=μ % e+2*e*(μ / e / 2):=by
    rw[z]at hq;have:e*(μ / e)=2*e*(μ / e / 2):=by
     conv=>lhs;rw[← hq]
     rw[Nat.add_zero,← Nat.mul_assoc,Nat.mul_comm e 2]
    omega
   conv=>lhs;rw[e1]
   rw[Nat.add_mul_mod_self_left]
 right
 have hq:=Nat.div_add_mod (μ / e) 2;have e1:μ=(μ % e+e)+2*e*(μ / e / 2):=by
  rw[z]at hq;have:e*(μ / e)=2*e*(μ / e / 2)+e:=by
   conv=>lhs;rw[← hq]
   rw[Nat.mul_add,Nat.mul_one,← Nat.mul_assoc,Nat.mul_comm e 2]
  omega
 conv=>lhs;rw[e1]
 rw[Nat.add_mul_mod_self_left]
theorem reach_covs{f m:Int}{E:MRows}{n:Nat}(P:POk f m E)(n0:0 < n)(h:E.length=2*n∨n=2*E.length):∀(c i:Nat),i+c<=E.length -> ∀ x∈reach f m n E i c,x∈covs E.length n i c
 | 0,_,_,_,hx=>hx
 | c+1,i,hi,x,hx=>by
   have hx:x∈((E.getD i []).map fun p=>((plc f m n p.1:Nat):Int))++reach f m n E (i+1) c:=hx;rcases List.mem_append.mp hx with hx | hx
   · obtain⟨p,hp,rfl⟩:=List.mem_map.mp hx
     have hr:=P.at_ i _ p (getD_get (by omega)) hp
     show _∈((i % n:Nat):Int)::(((i+E.length) % n:Nat):Int)::_;rcases plc_half n0 (by omega) h hr with z | z
     · rw[z];exact List.mem_cons_self ..
     rw[z];exact List.mem_cons_of_mem _ (List.mem_cons_self ..)
   exact List.mem_cons_of_mem _ (List.mem_cons_of_mem _ (reach_covs P n0 h c (i+1) (by omega) x hx))
theorem tch_le{f m:Int}{pc:Nat}{M:MT}{k:Int}(T:TOk f m M)(R:Rat M):tch f m pc M k<=3*pc+2:=by
 rw[tch_eq];have h2:(if standsE f m (goOn f m pc M) k=true then 1 else 0)<=1:=by split <;> omega
 generalize (if standsE f m (goOn f m pc M) k=true then 1 else 0)=z at *;cases e:M.el with
 | none=>
   have hd:due pc M=0:=by unfold due;rw[e]
   have hr:rch f m M (due pc M)=[]:=by unfold rch;rw[e]
   have h1:=nDist_le [((plc f m M.nw.length k:Nat):Int)];rw[hr,hd];have h1:nDist [((plc f m M.nw.length k:Nat):Int)]<=1:=h1;omega
 | some E=>
   obtain⟨P,sE,hm,_,_⟩:=T.el E e;have hdl:=due_le (pc:=pc) e hm;have hdp:due pc M<=pc:=by
    unfold due;rw[e];show min (M.mv+pc) E.length - M.mv<=pc;omega
   have hr:rch f m M (due pc M)=reach f m M.nw.length E M.mv (due pc M):=by unfold rch;rw[e]
   rw[hr];have:=nDist_sub (ns:=((plc f m M.nw.length k:Nat):Int)::reach f m M.nw.length E M.mv (due pc M)) (l:=((plc f m M.nw.length k:Nat):Int)::covs E.length M.nw.length M.mv (due pc M)) fun x hx=>by
    rcases List.mem_cons.mp hx with rfl | hx
    · exact List.mem_cons_self ..
    exact List.mem_cons_of_mem _ (reach_covs P T.sz.pos (R E e) _ _ hdl x hx)
   rw[List.length_cons,covs_len]at this;omega
noncomputable def goS(p:Nat):Option Nat×Nat×Nat->Option Nat×Nat×Nat
 | (none,mv,n)=>(none,mv,n)
 | (some e,mv,n)=>if e<=mv+p then(none,0,n)else(some e,mv+p,n)
noncomputable def wantN(n c:Nat):Nat:=if n < c then min (n*2) 4096 else if c*8 < n then max (n / 2) 4 else n
noncomputable def begS(c:Nat):Option Nat×Nat×Nat->Option Nat×Nat×Nat
 | (some e,mv,n)=>(some e,mv,n)
 | (none,mv,n)=>if wantN n c=n then(none,mv,n)else(some n,mv,wantN n c)
theorem shp_goS{f m:Int}{p:Nat}{M:MT}(T:TOk f m M):shp (goOn f m p M)=goS p (shp M):=by
 cases e:M.el with
 | none=>
   have a:goOn f m p M=M:=by unfold goOn;rw[e]
   rw[a];unfold shp;rw[e]
   rfl
 | some E=>
   have hm:=(T.el E e).2.2.1;have hd:due p M=min (M.mv+p) E.length - M.mv:=by unfold due;rw[e]
   have hs:shp M=(some E.length,M.mv,M.nw.length):=by unfold shp;rw[e];rfl
   rw[hs];by_cases z:M.mv+due p M=E.length
   · have a:goOn f m p M=⟨none,0,(moves f m E M.nw M.mv (due p M)).2⟩:=by unfold goOn;rw[e];exact if_pos z
     rw[a];show(none,0,(moves f m E M.nw M.mv (due p M)).2.length)=if E.length<=M.mv+p then _ else _;rw[moves_len2,if_pos (by omega)]
   have a:goOn f m p M=⟨some (moves f m E M.nw M.mv (due p M)).1,M.mv+due p M,(moves f m E M.nw M.mv (due p M)).2⟩:=by unfold goOn;rw[e];exact if_neg z
   rw[a];show(some (moves f m E M.nw M.mv (due p M)).1.length,M.mv+due p M,(moves f m E M.nw M.mv (due p M)).2.length)=if E.length<=M.mv+p then _ else _;rw[moves_len1,moves_len2,if_neg (by omega),show due p M=p by omega]
theorem shp_begS{M:MT}:shp (beg M)=begS (cnt M) (shp M):=by
 cases e:M.el with
 | some E=>
   have a:beg M=M:=by unfold beg;rw[e]
   rw[a];unfold shp;rw[e]
   rfl
 | none=>
   have hs:shp M=(none,M.mv,M.nw.length):=by unfold shp;rw[e];rfl
   have hc:cnt M=tot M.nw:=by unfold cnt;rw[e];exact Nat.zero_add _
   have hb:beg M=if want M.nw=M.nw.length then M else⟨some M.nw,M.mv,List.replicate (want M.nw) []⟩:=by unfold beg;rw[e]
   rw[hs,hc,hb];show _=if wantN M.nw.length (tot M.nw)=M.nw.length then _ else _;have ew:want M.nw=wantN M.nw.length (tot M.nw):=rfl;rw[ew];split
   · exact hs
   show(some M.nw.length,M.mv,(List.replicate (wantN M.nw.length (tot M.nw)) ([]:MRow)).length)=_;rw[List.length_replicate]
noncomputable def deedS(p c:Nat)(s:Option Nat×Nat×Nat):Option Nat×Nat×Nat:=begS c (goS p s)
theorem shp_deedS{f m:Int}{p:Nat}{M:MT}(T:TOk f m M)(d:Deed):shp (deedM f m p M d)=deedS p (cnt (deedM f m p M d)) (shp M):=by
 obtain⟨T1,_,_⟩:=goOn_ok (pc:=p) T;unfold deedS;rw[← shp_goS T];cases d with
 | put k v=>
   have c:=(beg_ok (putAt_ok (k:=k) (v:=v) T1).1).2.2;show shp (beg (SW.putAt f m (goOn f m p M) k v))=begS (cnt (beg (SW.putAt f m (goOn f m p M) k v))) _;rw[c,shp_begS,shp_put]
 | look k=>
   have c:=(beg_ok T1).2.2;show shp (beg (goOn f m p M))=begS (cnt (beg (goOn f m p M))) _;rw[c,shp_begS]
 | cut k=>
   have c:=(beg_ok (cutAt_ok (k:=k) T1).1).2.2;show shp (beg (cutAt f m (goOn f m p M) k))=begS (cnt (beg (cutAt f m (goOn f m p M) k))) _;rw[c,shp_begS,shp_cut]
theorem size_cases{n:Nat}(h:isSize n):n=4∨n=8∨n=16∨n=32∨n=64∨n=128∨n=256∨n=512∨n=1024∨n=2048∨n=4096:=by
 unfold isSize at h
 simpa only[List.mem_cons,List.not_mem_nil,or_false] using h
theorem wantN_cases{n c:Nat}(h:isSize n):wantN n c=n∨wantN n c=2*n∨2*wantN n c=n:=by
 have sc:=size_cases h;unfold wantN;split
 · omega
 split <;> omega
theorem Rat.deed{f m:Int}{p:Nat}{M:MT}(T:TOk f m M)(R:Rat M)(d:Deed):Rat (deedM f m p M d):=by
 have h:=shp_deedS (p:=p) T d;intro E' e';generalize cnt (deedM f m p M d)=c at h;have hl:shp (deedM f m p M d)=(some E'.length,(deedM f m p M d).mv,(deedM f m p M d).nw.length):=by unfold shp;rw[e'];rfl
 rw[hl]at h;have beg:∀ mv:Nat,(some E'.length,(deedM f m p M d).mv,(deedM f m p M d).nw.length)=begS c (none,mv,M.nw.length)->E'.length=2*(deedM f m p M d).nw.length∨(deedM f m p M d).nw.length=2*E'.length:=by
  intro mv h;have h:(some E'.length,(deedM f m p M d).mv,(deedM f m p M d).nw.length)=if wantN M.nw.length c=M.nw.length then(none,mv,M.nw.length)else(some M.nw.length,mv,wantN M.nw.length c):=h;split at h
  · injection h with h;cases h
  rename_i z;injection h with h1 h;injection h with h2 h3;injection h1 with h1;rw[h1,h3];rcases wantN_cases (c:=c) T.sz with w | w | w
  · exact absurd w z
  · exact .inr w
  exact .inl w.symm
 cases e:M.el with
 | none=>
   have hM:shp M=(none,M.mv,M.nw.length):=by unfold shp;rw[e];rfl
   rw[hM]at h;exact beg M.mv h
 | some E=>
   have hM:shp M=(some E.length,M.mv,M.nw.length):=by unfold shp;rw[e];rfl
   rw[hM]at h;have h:_=begS c (if E.length<=M.mv+p then(none,0,M.nw.length)else(some E.length,M.mv+p,M.nw.length)):=h;split at h
   · exact beg 0 h
   have h:_=(some E.length,M.mv+p,M.nw.length):=h;injection h with h1 h;injection h with h2 h3;injection h1 with h1;rw[h1,h3];exact R E e
theorem Rat0:Rat M0:=fun E h=>by cases h
end SW
set_option maxHeartbeats 2000000
namespace SW
open PySem PySem.Spec PyProof.Rows L2
end SW
set_option maxHeartbeats 2000000
namespace SW
open PySem PySem.Spec PyProof.Rows L2
theorem rLook_in{k v:Int}:∀{r:MRow},ROk r->(k,v)∈r->rLook r k=some v
 | [],_,h=>nomatch h
 | p::r,ok,h=>by
   have nd:p.1∉r.map (·.1)/\ROk r:=List.nodup_cons.mp ok;rcases List.mem_cons.mp h with e | e
   · subst e;exact rLook_pos rfl
   rw[rLook_neg fun z=>nd.1 (z ▸ List.mem_map.mpr ⟨_,e,rfl⟩)];exact rLook_in nd.2 e
theorem POk.look{f m:Int}{N:MRows}(P:POk f m N){i:Nat}{r:MRow}{p:Int×Int}(hr:N[i]?=some r)(hp:p∈r):sLook f m N p.1=some p.2:=by
 rw[sLook_getD,P.at_ i r p hr hp,List.getD_eq_getElem?_getD,hr];exact rLook_in (P.ok r (List.mem_of_getElem? hr)) hp
noncomputable def InPlc(f m mv:Int)(R:MRows):Prop:=∀(i:Nat) (r:MRow),R[i]?=some r -> ∀ x∈r,(x.1*f+m) % 65536 % (R.length:Int)=i /\ ¬ (i:Int) < mv
theorem POk.inplc{f m:Int}{N:MRows}(P:POk f m N):InPlc f m 0 N:=fun i r hr x hx=>by
 have hi:i < N.length:=(List.getElem?_eq_some_iff.mp hr).1;refine⟨?_,by omega⟩
 rw[← plc_int (by omega),P.at_ i r x hr hx]
noncomputable def allP(M:MT):MRow:=(M.el.getD []).flatten++M.nw.flatten
theorem flatten_len(R:MRows):R.flatten.length=tot R:=List.length_flatten ..
theorem allP_len(M:MT):(allP M).length=cnt M:=by
 unfold allP cnt;rw[List.length_append,flatten_len,flatten_len];cases M.el with
 | none=>rfl
 | some E=>rfl
theorem mem_flat{R:MRows}{p:Int×Int}:p∈R.flatten ↔ ∃(i:Nat) (r:MRow),R[i]?=some r/\p∈r:=by
 rw[List.mem_flatten]
 constructor
 · rintro⟨r,hr,hp⟩
   obtain⟨i,hi⟩:=List.getElem?_of_mem hr;exact⟨i,r,hi,hp⟩
 rintro⟨i,r,hi,hp⟩;exact⟨r,List.mem_of_getElem? hi,hp⟩
theorem TOk.tell{f m:Int}{M:MT}(T:TOk f m M){p:Int×Int}(h:p∈allP M):tLook f m M p.1=some p.2:=by
 unfold tLook onE;rcases List.mem_append.mp h with z | z
 · obtain⟨i,r,hi,hp⟩:=mem_flat.mp z
   cases e:M.el with
   | none=>rw[e]at hi;cases hi
   | some E=>
     rw[e]at hi;have:=(T.el E e).1.look hi hp;show(match sLook f m E p.1 with | some v=>some v | none=>sLook f m M.nw p.1)=_;rw[this]
 obtain⟨i,r,hi,hp⟩:=mem_flat.mp z;have l:=T.nw.look hi hp;cases e:M.el with
 | none=>exact l
 | some E=>
   show(match sLook f m E p.1 with | some v=>some v | none=>sLook f m M.nw p.1)=_;cases e2:sLook f m E p.1 with
   | none=>exact l
   | some v=>
     have:=(T.el E e).2.2.2.2 p.1 (by rw[e2];simp)
     rw[l]at this;cases this
noncomputable def InB(p:Int×Int):Prop:=(0<=p.1/\p.1<=1000000000) /\ -1000000000<=p.2/\p.2<=1000000000
section
variable{X:Cx}
end
end SW
set_option maxHeartbeats 2000000
namespace SW
open PySem PySem.Spec PyProof.Rows L2
section
variable{X:Cx}{pins:List (Addr×Obj)}{σ:L2.St}{H:Hp}{s:Shared}
theorem Inv.fewer{pins':List (Addr×Obj)}(I:L2.Inv X pins σ H s)(h:∀ p∈pins',p∈pins):L2.Inv X pins' σ H s:=I.pins_of fun p hp=>I.pin p (List.mem_append_right _ (h p hp))
theorem Inv.pinNew{o:Obj}{t:Nat}(I:L2.Inv X pins σ H s)(hc:∀ v,o.data ≠ .cell v)(hf:o.isFreed=false:=by rfl):L2.Inv X ((s.heap.objs.size,o)::pins) σ H { s with heap:=s.heap.push o,toks:=t }:=by
 have J:=I.kept (t':=t) (h':=s.heap.push o) fun b u e=>Heap.get?_push_of_some _ e;refine J.pins_of fun p hp=>?_;rcases List.mem_cons.mp hp with rfl | hp
 · exact⟨Heap.get?_push_size _ hf,I.hok.fresh (Nat.le_refl _),Nat.ne_of_gt I.lt,I.nofs (Nat.le_refl _),hc⟩
 exact J.pin p (List.mem_append_right _ hp)
theorem Inv.pinSet{a:Addr}{o o':Obj}{h':Heap}{t:Nat}(I:L2.Inv X ((a,o)::pins) σ H s)(hs:Heap.SameBut a s.heap h')(ho:h'.get? a=some o')(hc:∀ v,o'.data ≠ .cell v)(h0:X.s₀.heap.objs.size<=a)(hp:∀ p∈X.pn++pins,p.1≠a) :
 L2.Inv X ((a,o')::pins) σ H { s with heap:=h',toks:=t }:=by
 obtain⟨e1,e2,e3,e4,e5⟩:=I.pin (a,o) (List.mem_append_right _ List.mem_cons_self);have I0:L2.Inv X pins σ H s:=Inv.fewer I fun p hp=>List.mem_cons_of_mem _ hp;have J:=I0.turned (t':=t) (h':=h') (it:=a) (fun b u hb e=>(hs.2 b hb).trans e) e2 e3 (.inr h0) (fun x c e z=>by
  obtain⟨v,oc,h1,h2⟩:=I0.cell x c e;rw[z]at h1;have e1':s.heap.get? a=some o:=e1;rw[e1']at h1;cases h1;exact e5 v h2) hp
 refine J.pins_of fun p hp=>?_;rcases List.mem_cons.mp hp with rfl | hp
 · exact⟨ho,e2,e3,e4,hc⟩
 exact J.pin p (List.mem_append_right _ hp)
end
theorem seq_nocell(T:String)(its:Array Value)(n:Nat):∀ v,(seqObj T its n).data ≠ .cell v:=fun v z=>by cases z
section
variable{X:Cx}{pins:List (Addr×Obj)}{σ:L2.St}{H:Hp}{s:Shared}{kS D:Addr}{vs:List Value}{kz:List Int}{keys:Array Value}{e e1:Nat}{A:Around}{E:Value->Shared->Prop}{PP:PySem.Fin->Shared->Prop}
structure Two(X:Cx)(pins:List (Addr×Obj))(kS D:Addr):Prop where
 ne:kS≠D
 k0:X.s₀.heap.objs.size<=kS
 d0:X.s₀.heap.objs.size<=D
 pk:∀ p∈X.pn++pins,p.1≠kS
 pd:∀ p∈X.pn++pins,p.1≠D
theorem Two.pk'(Z:Two X pins kS D){o:Obj}:∀ p∈X.pn++((D,o)::pins),p.1≠kS:=fun p hp=>by
 rcases List.mem_append.mp hp with z | z
 · exact Z.pk p (List.mem_append_left _ z)
 rcases List.mem_cons.mp z with rfl | z
 · exact Z.ne.symm
 exact Z.pk p (List.mem_append_right _ z)
theorem Two.pd'(Z:Two X pins kS D){o:Obj}:∀ p∈X.pn++((kS,o)::pins),p.1≠D:=fun p hp=>by
 rcases List.mem_append.mp hp with z | z
 · exact Z.pd p (List.mem_append_left _ z)
 rcases List.mem_cons.mp z with rfl | z
 · exact Z.ne
 exact Z.pd p (List.mem_append_right _ z)
theorem sk_tail{st:SortSt}(Z:Two X pins kS D)(I:L2.Inv X ((kS,seqObj "list" keys e)::(D,seqObj "list" #[] e1)::pins) σ H s)(hk:IntsAre keys.toList kz)(hlen:kz.length=vs.length)(h64:vs.length < 64)
 (hp:(arrOf st).Perm (keys.zip vs.toArray)) (hs:SortedTo (arrOf st) (arrOf st).size) (hfl:failedOf st=none)
 (h:∀ s' out c,L2.Inv X ((D,seqObj "list" out c)::pins) σ H s'->KskOut false kz vs out.toList->PP (.done (.ret .none)) s') :
 wpAny (model X.prog X.w) A (ksk_tail D false e1 (.ref kS) st) PP E s:=by
 have nk:s.heap.get? kS=some (seqObj "list" keys e):=(I.pin _ (List.mem_append_right _ List.mem_cons_self)).1;have nd:s.heap.get? D=some (seqObj "list" #[] e1):=(I.pin (D,_) (List.mem_append_right _ (List.mem_cons_of_mem _ List.mem_cons_self))).1;have hsz:keys.size=vs.length:=by have h1:=hk.length;rw[Array.length_toList]at h1;omega
 have hsz2:(arrOf st).size=vs.length:=by rw[hp.size_eq,Array.size_zip,hsz,List.size_toArray,Nat.min_self]
 have s1:=Heap.SameBut.update s.heap kS (Obj.mapSeq fun _=>(#[]:Array Value));obtain⟨c1,hc1⟩:∃ c1,(s.heap.update kS (Obj.mapSeq fun _=>(#[]:Array Value))).get? kS=some (seqObj "list" #[] c1):=⟨_,get?_update_seq nk fun _=>#[]⟩;have I1:=Inv.pinSet (t:=s.toks) I s1 hc1 (seq_nocell _ _ _) Z.k0 Z.pk';have nd1:=(s1.2 D Z.ne.symm).trans nd;have s2:=Heap.SameBut.update (s.heap.update kS (Obj.mapSeq fun _=>(#[]:Array Value))) D (Obj.mapSeq fun _=>(arrOf st).map (·.2));obtain⟨c2,hc2⟩:∃ c2,((s.heap.update kS (Obj.mapSeq fun _=>(#[]:Array Value))).update D (Obj.mapSeq fun _=>(arrOf st).map (·.2))).get? D=some (seqObj "list" ((arrOf st).map (·.2)) c2):=⟨_,get?_update_seq nd1 fun _=>(arrOf st).map (·.2)⟩;have I2:=Inv.pinSet (t:=s.toks) (pins:=(kS,seqObj "list" #[] c1)::pins) (Inv.fewer I1 fun p hp=>by
  rcases List.mem_cons.mp hp with rfl | hp
  · exact List.mem_cons_of_mem _ List.mem_cons_self
  rcases List.mem_cons.mp hp with rfl | hp
  · exact List.mem_cons_self
  exact List.mem_cons_of_mem _ (List.mem_cons_of_mem _ hp)) s2 hc2 (seq_nocell _ _ _) Z.d0 Z.pd'
 unfold ksk_tail
 try dsimp only
 refine wpAny_bind (listUpdate_at (n:=e) nk rfl ?_ (by rw[hsz,sizeLine_eq];omega) (Nat.zero_le _))
 refine wpAny_bind (wpAny_letGo ?_);refine wpAny_bind (seqEpoch_at (n:=e1) nd1 rfl ?_);refine wpAny_bind (listUpdate_at (n:=e1) nd1 rfl ?_ (Nat.zero_le _) (Nat.le_trans (Nat.le_of_eq (by simp only[Bool.false_eq_true,if_false,Array.size_map];exact hsz2)) (by rw[sizeLine_eq];omega)))
 rw[hfl];simp only[bne_self_eq_false,Bool.false_eq_true,if_false];exact wpAny_pure (h _ _ c2 (Inv.fewer I2 fun p hp=>by
  rcases List.mem_cons.mp hp with rfl | hp
  · exact List.mem_cons_self
  exact List.mem_cons_of_mem _ (List.mem_cons_of_mem _ hp)) (ksk_out (b:=false) hk hp hs))
theorem sk_end(Z:Two X pins kS D)(I:L2.Inv X ((kS,seqObj "list" keys e)::(D,seqObj "list" #[] e1)::pins) σ H s)(hk:IntsAre keys.toList kz)(hlen:kz.length=vs.length)(h64:vs.length < 64)
 (h:∀ s' out c,L2.Inv X ((D,seqObj "list" out c)::pins) σ H s'->KskOut false kz vs out.toList->PP (.done (.ret .none)) s') :
 wpAny (model X.prog X.w) A (ksk_end D false vs.toArray e1 (.ref kS) keys) PP E s:=by
 have hsz:keys.size=vs.length:=by have h1:=hk.length;rw[Array.length_toList]at h1;omega
 have hzs:(keys.zip vs.toArray).size=vs.length:=by rw[Array.size_zip,hsz,List.size_toArray,Nat.min_self]
 unfold ksk_end;simp only[Bool.false_eq_true,if_false];by_cases h2:vs.toArray.size < 2
 · rw[if_pos h2,if_pos h2]
   refine wpAny_bind (wpAny_pure ?_);rw[StateT.run_pure];refine wpAny_bind (wpAny_pure ?_)
   try dsimp only
   refine sk_tail (st:=SortSt.mk' general' (keys.zip vs.toArray) #[] 7 none) Z I hk hlen h64 (Array.Perm.refl _) ?_ rfl h;intro i j hij hj;have hj2:j < (keys.zip vs.toArray).size:=hj;rw[hzs]at hj2;rw[List.size_toArray]at h2;have:i=j:=by omega
   subst this;exact Int.le_refl _
 rw[if_neg h2,if_neg h2];rw[List.size_toArray]at h2;rw[ksk_kind hk (by rw[hsz];omega)]
 refine wpAny_bind (wpAny_pure ?_);refine wpAny_bind (wpAny_mono (wpS_sortRuns (a₀:=keys.zip vs.toArray) (st:=SortSt.mk' oneType' (keys.zip vs.toArray) #[] 7 none)
  (Q:=fun _ st'=>(arrOf st').Perm (keys.zip vs.toArray)/\failedOf st'=none/\SortedTo (arrOf st') (keys.zip vs.toArray).size)
  (ksk_intKeys hk) ⟨Array.Perm.refl _,rfl,rfl,rfl⟩ (by rw[hzs];omega) (by rw[hzs];exact h64) fun st' a1 a2 a3=>⟨a1,a2,a3⟩) ?_ fun _ _ z=>z)
 rintro⟨⟨⟩,st'⟩ s' ⟨rfl,hp,hf,hs⟩
 try dsimp only
 exact sk_tail Z I hk hlen h64 hp (by rw[hp.size_eq];exact hs) hf h
theorem sk_rest{f:Value}(Z:Two X pins kS D)(I:L2.Inv X ((kS,seqObj "list" #[] 0)::(D,seqObj "list" #[] e1)::pins) σ H s)(hlen:kz.length=vs.length)(h64:vs.length < 64)
 (turn:∀(i:Nat) (v:Value) (k:Int),vs[i]?=some v->kz[i]?=some k -> ∀(own:List (Addr×Obj)) (s':Shared),L2.Inv X (own++pins) σ H s'->wpAny (model X.prog X.w) A (call f [v]) (fun u s''=>(∃ t,u=.int k t)/\L2.Inv X (own++pins) σ H s'') (fun _ _=>False) s')
 (h:∀ s' out c,L2.Inv X ((D,seqObj "list" out c)::pins) σ H s'->KskOut false kz vs out.toList->PP (.done (.ret .none)) s') :
 wpAny (model X.prog X.w) A (ksk_rest D f false vs.toArray e1 (.ref kS)) PP E s:=by
 unfold ksk_rest;refine wpAny_bind (wpAny_rule ?_)
 first
  | rw[List.forIn_toArray]
  | (rw[← Array.forIn_toList];simp only[List.toList_toArray])
 refine wpAny_bind (ksk_fold (fun i s'=>∃(kA:Array Value) (e:Nat),L2.Inv X ((kS,seqObj "list" kA e)::(D,seqObj "list" #[] e1)::pins) σ H s'/\IntsAre kA.toList (kz.take i)) vs 0 s ⟨#[],0,I,by simpa using IntsAre.nil⟩ ?_ ?_)
 · rintro j x s' hx ⟨kA,e,I',hk⟩
   simp only[Nat.zero_add]at hk ⊢;have hj:j < vs.length:=(List.getElem?_eq_some_iff.mp hx).1;obtain⟨k,hkj⟩:∃ k,kz[j]?=some k:=⟨_,List.getElem?_eq_getElem (by omega)⟩
   have hz:kA.size<=vs.length:=by have h1:=hk.length;rw[Array.length_toList,List.length_take]at h1;omega
   refine wpAny_bind (wpAny_attempt (wpAny_mono (turn j x k hx hkj [(kS,seqObj "list" kA e),(D,seqObj "list" #[] e1)] s' I') (fun v s'' he=>?_) fun _ _ hF=>hF.elim));obtain⟨⟨t2,rfl⟩,I2⟩:=he;have I2:L2.Inv X ((kS,seqObj "list" kA e)::(D,seqObj "list" #[] e1)::pins) σ H s'':=I2
   try dsimp only
   have nk:s''.heap.get? kS=some (seqObj "list" kA e):=(I2.pin _ (List.mem_append_right _ List.mem_cons_self)).1;have s1:=Heap.SameBut.update s''.heap kS (Obj.mapSeq (·.push (.int k t2)));obtain⟨c2,hc2⟩:∃ c2,(s''.heap.update kS (Obj.mapSeq (·.push (.int k t2)))).get? kS=some (seqObj "list" (kA.push (.int k t2)) c2):=⟨_,get?_update_seq nk (·.push (.int k t2))⟩;have ek:kz.take (j+1)=kz.take j++[k]:=by rw[List.take_add_one,hkj];simp
   have ea:(kA.push (Value.int k t2)).toList=kA.toList++[Value.int k t2]:=by simp
   refine wpAny_bind (listUpdate_at (n:=e) nk rfl ?_ (by rw[sizeLine_eq];omega) (Nat.le_trans (Nat.le_of_eq (Array.size_push ..)) (by rw[sizeLine_eq];omega)))
   exact wpAny_pure ⟨rfl,kA.push (.int k t2),c2,Inv.pinSet (t:=s''.toks) I2 s1 hc2 (seq_nocell _ _ _) Z.k0 Z.pk',by rw[ea,ek];exact ksk_snoc hk⟩
 rintro s' ⟨kA,e,I',hk⟩;have hk':IntsAre kA.toList kz:=by
  rw[List.take_of_length_le (by omega)]at hk
  exact hk
 have nk:s'.heap.get? kS=some (seqObj "list" kA e):=(I'.pin _ (List.mem_append_right _ List.mem_cons_self)).1
 try dsimp only
 refine wpAny_bind (listItems_at (n:=e) nk rfl ?_);exact sk_end Z I' hk' hlen h64 h
theorem sk_sort{f:Value}{n:Nat}(I:L2.Inv X ((D,seqObj "list" vs.toArray n)::pins) σ H s)(h0:X.s₀.heap.objs.size<=D)(hpd:∀ p∈X.pn++pins,p.1≠D)(hlen:kz.length=vs.length)(h64:vs.length < 64)
 (turn:∀(i:Nat) (v:Value) (k:Int),vs[i]?=some v->kz[i]?=some k -> ∀(own:List (Addr×Obj)) (s':Shared),L2.Inv X (own++pins) σ H s'->wpAny (model X.prog X.w) A (call f [v]) (fun u s''=>(∃ t,u=.int k t)/\L2.Inv X (own++pins) σ H s'') (fun _ _=>False) s')
 (h:∀ s' out c,L2.Inv X ((D,seqObj "list" out c)::pins) σ H s'->KskOut false kz vs out.toList->PP (.done (.ret .none)) s') :
 wpAny (model X.prog X.w) A (ksk_tree D f false) PP E s:=by
 have nd:s.heap.get? D=some (seqObj "list" vs.toArray n):=(I.pin _ (List.mem_append_right _ List.mem_cons_self)).1;have s1:=Heap.SameBut.update s.heap D (Obj.mapSeq fun _=>(#[]:Array Value));obtain⟨e1,nd1⟩:∃ e1,(s.heap.update D (Obj.mapSeq fun _=>(#[]:Array Value))).get? D=some (seqObj "list" #[] e1):=⟨_,get?_update_seq nd fun _=>#[]⟩;have I1:=Inv.pinSet (t:=s.toks) I s1 nd1 (seq_nocell _ _ _) h0 hpd;have I2:=Inv.pinNew (o:=seqObj "tuple" vs.toArray 0) (t:=s.toks) I1 (seq_nocell _ _ _);have I2':=Inv.fewer (pins':=(D,seqObj "list" #[] e1)::pins) I2 fun p hp=>List.mem_cons_of_mem _ hp;have I3:=Inv.pinNew (o:=seqObj "list" #[] 0) (t:=s.toks) I2' (seq_nocell _ _ _);unfold ksk_tree;refine wpAny_bind (listItems_at (n:=n) nd rfl ?_);refine wpAny_bind (listUpdate_at (n:=n) nd rfl ?_ (by rw[List.size_toArray,sizeLine_eq];omega) (Nat.zero_le _))
 refine wpAny_bind (seqEpoch_at (n:=e1) nd1 rfl ?_);refine wpAny_bind (wpAny_newTuple ?_ (by show vs.length<=sizeLine;rw[sizeLine_eq];omega))
 refine wpAny_bind (wpAny_newList ?_ (Nat.zero_le sizeLine));refine wpAny_holding ?_;refine sk_rest ⟨?_,?_,h0,?_,hpd⟩ I3 hlen h64 turn h
 · exact Nat.ne_of_gt (Heap.lt_size (I2'.pin (D,_) (List.mem_append_right _ List.mem_cons_self)).1)
 · exact I2'.sz
 intro p hp;refine Nat.ne_of_lt (Heap.lt_size (I2'.pin p ?_).1);rcases List.mem_append.mp hp with z | z
 · exact List.mem_append_left _ z
 exact List.mem_append_right _ (List.mem_cons_of_mem _ z)
end
theorem sk_sorted{X:Cx}{pins:List (Addr×Obj)}{σ:L2.St}{H:Hp}{s:Shared}{l f:Addr}{vs:List Value}{kz:List Int}{A:Around}{E:Value->Shared->Prop}{Q:Value->Shared->Prop}(I:L2.Inv X pins σ H s)(hl:s.heap.IsList l vs.toArray)(hlen:kz.length=vs.length)(h64:vs.length < 64)
 (turn:∀(i:Nat) (v:Value) (k:Int),vs[i]?=some v->kz[i]?=some k -> ∀(own:List (Addr×Obj)) (s':Shared),L2.Inv X (own++pins) σ H s'->wpAny (model X.prog X.w) A.in1.in1 (call (.ref f) [v]) (fun u s''=>(∃ t,u=.int k t)/\L2.Inv X (own++pins) σ H s'') (fun _ _=>False) s')
 (h:∀ D s' out c,L2.Inv X ((D,seqObj "list" out c)::pins) σ H s'->X.s₀.heap.objs.size<=D->(∀ p∈X.pn++pins,p.1≠D)->KskOut false kz vs out.toList->Q (.ref D) s') :
 wpAny (model X.prog X.w) A (call (.builtin "sorted") [.ref l] [(Str.ofString "key",.ref f)]) Q E s:=by
 refine call_function_entry_kw kind_sorted plain_sorted entry_sorted (ksk_s1 _ _) ?_;unfold Builtin.«sorted»;refine wpAny_bind (m:=checkCount "sorted" 1 1 _) (wpAny_pure ?_);refine wpAny_bind (collect_list (s:=s) hl ?_ (by rw[sizeLine_eq];omega))
 refine wpAny_bind (wpAny_newList ?_ (show _<=sizeLine by rw[sizeLine_eq];omega))
 have hlt:∀ b o,s.heap.get? b=some o->((s.heap.push (seqObj "list" #[] 0)).update s.heap.objs.size (Obj.mapSeq (· ++ vs.toArray))).get? b=some o:=fun b o q=>by
  have hb:b < s.heap.objs.size:=Heap.lt_size q;rw[Heap.get?_update_ne _ _ _ _ (Nat.ne_of_lt hb),Heap.get?_push_ne _ _ _ (Nat.ne_of_lt hb)];exact q
 have I1:=I.kept (t':=s.toks) hlt;have I2:=Inv.pinNew (o:=seqObj "list" vs.toArray 0) (t:=s.toks) I1 (seq_nocell _ _ _);have hD:X.s₀.heap.objs.size<=((s.heap.push (seqObj "list" #[] 0)).update s.heap.objs.size (Obj.mapSeq (· ++ vs.toArray))).objs.size:=I1.sz;have hpd:∀ p∈X.pn++pins,p.1≠((s.heap.push (seqObj "list" #[] 0)).update s.heap.objs.size (Obj.mapSeq (· ++ vs.toArray))).objs.size:=fun p hp=>Nat.ne_of_lt (Heap.lt_size (I1.pin p hp).1);have nd:=(I2.pin _ (List.mem_append_right _ List.mem_cons_self)).1;generalize hDe:((s.heap.push (seqObj "list" #[] 0)).update s.heap.objs.size (Obj.mapSeq (· ++ vs.toArray))).objs.size=D at *;show wpAny _ _ _ _ _ { s with heap:=((s.heap.push (seqObj "list" #[] 0)).update s.heap.objs.size (Obj.mapSeq (· ++ vs.toArray))).push (seqObj "list" vs.toArray 0) };refine wpAny_bind (wpAny_holding (wpAny_call_entry_kw slot_list_sort ⟨_,nd,rfl⟩ entry_list_sort ?body (ksk_l1 _ _)))
 case body=>
  show wpAny (model X.prog X.w) A.in1.in1 (Builtin.«list.sort» ⟨[.ref D],[(Str.ofString "key",.ref f)]⟩) _ _ _;rw[ksk_t1 f D];refine sk_sort I2 hD hpd hlen h64 turn fun s' out c I' ko=>⟨_,rfl,?_⟩;exact wpAny_pure ⟨_,rfl,h D s' out c I' hD hpd ko⟩
structure LamK(K:W.Frag)(mg:Str->Option Value)(c P:Addr):Prop where
 hd:∀ h:Heap,K.In h->W.CodeHd h c P
 bm:∃(b:Addr) (ob:Obj),mg "__builtins__"=some (.ref b)/\b≠builtinsNs/\b≠mainGlobals/\K.lookup b=some ob/\ob.cls=.type "module" /\ ob.dict=some builtinsNs/\ob.data=.plain
noncomputable def lamT(pos:Pos)(c':Addr):Array Value:=#[rawInt pos.line,rawInt pos.col,.ref c']
noncomputable def codeO(qual:Str)(c':Addr):HO:=.ext fun h=>h.CodeRec (.ref c') qual
noncomputable def LamH(pos:Pos)(qual:Str)(H:Hp)(P:Addr):Prop:=H P=some (.tbl #[]) ∨ ∃ c',H P=some (.tbl (lamT pos c'))/\H c'=some (codeO qual c')
theorem codeO_ok{P:Program}{w:World}{H:Hp}{h:Heap}{qual:Str}{c':Addr}(x:h.CodeRec (.ref c') qual):ObjOk P w H h c' (codeO qual c'):=by
 refine⟨x,?_,fun h1 h2 y k=>?_⟩
 · obtain⟨c,o,vs,t,e,g,_⟩:=x
   cases e;exact⟨o,g⟩
 obtain⟨c,o,vs,t,e,g,r⟩:=y;cases e;exact⟨c',o,vs,t,rfl,k o g,r⟩
theorem lamT_ok(pos:Pos)(c':Addr):TriplesOk (lamT pos c').toList:=trivial
theorem lamT_hit(pos:Pos)(c':Addr):codeAmong pos (lamT pos c').toList=some (.ref c'):=by
 show(if((pos.line:Int) == (pos.line:Int) && (pos.col:Int) == (pos.col:Int))=true then some (Value.ref c')else _)=_;rw[if_pos (by simp)]
section
variable{X:Cx}{pins:List (Addr×Obj)}{σ:L2.St}{H:Hp}{s:Shared}{c P:Addr}{pos:Pos}{qual:Str}{params:Arguments}{body:Expr}{scope:Scope}{firstLine:Nat}{E:Value->Shared->Prop}{Q:Value->Shared->Prop}{A:Around}
theorem make_lam(I:L2.Inv X pins σ H s)(L:LamK X.K X.mg c P)(hcode:X.env.code=.ref c)(hg:LamH pos qual H P)(hcl:closureFor scope X.env=pure [])
 (h:∀ f H' s' pm ctv c',LamH pos qual H' P->KeepBut P H H'->(∀ b,H' b≠none->H b≠none∨s.heap.objs.size<=b)->L2.Inv X ((f,W.kla_obj "<lambda>" qual params body scope [] pm c' ctv)::pins) σ H' s'->H' c'=some (codeO qual c')->Q (.ref f) s') :
 wpAny (model X.prog X.w) A (makeFunction "<lambda>" qual params (.expr body) scope X.env [] [] [] pos firstLine) Q E s:=by
 have hP:H P≠none:=by
  rcases hg with z | ⟨c',z,_⟩
  · rw[z];simp
  rw[z];simp
 have hgl:s.heap.Ns mainGlobals X.mg:=I.ok.mod.glob.keeps I.bk;have ngP:mainGlobals≠P:=fun z=>by
  obtain⟨o,es,ep,e1,_⟩:=I.ok.mod.glob;exact hP (z ▸ (I.bs _ _ e1).2)
 obtain⟨b,ob,b1,b2,b3,b4,b5,b6,b7⟩:=L.bm;have nbP:b≠P:=fun z=>hP (z ▸ (I.bs _ _ (I.ok.mod.kin _ _ b4)).2);have hB:s.heap.BuiltinsAt X.mg P:=⟨b,ob,b1,b2,b3,nbP,I.kIn _ _ b4,b5,b6,b7⟩;have nocell:∀ pm (c':Addr) ctv v,(W.kla_obj "<lambda>" qual params body scope [] pm c' ctv).data ≠ .cell v:=fun pm c' ctv v z=>by cases z
 rcases hg with z | ⟨c',z,zc⟩
 · have hp:s.heap.get? P=some (W.tabObj #[]):=I.hok P _ z
   refine W.kla_makeFunction hcl I.ok.glob hgl hcode (L.hd _ I.kIn) hp trivial rfl ngP hB fun c' ctv h' tk hx hge hlt hrec htb=>?_;have htb:h'.get? P=some (W.tabObj (lamT pos c')):=htb;have hc':H c'=none:=I.hok.fresh hge;have ncP:c'≠P:=fun y=>hP (y ▸ hc');have old:∀ b o,s.heap.get? b=some o->b≠c':=fun b o e=>Nat.ne_of_lt (Nat.lt_of_lt_of_le (Heap.lt_size e) hge);have at_:∀ b,b≠P->b≠c'->upd (upd H P (.tbl (lamT pos c'))) c' (codeO qual c') b=H b:=fun b n1 n2=>by rw[upd_ne n2,upd_ne n1]
   have hPn:upd (upd H P (.tbl (lamT pos c'))) c' (codeO qual c') P=some (.tbl (lamT pos c')):=by rw[upd_ne ncP.symm,upd_same]
   have ne_of:∀ b u,H b=some u->b≠c':=fun b u e=>ne_of_none e hc';have un:Un X.fs [] H (upd (upd H P (.tbl (lamT pos c'))) c' (codeO qual c')) s.heap h':=by
    refine⟨fun b o e n _ _=>hx b o (fun y=>hP (y ▸ n)) e,fun b o e n _ _=>⟨o.slots,hx b o (fun y=>hP (y ▸ n)) e⟩,fun b o e n _=>?_,fun b o e _=>?_,fun b xs e=>?_,fun b o u e=>?_,fun b ps e=>?_⟩
    · rw[at_ b (fun y=>hP (y ▸ n)) (old b o e)];exact n
    · by_cases y:b=P
      · exact⟨_,y ▸ htb⟩
      exact⟨o,hx b o y e⟩
    · rw[at_ b (fun y=>by rw[y,z]at e;cases e) (ne_of b _ e)];exact e
    · rw[at_ b (fun y=>by rw[y,z]at e;cases e) (ne_of b _ e)];exact e
    by_cases y:b=P
    · subst y
      rw[z]at e;cases e;exact⟨lamT pos c',by rw[hPn];simp⟩
    exact⟨#[],by rw[at_ b y (ne_of b _ e),e];simp⟩
   have hok:HOk X.prog X.w (upd (upd H P (.tbl (lamT pos c'))) c' (codeO qual c')) h':=fun b u e=>by
    by_cases y1:b=c'
    · subst y1
      rw[upd_same]at e;cases e;exact codeO_ok hrec
    by_cases y2:b=P
    · subst y2
      rw[hPn]at e;cases e;exact htb
    rw[at_ b y2 y1]at e;refine(I.hok b u e).stay (fun d v hd q=>hx d v ?_ q) (fun d q=>?_) fun d xs q=>?_
    · rcases hd with rfl | hd
      · exact y2
      intro y;rw[y,z]at hd;cases hd
    · rw[at_ d (fun y=>by rw[y,z]at q;cases q) (ne_of d _ q)];exact q
    rw[at_ d (fun y=>by rw[y,z]at q;cases q) (ne_of d _ q)];exact q
   have I1:=I.un (t':=tk) un hok;have I2:=Inv.pinNew (o:=W.kla_obj "<lambda>" qual params body scope [] ((X.mg "__name__").getD .none) c' ctv) (t:=tk) I1 (nocell _ _ _);refine h _ _ _ _ ctv c' (.inr ⟨c',hPn,upd_same⟩) (fun b o n e=>by rw[at_ b n (ne_of b _ e)];exact e) (fun b hb=>?_) I2 upd_same
   by_cases y1:b=c'
   · exact .inr (y1 ▸ hge)
   by_cases y2:b=P
   · exact .inl (y2 ▸ hP)
   rw[at_ b y2 y1]at hb;exact .inl hb
 have hp:s.heap.get? P=some (W.tabObj (lamT pos c')):=I.hok P _ z;refine W.kla_makeFunctionHit hcl I.ok.glob hgl hcode (L.hd _ I.kIn) hp (lamT_ok pos c') (lamT_hit pos c') hB fun ctv h' tk hk _=>?_;have I1:=I.kept (t':=tk) hk;have I2:=Inv.pinNew (o:=W.kla_obj "<lambda>" qual params body scope [] ((X.mg "__name__").getD .none) c' ctv) (t:=tk) I1 (nocell _ _ _);exact h _ _ _ _ ctv c' (.inr ⟨c',z,zc⟩) (fun b o _ e=>e) (fun b hb=>.inl hb) I2 zc
end
noncomputable def wo(K:W.Frag)(P:Addr):W.Frag:=K.filter fun p=>p.1 != P
theorem wo_self{P:Addr}:∀{K:W.Frag},(wo K P).lookup P=none
 | []=>rfl
 | (a,o)::K=>by
   unfold wo;by_cases h:a=P
   · subst h
     rw[List.filter_cons_of_neg (by simp)]
     exact wo_self
   rw[List.filter_cons_of_pos (by simpa using h),List.lookup_cons,beq_eq_false_iff_ne.mpr (Ne.symm h)]
   exact wo_self
theorem wo_ne{P b:Addr}(h:b≠P):∀{K:W.Frag},(wo K P).lookup b=K.lookup b
 | []=>rfl
 | (a,o)::K=>by
   unfold wo;by_cases ha:a=P
   · subst ha
     rw[List.filter_cons_of_neg (by simp),List.lookup_cons,beq_eq_false_iff_ne.mpr h]
     exact wo_ne h
   rw[List.filter_cons_of_pos (by simpa using ha),List.lookup_cons,List.lookup_cons]
   cases b == a with
   | true=>rfl
   | false=>exact wo_ne h
section
variable{K:W.Frag}{P:Addr}
theorem wo_sub{b:Addr}{o:Obj}(e:(wo K P).lookup b=some o):K.lookup b=some o:=by
 by_cases h:b=P
 · rw[h,wo_self]at e;cases e
 rw[wo_ne h]at e;exact e
theorem wo_In{h:Heap}(X:K.In h):(wo K P).In h:=fun b o e=>X b o (wo_sub e)
variable(hP:K.lookup P=some (W.tabObj #[]))
include hP
theorem wo_lk{b:Addr}{o:Obj}(e:K.lookup b=some o)(n:o.data ≠ .fields #[]):(wo K P).lookup b=some o:=by
 by_cases h:b=P
 · subst h
   rw[hP]at e;cases e;exact absurd rfl n
 rw[wo_ne h];exact e
theorem wo_nsIn{a:Addr}{x:Str}:W.nsIn (wo K P) a x=W.nsIn K a x:=by
 unfold W.nsIn;by_cases h:a=P
 · rw[h,wo_self,hP]
 rw[wo_ne h]
theorem wo_ownIn{x:Str}(v:Value):W.ownIn (wo K P) x v=W.ownIn K x v:=by
 cases v with
 | ref a=>
   unfold W.ownIn;by_cases h:a=P
   · dsimp only;rw[h,wo_self,hP]
   dsimp only;rw[wo_ne h]
   split
   · exact wo_nsIn hP
   rfl
 | _=>rfl
theorem wo_alongIn{x:Str}:∀ l:List Value,W.alongIn (wo K P) x l=W.alongIn K x l
 | []=>rfl
 | c::r=>by
   unfold W.alongIn;rw[wo_ownIn hP,wo_alongIn r]
theorem wo_findIn{t:Value}{x:Str}:W.findIn (wo K P) t x=W.findIn K t x:=by
 cases t with
 | ref a=>
   unfold W.findIn;by_cases h:a=P
   · dsimp only;rw[h,wo_self,hP]
   dsimp only;rw[wo_ne h]
   split
   · exact wo_alongIn hP _
   rfl
 | _=>rfl
theorem wo_clsIn{C:Addr}:W.clsIn (wo K P) C=W.clsIn K C:=by
 unfold W.clsIn;by_cases h:C=P
 · rw[h,wo_self,hP]
 rw[wo_ne h]
theorem wo_hasDictIn{C:Addr}:W.hasDictIn (wo K P) C=W.hasDictIn K C:=by unfold W.hasDictIn;rw[wo_clsIn hP]
theorem wo_plainOver{C:Addr}:W.plainOver (wo K P) C=W.plainOver K C:=by unfold W.plainOver;rw[wo_clsIn hP]
theorem wo_plainGet{C:Addr}{x:Str}:W.plainGet (wo K P) C x=W.plainGet K C x:=by unfold W.plainGet;rw[wo_findIn hP,wo_findIn hP]
theorem wo_typeIn{v t:Value}(n:t ≠ .none)(e:W.typeIn K v=some t):W.typeIn (wo K P) v=some t:=by
 cases v with
 | ref a=>
   unfold W.typeIn at e ⊢
   dsimp only at e ⊢
   by_cases h:a=P
   · rw[h,hP]at e
     cases e;exact absurd rfl n
   rw[wo_ne h];exact e
 | _=>exact e
theorem wo_isFn{v:Value}(e:W.isFn K v=true):W.isFn (wo K P) v=true:=by
 unfold W.isFn at e ⊢;exact beq_iff_eq.mpr (wo_typeIn hP (fun z=>by cases z) (beq_iff_eq.mp e))
theorem wo_specialIn{v:Value}{x:Str}{r:Value}(e:W.specialIn K v x=some (some r)):W.specialIn (wo K P) v x=some (some r):=by
 unfold W.specialIn at e ⊢;obtain⟨t,h1,h2⟩:=Option.bind_eq_some_iff.mp e;refine Option.bind_eq_some_iff.mpr ⟨t,wo_typeIn hP (fun z=>?_) h1,?_⟩
 · subst z;cases h2
 rw[wo_findIn hP];exact h2
theorem wo_keepIn{v:Value}(e:W.keepIn K v=true):W.keepIn (wo K P) v=true:=by
 cases v with
 | ref a=>
   unfold W.keepIn at e ⊢
   dsimp only at e ⊢
   by_cases h:a=P
   · rw[h,hP]at e;cases e
   rw[wo_ne h];split at e
   · rfl
   · exact beq_iff_eq.mpr (wo_specialIn hP (beq_iff_eq.mp e))
   cases e
 | _=>cases e
theorem wo_subIn{t b:Value}:W.subIn (wo K P) t b=W.subIn K t b:=by
 unfold W.subIn;split
 · rfl
 · unfold W.mroIn;rw[wo_clsIn hP]
 rfl
theorem wo_instIn{v b:Value}{r:Bool}(e:W.instIn K v b=some r):W.instIn (wo K P) v b=some r:=by
 unfold W.instIn at e ⊢;obtain⟨t,h1,h2⟩:=Option.bind_eq_some_iff.mp e;refine Option.bind_eq_some_iff.mpr ⟨t,wo_typeIn hP (fun z=>?_) h1,?_⟩
 · subst z;cases h2
 rw[wo_subIn hP];exact h2
theorem wo_makesIn{C:Addr}(e:W.makesIn K C=true):W.makesIn (wo K P) C=true:=by
 unfold W.makesIn at e ⊢;by_cases h:C=P
 · rw[h,hP]at e;cases e
 rw[wo_ne h];split at e
 · simp only[Bool.and_eq_true,beq_iff_eq]at e ⊢
   exact⟨⟨e.1.1,wo_specialIn hP e.1.2⟩,wo_instIn hP e.2⟩
 cases e
theorem wo_codeIn{c:Value}{q:Str}(e:W.codeIn K c q=true):W.codeIn (wo K P) c q=true:=by
 unfold W.codeIn at e ⊢;split at e
 · rename_i a
   by_cases h:a=P
   · rw[h,hP]at e
     cases e
   rw[wo_ne h];exact e
 cases e
theorem Fun.wo{x qual:Str}{st:Stmt}{f:Addr}{fd:FuncData}(F:Fun K x qual st f fd):Fun (SW.wo K P) x qual st f fd:=by
 obtain⟨oc,od,kV,doc,pm,an,cdv,ct,osl,e1,e2,e3⟩:=F.ex;exact⟨⟨oc,od,kV,doc,pm,an,cdv,ct,osl,e1,wo_lk hP e2 (fun z=>by cases z),wo_codeIn hP e3⟩,wo_keepIn hP F.kp⟩
end
theorem law_callT{Pg:Program}{w:World}{K:W.Frag}{mg mb:Str->Option Value}{CX:CXT}{k:Nat}{fa a c P:Addr}{fd:FuncData}{x:Str}{sp:Sp}{s₁:Shared}{vs:List Value}{ns:List Int}
 (KX:K.In s₁.heap) (hKP:K.lookup P=none) (hc:W.CodeHd s₁.heap c P) (hP:s₁.heap.get? P=some (W.tabObj #[]))
 (hns:s₁.heap.Ns mainGlobals mg) (hb:s₁.heap.Ns builtinsNs mb) (hbb:∀ x:Str,x ≠ "__name__" -> mb x=bootBuiltins x) (hlim:s₁.heap.NoLimit) (hg:s₁.gens=#[])
 (ha:s₁.heap.get? a=some { cls:=.type "list",data:=.seq vs.toArray }) (hi:IntsAre vs ns) (hl:ns.length<=sizeLine) (hr:Room k callerA)
 (F:∀ base:Heap,K.In base->base.Ns mainGlobals mg->FnOk Pg w K mg base CX k fa fd [x] sp) (hbind:∀(s:Shared) (u:Value),BindsTo s fd ⟨[u],[]⟩ [(x,u)])
 (hsp:∀ H:Hp,H P=some (.tbl #[])->SqL K H a (ns.map V.int)->sp [.ref a] H (fun v _=>v=.bl true) fun _ _ _=>False)
 (hCX:∀ H e s',CX [] H s₁ (fun _ _ _=>False) e s'->False) :
 codeAny (model Pg w) callerA (.call (.ref fa) ⟨[.ref a],[]⟩) (fun r s'=>r=.ok (.ret (.bool true))/\OldK s₁.heap s'.heap/\s'.os=s₁.os/\AllBare s'.gens) s₁:=by
 have rv:=vals_ints hi;have lenV:=hi.length;have naP:a≠P:=fun z=>by rw[z,hP]at ha;cases ha
 have core:∀ H:Hp,H P=some (.tbl #[])->(∀ b,b≠P->H b=none ∨ ∃ o xs,H b=some (.frz o (.lst xs)))->SqL K H a (ns.map V.int)->HOk Pg w H s₁.heap->(∀ b,b≠P->H b≠none->b=a)->(H a≠none->K.lookup a=none) ->
  codeAny (model Pg w) callerA (.call (.ref fa) ⟨[.ref a],[]⟩) (fun r s'=>r=.ok (.ret (.bool true))/\OldK s₁.heap s'.heap/\s'.os=s₁.os/\AllBare s'.gens) s₁:=by
  intro H hHP hO hS hok hA hK;have base_of:∀{b:Addr}{o:Obj},s₁.heap.get? b=some o->H b=none->(hidT s₁.heap H).get? b=some o:=fun e n=>hidT_get e n;have noA:∀{b:Addr}{o:Obj}{es:Array DictEntry}{ep:Nat},s₁.heap.get? b=some o->o.data=.dict es ep->H b=none:=fun {b o es ep} e d=>by
   by_cases z:b=P
   · subst z
     rw[hP]at e;cases e;cases d
   cases q:H b with
   | none=>rfl
   | some u=>
     have e':b=a:=hA b z (by rw[q];simp)
     subst e';rw[ha]at e;cases e;have d':Data.seq vs.toArray _=Data.dict es ep:=d;cases d'
  have nsK:∀{b:Addr}{m:Str->Option Value},s₁.heap.Ns b m->(hidT s₁.heap H).Ns b m:=fun {b m} ⟨o,es,ep,e,d,r⟩=>⟨o,es,ep,base_of e (noA e d),d,r⟩;have hKb:K.In (hidT s₁.heap H):=fun b o e=>base_of (KX b o e) (by
   by_cases z:b=P
   · rw[z,hKP]at e;cases e
   cases q:H b with
   | none=>rfl
   | some u=>
     have e':b=a:=hA b z (by rw[q];simp)
     subst e';rw[hK (by rw[q];simp)]at e;cases e)
  have hM:Mod K mg (hidT s₁.heap H):=⟨hKb,nsK hns,⟨mb,nsK hb,hbb⟩,let⟨mc,h1,h2⟩:=hlim;⟨mc,nsK h1,h2⟩⟩;have e0:Env0 Pg w K mg (hidT s₁.heap H) callerA [] s₁ H:=⟨rfl,hM,fun b o e=>of_hidT e,Nat.le_of_eq (hidT_size _ _),trivial,fun b hb=>absurd (show b∈([]:List Addr)from hb) (by simp),hok,.of_eq hg⟩
  refine codeAny_mono ((F _ hKb (nsK hns)).run callerA [] s₁ H ⟨[.ref a],[]⟩ [.ref a] [.ref a] _ _ hr e0 (hbind s₁ (.ref a)) (.cons rfl .nil) (hsp H hHP hS)) fun r s' h=>?_;cases r with
  | error e=>exact(hCX H e s' h).elim
  | ok fl=>
    cases fl with
    | next=>exact False.elim h
    | brk=>exact False.elim h
    | cont=>exact False.elim h
    | ret u=>
      obtain⟨v,H',os,bare,un,hok',r',q⟩:=h;have q':v=.bl true:=q;subst q';obtain rfl:u=Value.bool true:=r';refine⟨rfl,⟨fun b o e=>?_,fun b o e=>un.there b o e (by simp)⟩,os,bare⟩
      by_cases z:b=P
      · subst z
        rw[hP]at e;cases e;obtain⟨more,e2⟩:=un.tbls b _ hHP;have e3:s'.heap.get? b=some (W.tabObj (#[]++more)):=hok' b _ e2;exact .inr (.inl ⟨(hc.tab hP).isCodeTable,rfl,#[],more,rfl,e3⟩)
      refine .inl ?_;cases q:H b with
      | none=>exact un.keep b o e q (by intro z;exact absurd (show b∈([]:List Addr)from z) (by simp)) (by simp)
      | some u=>
        rcases hO b z with z | ⟨ob,xs,z⟩
        · rw[q]at z;cases z
        have z2:=un.frzs b ob _ z;obtain⟨e1,_⟩:=hok b _ z;obtain⟨e2,_⟩:=hok' b _ z2;rw[e]at e1;cases e1;exact e2
 cases hk:K.lookup a with
 | some o=>
   have e:=KX a o hk;rw[ha]at e;cases e;refine core (fun b=>if b=P then some (.tbl #[])else none) (if_pos rfl) (fun b z=>.inl (if_neg z)) (.inr ⟨_,vs.toArray,_,hk,rfl,rfl,rfl,by rw[List.size_toArray,lenV];exact hl,by simpa using rv⟩) (fun b u z=>?_) (fun b n z=>absurd (if_neg n) z) fun z=>absurd (if_neg naP) z
   by_cases hb:b=P
   · have z':=(if_pos hb).symm.trans z
     cases z';subst hb;exact hP
   have z':=(if_neg hb).symm.trans z;cases z'
 | none=>
   refine core (upd (fun b=>if b=a then some (.frz { cls:=.type "list",data:=.seq vs.toArray } (.lst (ns.map V.int)))else none) P (.tbl #[])) upd_same (fun b n=>?_) (.inl (.inr ⟨{ cls:=.type "list",data:=.seq vs.toArray },by rw[upd_ne naP];exact if_pos rfl⟩)) (fun b u z=>?_) (fun b n z=>?_) fun _=>hk
   · rw[upd_ne n]
     by_cases hb:b=a
     · exact .inr ⟨_,_,if_pos hb⟩
     exact .inl (if_neg hb)
   · by_cases hb:b=P
     · subst hb
       rw[upd_same]at z;cases z;exact hP
     rw[upd_ne hb]at z;by_cases hb:b=a
     · have z':=(if_pos hb).symm.trans z
       cases z';subst hb;exact⟨ha,by rw[List.length_map];exact hl,vs,_,rv,ha⟩
     have z':=(if_neg hb).symm.trans z;cases z'
   rw[upd_ne n]at z;by_cases hb:b=a
   · exact hb
   exact absurd (if_neg hb) z
theorem lam_run{P:Program}{w:World}{K:W.Frag}{mg:Str->Option Value}{base:Heap}{A:Around}{outer:List Env}{s:Shared}{H:Hp}{k:Nat}{f c':Addr}{qual:Str}{params:Arguments}{body:Expr}{scope:Scope}{pm ctv:Value}{N ps:List Str}{us:List Value}{vs:List V}{Q:VK}{E:XK}{t:TE}
 (e0:Env0 P w K mg base A outer s H) (hr:Room (k+1) A) (ho:s.heap.get? f=some (W.kla_obj "<lambda>" qual params body scope [] pm c' ctv)) (hc:H c'=some (codeO qual c')) (S:FnScope N ps scope)
 (hb:bindArgs (W.kla_fn "<lambda>" qual params body scope [] pm (.ref c') ctv) ⟨us,[]⟩=pure (ps.zip us)) (hl:vs.length=ps.length) (r:Vals vs us)
 (ht:PE (cxOf CX0 P w K mg base N qual scope f (.ref c') A outer s H E).nox body t) (hq:t (start N vs) H Q) :
 codeAny (model P w) A (.call (.ref f) ⟨us,[]⟩) (CR CX0 outer P w H s Q E) s:=by
 have KX:K.In s.heap:=e0.mod.kin.keeps fun b o e=>(e0.bs b o e).1;have lim:s.heap.NoLimit:=e0.mod.nolimit.keeps fun b o e=>(e0.bs b o e).1;have hkind:∀ y∈ps.zip us,scope.names.lookup y.1=some .local∨(scope.names.lookup y.1=some .cell/\((cellsFrom (s.heap.objs.size+1) scope.names []).lookup y.1).isSome=true):=fun⟨n,v⟩ hy=>by
  rcases S.par n (List.of_mem_zip hy).1 with q | q
  · exact .inl q
  exact .inr ⟨q,W.cellsFrom_some _ _ _ (.inl q)⟩
 refine W.kla_callFunE hr.depth ho rfl S.co S.gen rfl (e0.hok c' _ hc).1 ?_;rw[hb];refine wpAny_pure ?_;refine wpAny_newFunctionEnv_cells S.kind hkind fun env he s1 x=>?_;subst he;refine⟨lim.keeps x.toInCall.keep,W.kla_codeExpr ?_⟩;have I:L2.Inv (cxOf CX0 P w K mg base N qual scope f (.ref c') A outer s H E) [] (start N vs) H s1:=inv_start S hr.hd e0 hl r x;refine wpAny_mono (ht [] s1 (start N vs) H _ (I.wish _) hq) (fun u s' hs=>?_) fun e s' hs=>False.elim hs;obtain⟨v,H',J,rv,q⟩:=hs;exact⟨v,H',J.os,J.bare,J.base,J.hok,rv,q⟩
theorem Inv.trk{X:Cx}{pins:List (Addr×Obj)}{σ:L2.St}{H:Hp}{s:Shared}{D:Addr}{out:Array Value}{c:Nat}{xs:List V}(I:L2.Inv X ((D,seqObj "list" out c)::pins) σ H s)(h0:X.s₀.heap.objs.size<=D)(hp:∀ p∈X.pn++pins,p.1≠D)
 (hl:xs.length<=sizeLine) (r:Vals xs out.toList):L2.Inv X pins σ (upd H D (.lst xs)) s:=by
 obtain⟨e1,e2,e3,e4,e5⟩:=I.pin (D,seqObj "list" out c) (List.mem_append_right _ List.mem_cons_self);have e1:s.heap.get? D=some (seqObj "list" out c):=e1;have e2:H D=none:=e2;have I0:L2.Inv X pins σ H s:=Inv.fewer I fun p hp=>List.mem_cons_of_mem _ hp;refine I0.step (g':=s.gens) (d':=s.drawn) (t':=s.toks) (h':=s.heap) (ch:=[D]) (fun b hb=>?_) (fun b o _ _ _ e _=>e) (fun b o _ _ _ e _=>⟨o.slots,e⟩) (fun b o hb e n=>?_) (fun b o _ e=>⟨o,e⟩) (fun b xs e=>?_) (fun b o u e=>?_) (fun b ps e=>?_) (fun m h=>h) (fun b u e=>?_) I0.bare
 · obtain rfl:b=D:=by simpa using hb
   refine⟨.inr h0,e3,fun x cc e z=>?_,hp⟩;obtain⟨v,oc,h1,h2⟩:=I0.cell x cc e;rw[z,e1]at h1;cases h1;exact e5 v h2
 · rw[upd_ne (fun z=>hb (by simp[z]))];exact n
 · rw[upd_ne (ne_of_none e e2)];exact e
 · rw[upd_ne (ne_of_none e e2)];exact e
 · exact⟨#[],by rw[upd_ne (ne_of_none e e2),e];simp⟩
 by_cases z:b=D
 · subst z
   rw[upd_same]at e;cases e;exact⟨hl,out.toList,c,r,by simpa [seqObj] using e1⟩
 rw[upd_ne z]at e;refine(I0.hok b u e).stay (fun d v _ q=>q) (fun d q=>?_) fun d xs q=>?_
 · rw[upd_ne (ne_of_none q e2)];exact q
 rw[upd_ne (ne_of_none q e2)];exact q
noncomputable def Srt(kz:List Int)(vs out:List V):Prop:=∃ ps:List (Int×V),ps.Perm (kz.zip vs)/\out=ps.map Prod.snd/\ps.Pairwise fun p q=>p.1<=q.1
theorem perm_rel{α β:Type}{R:α -> β -> Prop}{l l':List β}(h:l.Perm l'):∀{m':List α},Paired R m' l' -> ∃ m,m.Perm m'/\Paired R m l:=by
 induction h with
 | nil=>intro m' q;cases q;exact⟨[],.nil,.nil⟩
 | cons x _ ih=>
   intro m' q;cases q with
   | cons a b=>
     obtain⟨m,h1,h2⟩:=ih b;exact⟨_::m,h1.cons _,.cons a h2⟩
 | swap x y l=>
   intro m' q;cases q with
   | cons a b=>
     cases b with
     | cons c d=>exact⟨_::_::_,.swap _ _ _,.cons c (.cons a d)⟩
 | trans h1 h2 i1 i2=>
   intro m' q;obtain⟨m,p1,p2⟩:=i2 q;obtain⟨n,p3,p4⟩:=i1 p2;exact⟨n,p3.trans p1,p4⟩
noncomputable def RelK(p:Int×V)(q:Int×Value):Prop:=p.1=q.1/\RelV p.2 q.2
theorem zip_rel:∀{kz:List Int}{vs:List V}{us:List Value},Vals vs us->Paired RelK (kz.zip vs) (kz.zip us)
 | [],_,_,_=>by simp;exact .nil
 | _::_,_,_,.nil=>.nil
 | k::kz,_,_,.cons a b=>.cons ⟨rfl,a⟩ (zip_rel b)
theorem snd_rel:∀{ps:List (Int×V)}{qs:List (Int×Value)},Paired RelK ps qs->Vals (ps.map Prod.snd) (qs.map Prod.snd)
 | _,_,.nil=>.nil
 | _,_,.cons a b=>.cons a.2 (snd_rel b)
theorem fst_rel:∀{ps:List (Int×V)}{qs:List (Int×Value)},Paired RelK ps qs->ps.map Prod.fst=qs.map Prod.fst
 | _,_,.nil=>rfl
 | _,_,.cons a b=>by rw[List.map_cons,List.map_cons,a.1,fst_rel b]
theorem pw_fst{α:Type}{ps:List (Int × α)}:(ps.Pairwise fun p q=>p.1<=q.1) ↔ (ps.map Prod.fst).Pairwise (· <= ·):=by rw[List.pairwise_map]
theorem Srt.of{kz:List Int}{vs:List V}{us out:List Value}(r:Vals vs us)(h:KskOut false kz us out):∃ xs,Srt kz vs xs/\Vals xs out:=by
 obtain⟨ps,h1,rfl,h3⟩:=h;obtain⟨qs,p1,p2⟩:=perm_rel h1 (zip_rel (kz:=kz) r);refine⟨qs.map Prod.snd,⟨qs,p1,rfl,?_⟩,snd_rel p2⟩;have h3:ps.Pairwise fun p q=>p.1<=q.1:=by simpa using h3
 exact pw_fst.mpr (fst_rel p2 ▸ pw_fst.mp h3)
theorem Srt.len{kz:List Int}{vs out:List V}(hl:kz.length=vs.length)(h:Srt kz vs out):out.length=vs.length:=by
 obtain⟨ps,h1,rfl,_⟩:=h;rw[List.length_map,h1.length_eq,List.length_zip,hl,Nat.min_self]
theorem Srt.one{k:Int}{v:V}{out:List V}(h:Srt [k] [v] out):out=[v]:=by
 obtain⟨ps,h1,rfl,_⟩:=h;have:ps=[(k,v)]:=List.perm_singleton.mp h1;rw[this];rfl
theorem Srt.two{k l:Int}{v w:V}{out:List V}(h:Srt [k,l] [v,w] out)(hn:k≠l):(k < l/\out=[v,w])∨(l < k/\out=[w,v]):=by
 obtain⟨ps,h1,rfl,h3⟩:=h;rcases ksk_perm2 h1 with rfl | rfl
 · have:=List.rel_of_pairwise_cons h3 (by simp:(l,w)∈[(l,w)])
   exact .inl ⟨by dsimp only at this;omega,rfl⟩
 have:=List.rel_of_pairwise_cons h3 (by simp:(k,v)∈[(k,v)])
 exact .inr ⟨by dsimp only at this;omega,rfl⟩
theorem vals_get:∀{xs:List V}{us:List Value}{i:Nat}{u:Value},Vals xs us->us[i]?=some u -> ∃ x,xs[i]?=some x/\RelV x u
 | _,_,_,_,.nil,h=>by simp at h
 | _,_,0,_,.cons a _,h=>by simp at h;subst h;exact⟨_,rfl,a⟩
 | _,_,i+1,_,.cons _ b,h=>by
   obtain⟨x,h1,h2⟩:=vals_get (i:=i) b (by simpa using h)
   exact⟨x,by simpa using h1,h2⟩
noncomputable def tSortK(P:Addr)(pos:Pos)(qual:Str)(N:List Str)(tl tb:TE):TE:=fun σ H Q=>tl σ H fun x H1=>∃(a:Addr) (vs:List V) (kz:List Int),[x]=[V.ref a]/\H1 a=some (.lst vs)/\kz.length=vs.length/\vs.length < 64/\LamH pos qual H1 P /\
 ∀ H2,LamH pos qual H2 P->KeepBut P H1 H2->(∀(i:Nat) v k,vs[i]?=some v->kz[i]?=some k->tb (start N [v]) H2 fun u H3=>u=.int k/\H3=H2) /\ ∀ D out,H2 D=none->Srt kz vs out->Q (.ref D) (upd H2 D (.lst out))
theorem pe_sortK{X:Cx}{e:Expr}{tl tb:TE}{params:Arguments}{body:Expr}{scope:Scope}{c P:Addr}{lp kp p pos:Pos}{x:Str}{k:Nat}
 (hg:Gl X "sorted") (hm:X.mg "sorted"=none) (L:LamK X.K X.mg c P) (hcode:X.env.code=.ref c) (hr:Room (k+3) X.A) (S:FnScope [x] [x] scope) (he:PE X e tl)
 (hb:∀(f c':Addr) (A:Around) (outer:List Env) (s:Shared) (H:Hp) (E:XK),Room k (A.deeper (envOfC (X.env.qual ++ "<lambda>") scope s.heap.objs.size f (.ref c')))->PE (cxOf CX0 X.prog X.w X.K X.mg X.base [x] (X.env.qual ++ "<lambda>") scope f (.ref c') A outer s H E).nox body tb)
 (hbind:∀(qual:Str) (pm:Value) (c':Addr) (ctv u:Value),bindArgs (W.kla_fn "<lambda>" qual params body scope [] pm (.ref c') ctv) ⟨[u],[]⟩=pure ([x].zip [u]):=by intros;rfl)
 (hcl:closureFor scope X.env=pure []:=by rfl) (hdef:defaultsOf params X.env=([],[]):=by rfl)
 (hse:starEach [e] X.env=(false,eval e X.env)::starEach [] X.env:=by rfl) :
 PE X (.Call (.Name "sorted" p) [e] [⟨some "key",.Lambda params body scope lp,kp⟩] pos) (tSortK P lp (X.env.qual ++ "<lambda>") [x] tl tb):=by
 intro pins s σ H Q I h;refine wpAny_Call_Name_kw (ld_blt I hg hm b_sorted ?_);have ha:PA X [e] (tCons tl tNil):=pa_cons he pa_nil hse;refine callWith_kw (he:=by rw[hse];rfl) (hplain:=by rw[hse];rfl) (thn (ha pos pins s σ H (fun ws H1=>∃(a:Addr) (vs:List V) (kz:List Int),ws=[V.ref a]/\H1 a=some (.lst vs)/\kz.length=vs.length/\vs.length < 64/\LamH lp (X.env.qual ++ "<lambda>") H1 P /\
  ∀ H2,LamH lp (X.env.qual ++ "<lambda>") H2 P->KeepBut P H1 H2->(∀(i:Nat) v k,vs[i]?=some v->kz[i]?=some k->tb (start [x] [v]) H2 fun u H3=>u=.int k/\H3=H2) /\ ∀ D out,H2 D=none->Srt kz vs out->Q (.ref D) (upd H2 D (.lst out))) I h)
  fun us s1 ⟨ws,H1,I1,r,a,vs,kz,e1,ha,hlen,h64,hL,q⟩=>?_)
 subst e1;cases r with
 | cons ra rn=>
   cases rn;obtain rfl:=ra;refine kws_cons (W.kla_eval hdef (make_lam I1 L hcode hL hcl fun f H2 s2 pm ctv c' hL2 kb _ I2 hc'=>kws_nil ?_));obtain⟨q1,q2⟩:=q H2 hL2 kb;have nP:a≠P:=fun z=>by
    rw[z]at ha;rcases hL with y | ⟨_,y,_⟩ <;> rw[ha]at y <;> cases y
   have ha2:H2 a=some (.lst vs):=kb a _ nP ha;obtain⟨_,its,n,rv,hget⟩:=I2.hok a _ ha2;have hlen2:kz.length=its.length:=by rw[hlen,rv.length]
   show wpAny (model X.prog X.w) X.A (call (.builtin "sorted") [.ref a] [(Str.ofString "key",.ref f)]) _ _ _;refine sk_sorted (vs:=its) (kz:=kz) I2 ⟨_,hget,rfl,n,rfl⟩ hlen2 (by rw[← rv.length];exact h64) (fun i u k' hu hk own s' I'=>?_) fun D s' out c I' h0 hp ko=>?_
   · obtain⟨v,hv,rvu⟩:=vals_get rv hu
     have hr2:Room (k+1) X.A.in1.in1:=(Room.in1 (Room.in1 hr));have hpin:=(I'.pin (f,_) (List.mem_append_right _ (List.mem_append_right _ List.mem_cons_self))).1;refine wpAny_call (codeAny_mono (lam_run (N:=[x]) (ps:=[x]) (us:=[u]) (vs:=[v]) (E:=E0) I'.env0.in1.in1 hr2 hpin hc' S (hbind _ _ _ _ _) rfl (.cons rvu .nil) (hb f c' _ _ _ _ _ (hr2.deeper _)) (q1 i v k' hv hk)) fun r2 s3 hq=>?_);cases r2 with
     | error e=>exact False.elim hq
     | ok fl=>
       cases fl with
       | ret u2=>
         obtain⟨v2,H3,I3,r3,e3,e4⟩:=I'.after hq;subst e3;subst e4;exact⟨r3,I3⟩
       | next=>exact False.elim hq
       | brk=>exact False.elim hq
       | cont=>exact False.elim hq
   obtain⟨xs,hs,rx⟩:=Srt.of rv ko;have hD:H2 D=none:=(I'.pin (D,_) (List.mem_append_right _ List.mem_cons_self)).2.1;refine⟨.ref D,_,Inv.fewer (Inv.trk I' h0 hp (by rw[Srt.len hlen hs,sizeLine_eq];omega) rx) fun p hp=>List.mem_cons_of_mem _ hp,rfl,q2 D xs hD hs⟩
structure DfnC(K:W.Frag)(mg:Str->Option Value)(x:Str)(st:Stmt)(ps:List Str)(c:Addr):Prop where
 ex:∃(f:Addr) (oc:Value) (od:Option Addr) (kV doc pm:Value) (an:Option Addr) (ct:Value) (osl:Array (Option Value)),
  K.lookup f=some ⟨oc,od,.func (W.fnOf x x (defArgs st) (defBody st) (defScope st) .none kV doc pm an (.ref c) ct),osl⟩/\W.codeIn K (.ref c) x=true/\W.keepIn K (.ref f)=true/\mg x=some (.ref f) /\
  Binds K (W.fnOf x x (defArgs st) (defBody st) (defScope st) .none kV doc pm an (.ref c) ct) ps []
theorem DfnC.fn{P:Program}{w:World}{K:W.Frag}{mg:Str->Option Value}{base:Heap}{x:Str}{st:Stmt}{N ps:List Str}{k:Nat}{sp:Sp}{c:Addr}(d:DfnC K mg x st ps c)(S:FnScope N ps (defScope st))(len:∀ vs H Q E,sp vs H Q E->vs.length=ps.length)
 (hbody:∀(f:Addr) (A:Around) (outer:List Env) (s:Shared) (H:Hp) (vs:List V) (Q:VK) (E:XK),Room k (A.deeper (envOfC x (defScope st) s.heap.objs.size f (.ref c)))->sp vs H Q E ->
  ∃ t,Bx (PSs (cxOf CX0 P w K mg base N x (defScope st) f (.ref c) A outer s H E).nox (defBody st) t)/\t { nx:=fun _ H'=>Q .non H',rt:=Q } (start N vs) H):Fn P w K mg base x (k+1) ps sp:=by
 obtain⟨f,oc,od,kV,doc,pm,an,ct,osl,e1,e2,e3,e4,e5⟩:=d.ex;exact⟨f,_,fn_of e1 e2 S len (fun A outer s H vs Q E hr h=>let⟨t,h1,h2⟩:=hbody f A outer s H vs Q E hr h;⟨t,h1.out.nox,h2⟩),e4,e3,e5⟩
theorem B.sortK{X:Cx}{e:Expr}{tl tb:TE}{params:Arguments}{body:Expr}{scope:Scope}{c P:Addr}{lp kp p pos:Pos}{x:Str}{k:Nat}
 (hm:X.mg "sorted"=none) (L:LamK X.K X.mg c P) (hr:Room (k+3) X.A) (S:FnScope [x] [x] scope) (he:Bx (PE X e tl))
 (hb:∀(f c':Addr) (A:Around) (outer:List Env) (s:Shared) (H:Hp) (E:XK),Room k (A.deeper (envOfC (X.env.qual ++ "<lambda>") scope s.heap.objs.size f (.ref c')))->Bx (PE (cxOf CX0 X.prog X.w X.K X.mg X.base [x] (X.env.qual ++ "<lambda>") scope f (.ref c') A outer s H E).nox body tb))
 (hcode:X.env.code=.ref c:=by rfl) (hg:Gl X "sorted":=by rfl)
 (hbind:∀(qual:Str) (pm:Value) (c':Addr) (ctv u:Value),bindArgs (W.kla_fn "<lambda>" qual params body scope [] pm (.ref c') ctv) ⟨[u],[]⟩=pure ([x].zip [u]):=by intros;rfl)
 (hcl:closureFor scope X.env=pure []:=by rfl) (hdef:defaultsOf params X.env=([],[]):=by rfl)
 (hse:starEach [e] X.env=(false,eval e X.env)::starEach [] X.env:=by rfl) :
 Bx (PE X (.Call (.Name "sorted" p) [e] [⟨some "key",.Lambda params body scope lp,kp⟩] pos) (tSortK P lp (X.env.qual ++ "<lambda>") [x] tl tb)):=
 ⟨pe_sortK hg hm L hcode hr S he.out (fun f c' A outer s H E h=>(hb f c' A outer s H E h).out) hbind hcl hdef hse⟩
section
variable{C CT P b:Addr}{H H':Hp}{p:Addr}{f m:Int}{pc:Nat}{M:MT}{tc:Int}{F:Addr->Prop}{R:MRows}{pos:Pos}{qual:Str}
noncomputable def Own3(H:Hp)(b:Addr):Prop:=(∃ C dx fs,H b=some (.ins C dx fs))∨(∃ xs,H b=some (.lst xs)) ∨ ∃ r,H b=some (.dK r)
theorem Sh.own3(S:Sh C H p f m R F)(h:F b):Own3 H b:=by
 obtain⟨t,L,ds,X,hF⟩:=S;rcases(hF b).mp h with rfl | rfl | z
 · obtain⟨dx,e⟩:=X.ob
   exact .inl ⟨_,_,_,e⟩
 · exact .inr (.inl ⟨_,X.rw⟩)
 obtain⟨i,hi⟩:=List.getElem?_of_mem z;have hl:i < R.length:=by rw[← X.len];exact(List.getElem?_eq_some_iff.mp hi).1
 exact .inr (.inr ⟨_,X.at_ i b _ hi (List.getElem?_eq_getElem hl)⟩)
theorem Tb.own3(S:Tb C CT H p f m pc M tc F)(h:F b):Own3 H b:=by
 obtain⟨t,n,v,FN,FE,X,hF⟩:=S;rcases(hF b).mp h with rfl | z | z
 · obtain⟨dx,e⟩:=X.ob
   exact .inl ⟨_,_,_,e⟩
 · exact X.nw.own3 z
 have:=X.el;cases e:M.el with
 | none=>rw[e]at this;exact absurd z (this.2 b)
 | some E=>
   rw[e]at this;obtain⟨_,_,S⟩:=this;exact S.own3 z
theorem LamH.tbl(L:LamH pos qual H P):∃ ps,H P=some (.tbl ps):=by
 rcases L with e | ⟨_,e,_⟩
 · exact⟨_,e⟩
 exact⟨_,e⟩
theorem LamH.live(L:LamH pos qual H P):H P≠none:=by
 obtain⟨ps,e⟩:=L.tbl;rw[e];simp
theorem Own3.notP(L:LamH pos qual H P)(h:Own3 H b):b≠P:=fun z=>by
 obtain⟨ps,e⟩:=L.tbl;subst z;rcases h with ⟨_,_,_,y⟩ | ⟨_,y⟩ | ⟨_,y⟩ <;> rw[e]at y <;> cases y
theorem Own3.notC{c':Addr}(h:Own3 H b)(e:H c'=some (codeO qual c')):b≠c':=fun z=>by
 subst z;rcases h with ⟨_,_,_,y⟩ | ⟨_,y⟩ | ⟨_,y⟩ <;> rw[e]at y <;> cases y
theorem LamH.fr{G:Addr->Prop}(L:LamH pos qual H P)(k:Fr G H H')(h:∀ b,G b->H b≠none->Own3 H b):LamH pos qual H' P:=by
 have nP:¬ G P:=fun z=>absurd rfl (Own3.notP L (h P z L.live));rcases L with e | ⟨c',e,e2⟩
 · exact .inl (k _ _ nP e)
 refine .inr ⟨c',k _ _ nP e,k _ _ (fun z=>?_) e2⟩;exact absurd rfl (Own3.notC (h c' z (by rw[e2];simp)) e2)
theorem LamH.same(L:LamH pos qual H P)(k:Same H H'):LamH pos qual H' P:=L.fr (G:=fun _=>False) (fun b o _ e=>k b o e) fun _ z=>z.elim
theorem LamH.tb(L:LamH pos qual H P)(S:Tb C CT H p f m pc M tc F)(k:Fr F H H'):LamH pos qual H' P:=L.fr k fun b h _=>S.own3 h
theorem LamH.but{q:Addr}{xs:List V}(L:LamH pos qual H P)(e:H q=some (.lst xs))(k:KeepBut q H H'):LamH pos qual H' P:=L.fr (G:=fun b=>b=q) (fun b o n y=>k b o n y) fun b z _=>z ▸ .inr (.inl ⟨_,e⟩)
end
noncomputable def lessR(M:MT):MRows:=match M.el with | none=>M.nw | some E=>if E.length < M.nw.length then E else M.nw
noncomputable def moreR(M:MT):Option MRows:=M.el.map fun E=>if E.length < M.nw.length then M.nw else E
noncomputable def placeA(n:Nat)(cur:Int):Int:=pt cur 16 % (n:Int)
noncomputable def partsL(p s c:Int):List Int:=[p,p+s].filter fun x=>decide (c<=pt x 16+65536 / (s*2) - 1)
noncomputable def behindA(p s:Int):Int:=(pt p 16+65536 / s - 1+1) % 65536
noncomputable def stepR(M:MT)(cur:Int):MRow:=
 (lessR M).getD (placeA (lessR M).length cur).toNat []++((moreR M).map fun G=>(partsL (placeA (lessR M).length cur) (lessR M).length cur).flatMap fun x=>G.getD x.toNat []).getD []
noncomputable def spPlaceAt:Sp:=fun vs H Q _=>∃(c:Int) (n:Nat),vs=[.int c,.int n]/\(0 < n/\n < 1073741824)/\Q (.int (placeA n c)) H
theorem wPlaceAt{c:Int}{n:Nat}{H:Hp}{Q:VK}{E:XK}(h:0 < n/\n < 1073741824)(q:Q (.int (placeA n c)) H):spPlaceAt ([.int c,.int n]++[]) H Q E:=⟨c,n,rfl,h,q⟩
noncomputable def spParts:Sp:=fun vs H Q _=>∃(p s c:Int),vs=[.int p,.int s,.int c]/\(0 < s/\s < 10000) /\ ∀ l H',Same H H'->H l=none->H' l=some (.lst ((partsL p s c).map V.int))->Q (.ref l) H'
theorem wParts{p s c:Int}{H:Hp}{Q:VK}{E:XK}(h:0 < s/\s < 10000)(q:∀ l H',Same H H'->H l=none->H' l=some (.lst ((partsL p s c).map V.int))->Q (.ref l) H'):spParts ([.int p,.int s,.int c]++[]) H Q E:=⟨p,s,c,rfl,h,q⟩
noncomputable def spBehind:Sp:=fun vs H Q _=>∃(p s:Int),vs=[.int p,.int s]/\(0 < s/\s < 10000) /\ ∀ H',Same H H'->Q (.int (behindA p s)) H'
theorem wBehind{p s:Int}{H:Hp}{Q:VK}{E:XK}(h:0 < s/\s < 10000)(q:∀ H',Same H H'->Q (.int (behindA p s)) H'):spBehind ([.int p,.int s]++[]) H Q E:=⟨p,s,rfl,h,q⟩
noncomputable def spStep(C CT P:Addr)(pos:Pos)(qual:Str):Sp:=fun vs H Q _=>∃(p:Addr) (cur f m:Int) (pc:Nat) (M:MT) (tc:Int) (F:Addr->Prop),vs=[.ref p,.int cur]/\Tb C CT H p f m pc M tc F/\TOk f m M/\Rat M/\cnt M<=100000/\LamH pos qual H P /\
 ∀ t l xs H',LamH pos qual H' P->KeepBut P H H'->H l=none->H t=none->H' t=some (.tup [.int (behindA (placeA (lessR M).length cur) (lessR M).length),.ref l])->H' l=some (.lst xs)->Prs H' xs (stepR M cur)->Q (.ref t) H'
theorem wStep{C CT P:Addr}{pos:Pos}{qual:Str}{p:Addr}{cur f m:Int}{pc:Nat}{M:MT}{tc:Int}{F:Addr->Prop}{H:Hp}{Q:VK}{E:XK}(S:Tb C CT H p f m pc M tc F)(T:TOk f m M)(R:Rat M)(hc:cnt M<=100000)(L:LamH pos qual H P)
 (q:∀ t l xs H',LamH pos qual H' P->KeepBut P H H'->H l=none->H t=none->H' t=some (.tup [.int (behindA (placeA (lessR M).length cur) (lessR M).length),.ref l])->H' l=some (.lst xs)->Prs H' xs (stepR M cur)->Q (.ref t) H') :
 spStep C CT P pos qual ([.ref p,.int cur]++[]) H Q E:=⟨p,cur,f,m,pc,M,tc,F,rfl,S,T,R,hc,L,q⟩
theorem wSortK{P:Addr}{pos:Pos}{qual:Str}{N:List Str}{tl tb:TE}{σ:L2.St}{H:Hp}{Q:VK}(h:tl σ H fun x H1=>∃(a:Addr) (vs:List V) (kz:List Int),[x]=[V.ref a]/\H1 a=some (.lst vs)/\kz.length=vs.length/\vs.length < 64/\LamH pos qual H1 P /\
 ∀ H2,LamH pos qual H2 P->KeepBut P H1 H2->(∀(i:Nat) v k,vs[i]?=some v->kz[i]?=some k->tb (start N [v]) H2 fun u H3=>u=.int k/\H3=H2) /\ ∀ D out,H2 D=none->Srt kz vs out->Q (.ref D) (upd H2 D (.lst out))):tSortK P pos qual N tl tb σ H Q:=h
theorem Sh.lam{C P p:Addr}{H H':Hp}{f m:Int}{R:MRows}{F:Addr->Prop}{pos:Pos}{qual:Str}(S:Sh C H p f m R F)(L:LamH pos qual H P)(k:KeepBut P H H'):Sh C H' p f m R F:=
 S.keep k.fr' (fun b h z=>absurd z (Own3.notP L (S.own3 h))) fun b xs e z=>by
  obtain⟨ps,y⟩:=L.tbl;rw[z,y]at e;cases e
theorem Rat.two{f m:Int}{M:MT}{E:MRows}(T:TOk f m M)(R:Rat M)(e:M.el=some E):(E.length < M.nw.length/\lessR M=E/\moreR M=some M.nw/\M.nw.length=2*E.length)∨(M.nw.length < E.length/\lessR M=M.nw/\moreR M=some E/\E.length=2*M.nw.length):=by
 have hE:=(T.el E e).2.1;have hp:0 < E.length:=hE.pos;have hq:0 < M.nw.length:=T.sz.pos;unfold lessR moreR;rw[e];rcases R E e with z | z
 · exact .inr ⟨by omega,if_neg (by omega),congrArg some (if_neg (by omega)),z⟩
 exact .inl ⟨by omega,if_pos (by omega),congrArg some (if_pos (by omega)),z⟩
theorem lessR_size{f m:Int}{M:MT}(T:TOk f m M):isSize (lessR M).length:=by
 unfold lessR;cases e:M.el with
 | none=>exact T.sz
 | some E=>
   dsimp only
   split
   · exact(T.el E e).2.1
   exact T.sz
theorem lessR_le{M:MT}:tot (lessR M)<=cnt M:=by
 unfold lessR SW.cnt;cases e:M.el with
 | none=>simp
 | some E=>
   dsimp only
   split <;> simp <;> omega
theorem moreR_le{M:MT}{G:MRows}(h:moreR M=some G):tot G<=cnt M:=by
 unfold moreR at h;unfold SW.cnt;cases e:M.el with
 | none=>rw[e]at h;cases h
 | some E=>
   rw[e]at h;have h:(if E.length < M.nw.length then M.nw else E)=G:=Option.some.inj h;subst h;split <;> simp <;> omega
theorem placeA_lt{n:Nat}(h:0 < n)(c:Int):0<=placeA n c/\placeA n c < n:=⟨Int.emod_nonneg _ (by omega),Int.emod_lt_of_pos _ (by omega)⟩
theorem partsL_len(p s c:Int):(partsL p s c).length<=2:=List.length_filter_le ..
theorem partsL_mem{p s c x:Int}(h:x∈partsL p s c):x=p∨x=p+s:=by
 have:=(List.mem_filter.mp h).1
 simpa using this
theorem flat_snoc{α β:Type}{xs:List α}{i:Nat}{x:α}{g:α -> List β}(h:xs[i]?=some x):(xs.take (i+1)).flatMap g=(xs.take i).flatMap g++g x:=by
 rw[take_snocF h,List.flatMap_append];simp
theorem walk_ofE{l:W.OpenLaw}{n k:Nat}{q:Program}{loose:List Str}{XP:(Str->Option Value)->Heap->Prop}{YP:World->Heap->Prop}{d:DefRec}{K:Params->W.Frag}{sp:W.Frag->Addr->Sp}{x:Str}
 (hn:l.most=some n) (hn2:n<=sizeLine) (hdf:d.params.defaults=[]) (hr:Room k callerA)
 (hY:∀(w:World) (h:Heap),YP w h->(K w.params).In h)
 (F:∀(w:World) (mg:Str->Option Value) (fa:Addr) (h:Heap),(K w.params).In h->h.Ns mainGlobals mg->mg d.name=some (.ref fa) ->
  ∃(c P:Addr) (fd:FuncData),(K w.params).lookup P=some (W.tabObj #[])/\W.CodeHd h c P/\(∀(s:Shared) (u:Value),BindsTo s fd ⟨[u],[]⟩ [(x,u)]) /\
    ∀ base:Heap,(wo (K w.params) P).In base->base.Ns mainGlobals mg->FnOk l.prog w (wo (K w.params) P) mg base CX0 k fa fd [x] (sp (wo (K w.params) P) P))
 (hsp:∀(K:W.Frag) (P:Addr) (H:Hp) (a:Addr) (ns:List Int),ns.length<=n->H P=some (.tbl #[])->SqL K H a (ns.map V.int)->sp K P [.ref a] H (fun v _=>v=.bl true) fun _ _ _=>False) :
 W.WalkO q loose XP YP l.row.toRowW d [] (fun f vs=>PySem.call f vs):=by
 refine Att.attach_call hn hdf fun w s₀ s₁ mg mb fa o pm cd doc a vs ns G Y ho hd hcd hmg hobj hints hlen hg=>?_;have KX:=hY w _ Y;obtain⟨c,P,fd,hP,hc,hb,hF⟩:=F w mg fa _ KX G.T.g hmg;exact law_callT (c:=c) (wo_In KX) wo_self hc (KX _ _ hP) G.T.g G.T.b G.T.builtins G.T.nolimit hg hobj hints (Nat.le_trans hlen hn2) hr hF hb (fun H hO hS=>hsp _ P H a ns hlen hO hS) fun H e s' z=>z
theorem getD_of{vs:Array Value}{i:Nat}{v:Value}(h:vs[i]?=some v):vs.getD i .none=v:=by
 rw[Array.getD_eq_getD_getElem?,h];rfl
theorem code_hd{K:W.Frag}{h:Heap}{c P:Addr}{cD:Option Addr}{cV:Array Value}{cS:Array (Option Value)}{file:Str}{tf tg tt:Tok}{flags text:Int}{inF:Bool}(X:K.In h)(o:K.lookup c=some ⟨.type "code",cD,.fields cV,cS⟩)(v11:cV[11]?=some (.ref P))(v18:cV[18]?=some (.str file tf))(v7:cV[7]?=some (.int flags tg))(v9:cV[9]?=some (.bool inF))(v10:cV[10]?=some (.int text tt))(ne:(c == P)=false):W.CodeHd h c P:=
 ⟨_,cV,file,tf,flags,tg,inF,text,tt,X _ _ o,rfl,rfl,v11,getD_of v11,getD_of v18,getD_of v7,getD_of v9,getD_of v10,fun z=>by rw[z]at ne;simp at ne⟩
theorem lam_k{K:W.Frag}{h:Heap}{mg:Str->Option Value}{c P b:Addr}{cD:Option Addr}{cV:Array Value}{cS bS:Array (Option Value)}{file:Str}{tf tg tt:Tok}{flags text:Int}{inF:Bool}(X:K.In h)(G:h.Ns mainGlobals mg)(hP:K.lookup P=some (W.tabObj #[]))
 (o:K.lookup c=some ⟨.type "code",cD,.fields cV,cS⟩) (v11:cV[11]?=some (.ref P)) (v18:cV[18]?=some (.str file tf)) (v7:cV[7]?=some (.int flags tg)) (v9:cV[9]?=some (.bool inF)) (v10:cV[10]?=some (.int text tt)) (ne:(c == P)=false)
 (b1:W.nsIn K mainGlobals "__builtins__"=some (some (.ref b))) (b2:K.lookup b=some ⟨.type "module",some builtinsNs,.plain,bS⟩) (b3:(b == builtinsNs)=false) (b4:(b == mainGlobals)=false):LamK (wo K P) mg c P:=by
 refine⟨fun h' X'=>code_hd X' (wo_lk hP o fun z=>?_) v11 v18 v7 v9 v10 ne,b,_,W.mg_of X G b1,fun z=>by rw[z]at b3;simp at b3,fun z=>by rw[z]at b4;simp at b4,wo_lk hP b2 (fun z=>by cases z),rfl,rfl,rfl⟩
 injection z with z;rw[z]at v11;cases v11
section
variable{K:W.Frag}{H:Hp}{x y:V}{n:Nat}
end
section
variable{H:Hp}{Q:VK}{E:XK}{p:Addr}
end
section
variable{f m:Int}{pc:Nat}
end
section
variable{K:W.Frag}{H:Hp}
end
theorem isi_int_str{K:W.Frag}:W.kitOne K (.type "int") (.type "str")=some false:=by
 show W.kitOne [] (.type "int") (.type "str")=some false
 decide +kernel
theorem isi_str_str{K:W.Frag}:W.kitOne K (.type "str") (.type "str")=some true:=rfl
theorem isi_list_str{K:W.Frag}:W.kitOne K (.type "list") (.type "str")=some false:=by
 show W.kitOne [] (.type "list") (.type "str")=some false
 decide +kernel
theorem two_pos(k:Nat):(0:Int) < 2 ^ k:=Int.pow_pos (by decide)
theorem pt_split(m:Int)(j:Nat):∀ k:Nat,pt m (j+k)=pt m j*2 ^ k+pt (m / 2 ^ j) k
 | 0=>by show pt m j=pt m j*1+0;omega
 | k+1=>by
   show pt m (j+k)*2+m / 2 ^ (j+k) % 2=pt m j*2 ^ (k+1)+(pt (m / 2 ^ j) k*2+m / 2 ^ j / 2 ^ k % 2);rw[pt_split m j k,Int.ediv_ediv_of_nonneg (Int.le_of_lt (two_pos j)),← Int.pow_add,Int.pow_succ,Int.add_mul,Int.mul_assoc];omega
theorem mod_two(m:Int)(k:Nat):m % 2 ^ (k+1)=m / 2 ^ k % 2*2 ^ k+m % 2 ^ k:=by
 have hT:=two_pos k;have h1:=Int.emod_add_mul_ediv m (2 ^ k);have h2:=Int.emod_add_mul_ediv (m / 2 ^ k) 2;have h3:=Int.emod_nonneg m (Int.ne_of_gt hT);have h4:=Int.emod_lt_of_pos m hT;have h5:=bit01 (m / 2 ^ k);rw[Int.pow_succ];generalize (2:Int) ^ k=T at *;generalize m % T=r at *;generalize m / T=q at *;generalize q / 2=q' at *;generalize q % 2=b at *;have e:m=(b*T+r)+T*2*q':=by
  rw[← h1,← h2,Int.mul_add,Int.mul_comm T b,← Int.mul_assoc];omega
 rw[e,Int.add_mul_emod_self_left];refine Int.emod_eq_of_lt ?_ ?_
 · rcases h5 with h | h <;> rw[h] <;> omega
 rcases h5 with h | h <;> rw[h] <;> omega
theorem pt_inv(m:Int):∀ k:Nat,pt (pt m k) k=m % 2 ^ k
 | 0=>by show(0:Int)=m % 1;omega
 | k+1=>by
   have h:=pt_split (pt m (k+1)) 1 k;rw[Nat.add_comm 1 k]at h;rw[h,mod_two];have e1:pt (pt m (k+1)) 1=m / 2 ^ k % 2:=by
    show 0*2+pt m (k+1) / 2 ^ 0 % 2=_;rw[Int.pow_zero,Int.ediv_one,pt_mod];omega
   have e2:pt m (k+1) / 2 ^ 1=pt m k:=by rw[Int.pow_succ,Int.pow_zero,Int.one_mul];exact pt_half m k
   rw[e1,e2,pt_inv m k]
theorem pt_place{n k:Nat}(m:Int):pt m (k+n) % 2 ^ n=pt (m / 2 ^ k) n:=by
 rw[pt_split];obtain⟨h0,h1⟩:=pt_range (m / 2 ^ k) n;rw[Int.add_comm,Int.add_mul_emod_self_right];exact Int.emod_eq_of_lt h0 h1
theorem pt_even(q:Int)(n:Nat):pt (2*q) (n+1)=pt q n:=by
 have h:=pt_split (2*q) 1 n;rw[Nat.add_comm 1 n]at h;rw[h,Int.pow_succ,Int.pow_zero,Int.one_mul];have e1:pt (2*q) 1=0:=by
  show 0*2+2*q / 2 ^ 0 % 2=0;rw[Int.pow_zero,Int.ediv_one];omega
 have e2:2*q / 2=q:=by omega
 rw[e1,e2];omega
theorem pt_odd(q:Int)(n:Nat):pt (2*q+1) (n+1)=2 ^ n+pt q n:=by
 have h:=pt_split (2*q+1) 1 n;rw[Nat.add_comm 1 n]at h;rw[h,Int.pow_succ,Int.pow_zero,Int.one_mul];have e1:pt (2*q+1) 1=1:=by
  show 0*2+(2*q+1) / 2 ^ 0 % 2=1;rw[Int.pow_zero,Int.ediv_one];omega
 have e2:(2*q+1) / 2=q:=by omega
 rw[e1,e2];omega
theorem isSize.pow{s:Nat}(h:isSize s):∃ n:Nat,2<=n/\n<=12/\s=2 ^ n:=by
 unfold isSize at h;simp only[List.mem_cons,List.not_mem_nil,or_false]at h;rcases h with h | h | h | h | h | h | h | h | h | h | h
 · exact⟨2,by decide,by decide,by omega⟩
 · exact⟨3,by decide,by decide,by omega⟩
 · exact⟨4,by decide,by decide,by omega⟩
 · exact⟨5,by decide,by decide,by omega⟩
 · exact⟨6,by decide,by decide,by omega⟩
 · exact⟨7,by decide,by decide,by omega⟩
 · exact⟨8,by decide,by decide,by omega⟩
 · exact⟨9,by decide,by decide,by omega⟩
 · exact⟨10,by decide,by decide,by omega⟩
 · exact⟨11,by decide,by decide,by omega⟩
 exact⟨12,by decide,by decide,by omega⟩
structure Bits(s:Int)(c wd fi p:Int):Prop where
 w1:65536 / s=wd
 w2:wd / 2*2=wd
 w0:0 < wd / 2
 w3:65536 / (s*2)=wd / 2
 f1:fi=c - c % wd
 f0:0<=fi/\fi+wd<=65536
 p1:pt fi 16 % s=p
 p2:pt fi 16 % (2*s)=p
 p3:pt (fi+wd / 2) 16 % (2*s)=p+s
 p4:pt p 16=fi
 p5:pt (p+s) 16=fi+wd / 2
theorem Bits.of{s:Nat}{c:Int}(h:isSize s)(c0:0<=c)(c1:c < 65536):Bits s c (65536 / s) (c - c % (65536 / s)) (placeA s c):=by
 obtain⟨n,n2,n12,rfl⟩:=h.pow;obtain⟨k,hk⟩:∃ k:Nat,15=k+n:=⟨15 - n,by omega⟩
 have e16:16=(k+1)+n:=by omega
 have e16':16=k+(n+1):=by omega
 have e16'':16=n+(k+1):=by omega
 have e16d:16=(n+1)+k:=by omega
 have cast:((2 ^ n:Nat):Int)=2 ^ n:=by exact_mod_cast rfl
 have hS:=two_pos n;have hK:=two_pos k;have all:(2:Int) ^ k*2*2 ^ n=65536:=by
  rw[← Int.pow_succ,← Int.pow_add,← e16];rfl
 unfold placeA;rw[cast];have w1:(65536:Int) / 2 ^ n=2 ^ k*2:=by rw[← all];exact Int.mul_ediv_cancel _ (Int.ne_of_gt hS)
 have w3:(65536:Int) / (2 ^ n*2)=2 ^ k:=by
  rw[← all,show(2:Int) ^ k*2*2 ^ n=2 ^ k*(2 ^ n*2) by rw[Int.mul_assoc,Int.mul_comm 2 (2 ^ n)]]
  exact Int.mul_ediv_cancel _ (by omega)
 have hwd:(2:Int) ^ k*2 / 2=2 ^ k:=by omega
 -- q: the walk's place by points
 have hfi:c - c % (2 ^ k*2)=c / (2 ^ k*2)*(2 ^ k*2):=by
  have:=Int.emod_add_mul_ediv c (2 ^ k*2);rw[Int.mul_comm (c / (2 ^ k*2))];omega
 have hq0:0<=c / (2 ^ k*2):=Int.ediv_nonneg c0 (by omega)
 have hq1:c / (2 ^ k*2) < 2 ^ n:=Int.ediv_lt_of_lt_mul (by omega) (by rw[Int.mul_comm,all];exact c1)
 have pl:pt c 16 % 2 ^ n=pt (c / (2 ^ k*2)) n:=by rw[e16,pt_place,Int.pow_succ]
 rw[w1,hfi,pl];generalize c / (2 ^ k*2)=q at *;have pr:=pt_range q n;have inv:pt (pt q n) n=q:=by rw[pt_inv];exact Int.emod_eq_of_lt hq0 hq1
 have d1:q*(2 ^ k*2) / (2 ^ k*2)=q:=Int.mul_ediv_cancel _ (by omega)
 have d2:q*(2 ^ k*2) / 2 ^ k=2*q:=by
  rw[show q*(2 ^ k*2)=2*q*2 ^ k by rw[Int.mul_comm (2 ^ k) 2,← Int.mul_assoc,Int.mul_comm q 2]]
  exact Int.mul_ediv_cancel _ (Int.ne_of_gt hK)
 have d3:(q*(2 ^ k*2)+2 ^ k) / 2 ^ k=2*q+1:=by
  rw[show q*(2 ^ k*2)+2 ^ k=(2*q+1)*2 ^ k by rw[Int.add_mul,Int.one_mul,Int.mul_comm (2 ^ k) 2,← Int.mul_assoc,Int.mul_comm q 2]]
  exact Int.mul_ediv_cancel _ (Int.ne_of_gt hK)
 have s2:(2:Int)*2 ^ n=2 ^ (n+1):=by rw[Int.pow_succ,Int.mul_comm]
 have u:=pt_range (2*q+1) (n+1);refine⟨w1,by rw[hwd],by rw[hwd];exact hK,by rw[w3,hwd],hfi.symm,⟨Int.mul_nonneg hq0 (by omega),?_⟩,?_,?_,?_,?_,?_⟩
 · have h1:(q+1)*(2 ^ k*2)<=2 ^ n*(2 ^ k*2):=Int.mul_le_mul_of_nonneg_right (by omega) (by omega)
   rw[Int.mul_comm (2 ^ n),all,Int.add_mul,Int.one_mul]at h1;exact h1
 · rw[e16,pt_place,Int.pow_succ,d1]
 · rw[s2,e16',pt_place,d2,pt_even]
 · rw[hwd,s2,e16',pt_place,d3,pt_odd,Int.add_comm]
 · rw[e16'',pt_more pr.1 pr.2,inv,Int.pow_succ]
 rw[hwd,Int.add_comm (pt q n),← pt_odd,e16d,pt_more u.1 u.2,pt_inv,Int.emod_eq_of_lt (by omega) (by rw[Int.pow_succ];omega),Int.add_mul,Int.one_mul,Int.mul_comm (2 ^ k) 2,← Int.mul_assoc,Int.mul_comm q 2]
theorem pt_low(m:Int)(n:Nat):pt (m % 2 ^ n) n=pt m n:=by
 rw[← pt_inv m n,pt_inv (pt m n) n];obtain⟨h0,h1⟩:=pt_range m n;exact Int.emod_eq_of_lt h0 h1
theorem pt_in{s:Nat}(h:isSize s∨s=8192){k:Int}(k0:0<=k):pt (k % s) 16<=pt k 16/\pt k 16<=pt (k % s) 16+65536 / s - 1:=by
 obtain⟨n,n13,rfl⟩:∃ n:Nat,n<=13/\s=2 ^ n:=by
  rcases h with h | h
  · obtain⟨n,_,n12,e⟩:=h.pow
    exact⟨n,by omega,e⟩
  exact⟨13,by decide,by omega⟩
 obtain⟨j,hj⟩:∃ j:Nat,16=n+j:=⟨16 - n,by omega⟩
 have cast:((2 ^ n:Nat):Int)=2 ^ n:=by exact_mod_cast rfl
 rw[cast];have hS:=two_pos n;have all:(65536:Int)=2 ^ j*2 ^ n:=by rw[← Int.pow_add,Nat.add_comm,← hj];rfl
 have w:(65536:Int) / 2 ^ n=2 ^ j:=by rw[all];exact Int.mul_ediv_cancel _ (Int.ne_of_gt hS)
 rw[w,hj,pt_split k n j,pt_more (Int.emod_nonneg _ (Int.ne_of_gt hS)) (Int.emod_lt_of_pos _ hS),pt_low];obtain⟨h0,h1⟩:=pt_range (k / 2 ^ n) j;omega
noncomputable def mrk(f m k:Int):Int:=(k*f+m) % 65536
theorem mrk_lt(f m k:Int):0<=mrk f m k/\mrk f m k < 65536:=⟨Int.emod_nonneg _ (by decide),Int.emod_lt_of_pos _ (by decide)⟩
theorem getD_mem'{N:MRows}{i:Nat}{p:Int×Int}(h:p∈N.getD i []):∃ r,N[i]?=some r/\p∈r:=by
 rw[List.getD_eq_getElem?_getD]at h;cases e:N[i]? with
 | none=>rw[e]at h;cases h
 | some r=>rw[e]at h;exact⟨r,rfl,h⟩
section
variable{f m:Int}{M:MT}{cur:Int}
theorem TOk.two(T:TOk f m M)(R:Rat M):POk f m (lessR M)/\isSize (lessR M).length/\(∀ p,p∈(lessR M).flatten->p∈allP M) /\
 (moreR M=none/\(∀ p,p∈allP M->p∈(lessR M).flatten) ∨ ∃ G,moreR M=some G/\POk f m G/\isSize G.length/\G.length=2*(lessR M).length/\(∀ p,p∈G.flatten->p∈allP M)/\(∀ p,p∈allP M->p∈(lessR M).flatten∨p∈G.flatten) /\ ∀ p q,p∈(lessR M).flatten->q∈G.flatten->p.1≠q.1):=by
 cases e:M.el with
 | none=>
   have l1:lessR M=M.nw:=by unfold lessR;rw[e]
   have l2:moreR M=none:=by unfold moreR;rw[e];rfl
   have l3:allP M=M.nw.flatten:=by unfold allP;rw[e];rfl
   rw[l1,l2,l3];exact⟨T.nw,T.sz,fun p h=>h,.inl ⟨rfl,fun p h=>h⟩⟩
 | some E=>
   obtain⟨hE,zE,_,_,dE⟩:=T.el E e;have l3:allP M=E.flatten++M.nw.flatten:=by unfold allP;rw[e];rfl
   have dis:∀ p q,p∈E.flatten->q∈M.nw.flatten->p.1≠q.1:=fun p q hp hq z=>by
    obtain⟨i,r,hr,hi⟩:=mem_flat.mp hp;obtain⟨j,t,ht,hj⟩:=mem_flat.mp hq;have a:=hE.look hr hi;have b:=T.nw.look ht hj;have c:=dE p.1 (by rw[a];simp)
    rw[z,b]at c;cases c
   rw[l3];rcases Rat.two T R e with ⟨h1,h2,h3,h4⟩ | ⟨h1,h2,h3,h4⟩
   · rw[h2,h3]
     exact⟨hE,zE,fun p h=>List.mem_append_left _ h,.inr ⟨M.nw,rfl,T.nw,T.sz,h4,fun p h=>List.mem_append_right _ h,fun p h=>List.mem_append.mp h,dis⟩⟩
   rw[h2,h3];exact⟨T.nw,T.sz,fun p h=>List.mem_append_right _ h,.inr ⟨E,rfl,hE,zE,h4,fun p h=>List.mem_append_left _ h,fun p h=>(List.mem_append.mp h).symm,fun p q hp hq z=>dis q p hq hp z.symm⟩⟩
theorem mem_step{kv:Int×Int}:kv∈stepR M cur ↔ kv∈(lessR M).getD (placeA (lessR M).length cur).toNat [] ∨ ∃ G x,moreR M=some G/\x∈partsL (placeA (lessR M).length cur) (lessR M).length cur/\kv∈G.getD x.toNat []:=by
 unfold stepR;rw[List.mem_append]
 constructor
 · rintro(h | h)
   · exact .inl h
   cases e:moreR M with
   | none=>rw[e]at h;cases h
   | some G=>
     rw[e]at h;obtain⟨x,hx,hk⟩:=List.mem_flatMap.mp (show kv∈(partsL _ _ _).flatMap _ from h);exact .inr ⟨G,x,rfl,hx,hk⟩
 rintro(h | ⟨G,x,e,hx,hk⟩)
 · exact .inl h
 right
 rw[e];exact List.mem_flatMap.mpr ⟨x,hx,hk⟩
theorem POk.at'{N:MRows}(hP:POk f m N){i:Int}{kv:Int×Int}(i0:0<=i)(h:kv∈N.getD i.toNat []):mrk f m kv.1 % (N.length:Int)=i/\kv∈N.flatten:=by
 obtain⟨r,hr,hk⟩:=getD_mem' h;have:=(hP.inplc i.toNat r hr kv hk).1;rw[Int.toNat_of_nonneg i0]at this;exact⟨this,mem_flat.mpr ⟨_,r,hr,hk⟩⟩
theorem step_in(T:TOk f m M)(R:Rat M)(c0:0<=cur)(c1:cur < 65536){kv:Int×Int}(h:kv∈stepR M cur) :
 kv∈allP M/\pt (placeA (lessR M).length cur) 16<=pt (mrk f m kv.1) 16/\pt (mrk f m kv.1) 16<=pt (placeA (lessR M).length cur) 16+65536 / ((lessR M).length:Nat) - 1:=by
 obtain⟨P1,Z1,A1,two⟩:=T.two R;have B:=Bits.of Z1 c0 c1;obtain⟨pl0,pl1⟩:=placeA_lt Z1.pos cur;obtain⟨m0,m1⟩:=mrk_lt f m kv.1;rcases mem_step.mp h with h | ⟨G,x,e,hx,hk⟩
 · obtain⟨a,b⟩:=P1.at' pl0 h
   have:=pt_in (.inl Z1) m0;rw[a]at this;exact⟨A1 _ b,this⟩
 rcases two with ⟨z,_⟩ | ⟨G',e',P2,Z2,lG,A2,_,_⟩
 · rw[e]at z;cases z
 rw[e]at e';cases e';have hxm:=partsL_mem hx;have x0:0<=x:=by omega
 obtain⟨a,b⟩:=P2.at' x0 hk;have hp:=pt_in (.inl Z2) m0;rw[a,lG]at hp;have w3:=B.w3;have w2:=B.w2;have w0:=B.w0;have p4:=B.p4;have p5:=B.p5;have ew:(65536:Int) / ((2*(lessR M).length:Nat):Int)=65536 / ((lessR M).length:Nat) / 2:=by
  rw[← w3]
  congr 1
  omega
 rw[ew]at hp;refine⟨A2 _ b,?_⟩;rcases hxm with rfl | rfl
 · omega
 omega
theorem POk.rows{N:MRows}(hP:POk f m N)(i:Nat):ROk (N.getD i []):=by
 rw[List.getD_eq_getElem?_getD];cases e:N[i]? with
 | none=>exact List.nodup_nil
 | some r=>exact hP.ok r (List.mem_of_getElem? e)
theorem flat_nodup{N:MRows}(hP:POk f m N):∀ ps:List Int,ps.Nodup->(∀ x∈ps,0<=x)->ROk (ps.flatMap fun x=>N.getD x.toNat [])
 | [],_,_=>List.nodup_nil
 | x::ps,nd,h0=>by
   have ih:=flat_nodup hP ps (List.nodup_cons.mp nd).2 fun y hy=>h0 y (List.mem_cons_of_mem _ hy);show(List.map (·.1) ((x::ps).flatMap fun x=>N.getD x.toNat [])).Nodup;rw[List.flatMap_cons,List.map_append];refine List.nodup_append.mpr ⟨hP.rows _,ih,fun a ha b hb z=>?_⟩;obtain⟨p,hp,rfl⟩:=List.mem_map.mp ha;obtain⟨q,hq,rfl⟩:=List.mem_map.mp hb;obtain⟨y,hy,hq⟩:=List.mem_flatMap.mp hq;have e1:=(hP.at' (h0 x List.mem_cons_self) hp).1;have e2:=(hP.at' (h0 y (List.mem_cons_of_mem _ hy)) hq).1;rw[z,e2]at e1;exact(List.nodup_cons.mp nd).1 (e1 ▸ hy)
theorem step_nodup(T:TOk f m M)(R:Rat M)(c0:0<=cur)(c1:cur < 65536):ROk (stepR M cur):=by
 obtain⟨P1,Z1,A1,two⟩:=T.two R;obtain⟨pl0,pl1⟩:=placeA_lt Z1.pos cur;have hs:(0:Int) < ((lessR M).length:Nat):=by have:=Z1.pos;omega
 show(List.map (·.1) (stepR M cur)).Nodup;unfold stepR;rw[List.map_append];rcases two with ⟨e,_⟩ | ⟨G,e,P2,Z2,lG,A2,_,dis⟩
 · rw[e]
   show(_++([]:List Int)).Nodup;rw[List.append_nil];exact P1.rows _
 rw[e];show(_++List.map (·.1) ((partsL _ _ _).flatMap fun x=>G.getD x.toNat [])).Nodup;have nd:(partsL (placeA (lessR M).length cur) (lessR M).length cur).Nodup:=by
  unfold partsL;refine List.Nodup.sublist List.filter_sublist (List.nodup_cons.mpr ⟨?_,List.nodup_cons.mpr ⟨List.not_mem_nil,List.nodup_nil⟩⟩);intro z;have:=List.mem_singleton.mp z;omega
 refine List.nodup_append.mpr ⟨P1.rows _,flat_nodup P2 _ nd fun x hx=>?_,fun a ha b hb z=>?_⟩
 · have:=partsL_mem hx
   omega
 obtain⟨p,hp,rfl⟩:=List.mem_map.mp ha;obtain⟨q,hq,rfl⟩:=List.mem_map.mp hb;obtain⟨y,hy,hq⟩:=List.mem_flatMap.mp hq;have y0:0<=y:=by have:=partsL_mem hy;omega
 exact dis p q (P1.at' pl0 hp).2 (P2.at' y0 hq).2 z
end
end SW
namespace SW
open PySem PySem.Spec PyProof.Rows L2
section
variable{X:Cx}
theorem mt_startswith:MtR X "str.startswith" (fun x vs H Q=>∃ a b,x=.str a/\vs=[.str b]/\Q (.bl (Txt.startswith a b)) H):=by
 intro pins s σ H x vs v us Q I rx rv h;obtain⟨a,b,rfl,rfl,q⟩:=h;obtain⟨t,rfl⟩:=rx;obtain⟨u,rfl,ru⟩:=rv.one;obtain⟨t2,rfl⟩:=ru;exact SC.startswith ⟨.bl _,H,I,rfl,q⟩
theorem call_intT:CallR X (.type "int") (fun xs H Q=>∃ x n,xs=[.str x]/\x.length<=640/\PySem.intText? x=some n/\Q (.int n) H):=by
 intro pins s σ H xs us Q I r h;obtain⟨x,n,rfl,hl,hn,q⟩:=h;obtain⟨u,rfl,rx⟩:=vals1 r;obtain⟨t,rfl⟩:=rx;exact W.KIN.call_text hn hl ⟨.int n,H,I.tok _,⟨_,rfl⟩,q⟩
theorem strs_vals:∀(l:List (PySem.Str×Tok)),Vals ((l.map (·.1)).map V.str) (strValues l)
 | []=>.nil
 | (x,t)::l=>.cons ⟨t,rfl⟩ (strs_vals l)
theorem vals_strs:∀{xs:List PySem.Str}{us:List Value},Vals (xs.map V.str) us -> ∃ l:List (PySem.Str×Tok),us=strValues l/\l.map (·.1)=xs
 | [],_,.nil=>⟨[],rfl,rfl⟩
 | x::xs,_,.cons h t=>by
   obtain⟨l,rfl,e⟩:=vals_strs t;obtain⟨u,rfl⟩:=h;exact⟨(x,u)::l,rfl,by rw[List.map_cons,e]⟩
theorem mt_join(hK:True:=trivial):MtR X "str.join" (fun x vs H Q=>∃ a l xs,x=.str a/\vs=[.ref l]/\SqL X.K H l (List.map V.str xs)/\JoinOk a xs=true/\Q (.str (Txt.join a xs)) H):=by
 intro pins s σ H x vs v us Q I rx rv h;obtain⟨a,l,xs,rfl,rfl,hl,hok,q⟩:=h;obtain⟨t,rfl⟩:=rx;obtain⟨u,rfl,ru⟩:=rv.one;cases ru;obtain⟨its,rr,pl,hz⟩:=I.list hl;obtain⟨ts,rfl,e⟩:=vals_strs rr;exact SC.join pl.isList e hok fun t' k=>⟨.str _,H,I.kept (t':=k) fun b o e=>e,⟨_,rfl⟩,q⟩
open PySem.Builtin PySem.Builtin.Str in
theorem split_at{prog:Program}{w:World}{A:Around}{E:Value->Shared->Prop}{s:Shared}{x y:PySem.Str}{t u:Tok}{Q:Value->Shared->Prop}(hy:(y.length == 0)=false)
 (hq:∀ l tk,l.map (·.1)=Txt.split x y->Q (.ref s.heap.objs.size) { s with toks:=tk,heap:=s.heap.push { cls:=.type "list",data:=.seq (strValues l).toArray } })
 (hsz:x.length<=sizeLine) (hsz2:(partsBetween x (occurrences x y 0 x.length (x.length+1)) y.length).length<=sizeLine) :
 wpAny (model prog w) A (call (.builtin "str.split") [.str x t,.str y u]) Q E s:=by
 cases h1:(decide (x.length < y.length) || decide (strKind x < strKind y))
 · cases hf:(occurrences x y 0 x.length (x.length+1)).isEmpty
   · refine call_meets F.slot_str_split (typeIs_str _ _ _) F.entry_str_split (F.args_str_split_2 _ _) (meets_str_split_sep x y t u h1 hy hf hsz hsz2) ?_
     show wants Q E _ { s with toks:=_,heap:=s.heap.push { cls:=.type "list",data:=.seq (strsFrom s.toks (partsBetween x (occurrences x y 0 x.length (x.length+1)) y.length)).toArray } };rw[strsFrom_eq];exact hq (numbered s.toks _) _ ((numbered_texts _ _).trans ((if_neg (ne_true_of_eq_false h1)).trans (if_neg (ne_true_of_eq_false hf))).symm)
   exact call_meets F.slot_str_split (typeIs_str _ _ _) F.entry_str_split (F.args_str_split_2 _ _) (meets_str_split_not_found x y t u h1 hy hf)
    (hq [(x,t)] s.toks ((if_neg (ne_true_of_eq_false h1)).trans (if_pos hf)).symm)
 exact call_meets F.slot_str_split (typeIs_str _ _ _) F.entry_str_split (F.args_str_split_2 _ _) (meets_str_split_cannot_occur x y t u h1)
  (hq [(x,t)] s.toks (if_pos h1).symm)
open PySem.Builtin PySem.Builtin.Str in
theorem mt_split:MtR X "str.split" (fun x vs H Q=>∃ a b,x=.str a/\vs=[.str b]/\(b.length == 0)=false/\a.length<=sizeLine/\(partsBetween a (occurrences a b 0 a.length (a.length+1)) b.length).length<=sizeLine/\(Txt.split a b).length<=sizeLine /\
 ∀ l,H l=none->Q (.ref l) (upd H l (.lst ((Txt.split a b).map V.str)))):=by
 intro pins s σ H x vs v us Q I rx rv h;obtain⟨a,b,rfl,rfl,hb,h1,h2,h3,q⟩:=h;obtain⟨t,rfl⟩:=rx;obtain⟨u,rfl,ru⟩:=rv.one;obtain⟨t2,rfl⟩:=ru;refine split_at hb (fun l tk e=>?_) h1 h2;refine⟨.ref s.heap.objs.size,_,I.laid (t':=tk) (fun b o e=>Heap.get?_push_of_some _ e) (Nat.le_refl _) (show ObjOk X.prog X.w _ _ _ (.lst ((Txt.split a b).map V.str))from⟨by rw[List.length_map];exact h3,strValues l,_,by rw[← e];exact strs_vals l,Heap.get?_push_size _ rfl⟩),rfl,q _ (I.hok.fresh (Nat.le_refl _))⟩
end
noncomputable def sgn(x:PySem.Str)(i:Nat):PySem.Str:=⟨#[x.cps.getD i 0]⟩
noncomputable def Itx(x:PySem.Str):It:=⟨fun i _=>i < x.cps.size,fun i H y H'=>H'=H/\y=.str (sgn x i),fun i _=>x.cps.size<=i⟩
theorem turn_str{P:Program}{w:World}{K:PySem.W.Frag}{tg:Expr}(x:PySem.Str)(t:Tok)(it:Addr):Turn P w K tg (Itx x) [it] it (fun i h=>i<=x.cps.size/\h.IsStrIter it "str_ascii_iterator" x t i) where
 mem:=by simp
 obj:=fun i h st b hb=>by
  have e:b=it:=by simpa using hb
  subst e;obtain⟨_,o,e,c,d⟩:=st;exact⟨o,e,fun v z=>by rw[d]at z;cases z⟩
 keep:=fun i h h' st k=>by
  obtain⟨hi,o,e,r⟩:=st;exact⟨hi,o,k it (by simp) o e,r⟩
 item:=by
  intro X hP hw hK hc i pins s σ H E I hf st hg;subst hP hw hK;have hg:i < x.cps.size:=hg;obtain⟨f0,f1,f2,f3,f4,f5⟩:=hf it (by simp)
  have W:=Walks.strAscii (prog:=X.prog) (w:=X.w) (I.ok.hd hc) it x t;refine W.item i s _ _ hg st.2 fun v h' tk hv st' kk=>?_;obtain⟨c,u,ec,rfl⟩:=hv;have I1:Inv X pins σ H { s with heap:=h',toks:=tk }:=I.turned (fun b o hb e=>kk b o (by simpa using hb) e) f0 f1 f3 f4 f5
  obtain⟨o,e,cc,d⟩:=id st';refine⟨_,rfl,go_of (s:={ s with heap:=h',toks:=tk }) e cc d (by decide) ⟨.str (sgn x i),H,I1,⟨u,?_⟩,⟨rfl,rfl⟩,⟨hg,st'⟩,fun b hb=>(hf b hb).1⟩⟩
  unfold sgn;rw[show x.cps.getD i 0=c by rw[Array.getD_eq_getD_getElem?,ec];rfl]
 done:=by
  intro X hP hw hK hc i pins s σ H E I hf st hg;subst hP hw hK;have hg:x.cps.size<=i:=hg;obtain⟨f0,f1,f2,f3,f4,f5⟩:=hf it (by simp)
  have ei:i=x.cps.size:=Nat.le_antisymm st.1 hg;have W:=Walks.strAscii (prog:=X.prog) (w:=X.w) (I.ok.hd hc) it x t;exact W.done s _ _ (ei ▸ st.2) fun h' tk kk=>⟨rfl,I.turned (fun b o hb e=>kk b o (by simpa using hb) e) f0 f1 f3 f4 f5⟩
 self:=fun _ _ _ _ _ st h=>wpAny_pyIter_striter_ascii st.2 h
section
variable{X:Cx}{tg:Expr}
noncomputable def iStr(tl:TE):TI:=fun σ H R=>tl σ H fun x H1=>∃ z,x=.str z/\z.cps.all (· < 128)=true/\R (Itx z) H1
theorem pi_str{l:Expr}{tl:TE}(hl:PE X l tl):PI X tg l (iStr tl):=by
 intro pins s σ H R I h;refine thn (hl pins s σ H _ I h) fun v s1 zz=>?_;obtain⟨x,H1,I1,r1,q1⟩:=zz;obtain⟨z,rfl,ha,q⟩:=q1;obtain⟨t,rfl⟩:=r1;refine wpAny_pyIter_ascii ha ?_;refine⟨s1.heap.objs.size,[s1.heap.objs.size],_,_,H1,rfl,I1.kept (t':=s1.toks) fun b o e=>Heap.get?_push_of_some _ e,turn_str z t _,⟨Nat.zero_le _,_,Heap.get?_push_size _ rfl,rfl,rfl⟩,fun b hb=>?_,q⟩;have e:b=s1.heap.objs.size:=by simpa using hb
 subst e;exact I1.fpOk (Nat.le_refl _) (I1.hok.fresh (Nat.le_refl _))
theorem B.istr{l:Expr}{tl:TE}(hl:Bx (PE X l tl)):Bx (PI X tg l (iStr tl)):=⟨pi_str hl.out⟩
end
open PySem.Builtin PySem.Builtin.Str in
noncomputable def cutS(x:PySem.Str)(lo hi:Option Int):PySem.Str:=if((strSliceIndices lo hi 1 x.length).length == x.length)=true then x else⟨((strSliceIndices lo hi 1 x.length).filterMap (x.cps[·]?)).toArray⟩
noncomputable def rSlS:V->Option Int->Option Int->Hp->VK->Prop:=fun x lo hi H Q=>∃ z,x=.str z/\(cutS z lo hi).length<=sizeLine/\Q (.str (cutS z lo hi)) H
theorem part_of{v:Value}{lo:Option Int}(h:IsPart v lo):∃ l:Option (Int×Tok),v=partValue l/\l.map (·.1)=lo:=by
 cases h with
 | none=>exact⟨none,rfl,rfl⟩
 | int i t=>exact⟨some (i,t),rfl,rfl⟩
section
variable{X:Cx}
theorem sl_str:SlR X rSlS:=by
 intro pins s σ H x v vl vu lo hi sl Q I rx hs pl pu h;obtain⟨z,rfl,hl,q⟩:=h;obtain⟨t,rfl⟩:=rx;obtain⟨l,rfl,el⟩:=part_of pl;obtain⟨u,rfl,eu⟩:=part_of pu;refine⟨"str",_,F.slot_str_getitem.lookup,typeIs_str s z t,?_⟩;refine wpAny_getItem_str_slice (l:=l) (u:=u) (st:=none) hs rfl ?_;have ep:slicePicked z l u none=Builtin.Str.strSliceIndices lo hi 1 z.length:=by
  unfold slicePicked;rw[el,eu]
  rfl
 unfold sliceMade;rw[ep];unfold cutS at hl q;by_cases w:((Builtin.Str.strSliceIndices lo hi 1 z.length).length == z.length)=true
 · rw[if_pos w]at q
   rw[if_pos (by show(true && _)=true;rw[w];rfl)]
   exact⟨.str z,H,I,⟨t,rfl⟩,q⟩
 rw[if_neg w]at q hl;rw[if_neg (by intro e;exact w (by have:(true && ((Builtin.Str.strSliceIndices lo hi 1 z.length).length == z.length))=true:=e;rwa [Bool.true_and]at this))]
 exact⟨hl,⟨.str _,H,I.tok _,⟨_,rfl⟩,q⟩⟩
noncomputable def tFS(ta:TE)(c:PySem.Str)(tb:TE):TE:=fun σ H Q=>ta σ H fun x H1=>∃ i:Int,x=.int i/\i.natAbs.log2 < 1920/\(PySem.Str.empty++(toString i:String):PySem.Str).length<=sizeLine/\(PySem.Str.empty++(toString i:String)++c:PySem.Str).length<=sizeLine/\tb σ H1 fun y H2=>∃ j:Int,y=.int j/\j.natAbs.log2 < 1920 /\
 (PySem.Str.empty++(toString i:String)++c++(toString j:String):PySem.Str).length<=sizeLine/\Q (.str (PySem.Str.empty++(toString i:String)++c++(toString j:String))) H2
theorem pe_fs2{a b:Expr}{ta tb:TE}{c:PySem.Str}{k}{p1 p2 p3 pos:Pos}(ha:PE X a ta)(hb:PE X b tb):PE X (.JoinedStr [.FormattedValue a (-1) none p1,.Constant (.str c) k p2,.FormattedValue b (-1) none p3] pos) (tFS ta c tb):=by
 intro pins s σ H Q I h;refine wpAny_JoinedStr ?_;show wpAny (model X.prog X.w) X.A (eval (.FormattedValue a (-1) none p1) X.env) _ _ s;refine wpAny_FormattedValue_plain (thn (ha pins s σ H _ I h) fun v s1 zz=>?_);obtain⟨x,H1,I1,r1,q1⟩:=zz;obtain⟨i,rfl,hi,l1,l2,q2⟩:=q1;obtain⟨t,rfl⟩:=r1;refine wpAny_formatField_int hi ⟨_,_,rfl,l1,?_⟩;show wpAny (model X.prog X.w) X.A (eval (.Constant (.str c) k p2) X.env) _ _ _;refine Calls.Constant_str ⟨_,_,rfl,l2,?_⟩;show wpAny (model X.prog X.w) X.A (eval (.FormattedValue b (-1) none p3) X.env) _ _ _;refine wpAny_FormattedValue_plain (thn (hb pins _ σ H1 _ (I1.kept (t':=s1.toks+1+1+1) fun b o e=>e) q2) fun v s2 zz=>?_);obtain⟨y,H2,I2,r2,q3⟩:=zz;obtain⟨j,rfl,hj,l3,q⟩:=q3;obtain⟨t2,rfl⟩:=r2;refine wpAny_formatField_int hj ⟨_,_,rfl,l3,?_⟩;exact⟨l3,⟨.str _,H2,I2.kept (t':=s2.toks+1+1+1) fun b o e=>e,⟨_,rfl⟩,q⟩⟩
theorem B.fs2{a b:Expr}{ta tb:TE}{c:PySem.Str}{k}{p1 p2 p3 pos:Pos}(ha:Bx (PE X a ta))(hb:Bx (PE X b tb)):Bx (PE X (.JoinedStr [.FormattedValue a (-1) none p1,.Constant (.str c) k p2,.FormattedValue b (-1) none p3] pos) (tFS ta c tb)):=⟨pe_fs2 ha.out hb.out⟩
end
theorem B.gstr{X:Cx}{x y:PySem.Str}{pos:Pos}(h:∃ t,X.mg x=some (.str y t))(hg:Gl X x:=by rfl)(hd:(x == ("__debug__":PySem.Str))=false:=by decide):Bx (PE X (.Name x pos) (tC (.str y))):=⟨by
 obtain⟨t,e⟩:=h;exact pe_glob hg e ⟨t,rfl⟩ hd⟩
section
variable{D:Addr}{x0:PySem.Str}{σ0:L2.St}{H1:Hp}{te:TE}
theorem comp_strU{Qf:Hp->Prop}(Pv:Nat->L2.St->Hp->Prop)(h0:Pv 0 σ0 H1)
 (step:∀ i σ' H',i < x0.cps.size->Pv i σ' H'->te (σ'.set 0 (some (.str (sgn x0 i)))) H' (fun y H4=>CN Pv x0.cps.size i D (σ'.set 0 (some (.str (sgn x0 i)))) y H4))
 (fin:∀ σ H,Pv x0.cps.size σ H->Qf H) :
 ∃ W:Nat->Nat->L2.St->Hp->Prop,(∃ m,W 0 m σ0 H1) /\ ∀ i m σ' H',W i m σ' H'->((Itx x0).stop i H'/\Qf H')∨((Itx x0).go i H' /\ ∀ x H2,(Itx x0).yld i H' x H2 ->
   if true=true then te (σ'.set 0 (some x)) H2 fun y H4=>∃ ys,H4 D=some (.lst ys)/\ys.length < sizeLine /\ ∃ m',m' < m/\W (i+1) m' (σ'.set 0 (some x)) (upd H4 D (.lst (ys++[y])))
   else ∃ m',m' < m/\W (i+1) m' (σ'.set 0 (some x)) H2):=by
 refine⟨fun i m σ H=>m=x0.cps.size - i/\i<=x0.cps.size/\Pv i σ H,⟨x0.cps.size,by omega,Nat.zero_le _,h0⟩,?_⟩
 rintro i m σ' H' ⟨rfl,hi,p⟩;by_cases hlt:i < x0.cps.size
 · refine .inr ⟨hlt,fun x H2 y=>?_⟩
   obtain⟨rfl,rfl⟩:=y;exact iteT (step i σ' _ hlt p)
 have e:i=x0.cps.size:=by omega
 subst e;exact .inl ⟨Nat.le_refl _,fin _ _ p⟩
end
theorem wIStr{tl:TE}{σ:L2.St}{H:Hp}{R:It->Hp->Prop}(h:tl σ H fun x H1=>∃ z,x=.str z/\z.cps.all (· < 128)=true/\R (Itx z) H1):iStr tl σ H R:=h
theorem wFS{ta tb:TE}{c:PySem.Str}{σ:L2.St}{H:Hp}{Q:VK}(h:ta σ H fun x H1=>∃ i:Int,x=.int i/\i.natAbs.log2 < 1920/\(PySem.Str.empty++(toString i:String):PySem.Str).length<=sizeLine/\(PySem.Str.empty++(toString i:String)++c:PySem.Str).length<=sizeLine/\tb σ H1 fun y H2=>∃ j:Int,y=.int j/\j.natAbs.log2 < 1920 /\
 (PySem.Str.empty++(toString i:String)++c++(toString j:String):PySem.Str).length<=sizeLine/\Q (.str (PySem.Str.empty++(toString i:String)++c++(toString j:String))) H2):tFS ta c tb σ H Q:=h
end SW
namespace SW
open PySem PySem.Spec PyProof.Rows L2
theorem cps_app(a b:PySem.Str):(a++b).cps.toList=a.cps.toList++b.cps.toList:=Array.toList_append
theorem str_ext{a b:PySem.Str}(h:a.cps.toList=b.cps.toList):a=b:=by
 cases a;cases b
 congr
 exact Array.toList_inj.mp h
theorem app_one{c:Nat}:∀{a b r s:List Nat},c∉a->c∉b->a++c::r=b++c::s->a=b/\r=s
 | [],[],_,_,_,_,e=>⟨rfl,(List.cons.inj e).2⟩
 | [],y::b,_,_,_,hb,e=>absurd (by rw[(List.cons.inj e).1];exact List.mem_cons_self) hb
 | x::a,[],_,_,ha,_,e=>absurd (by rw[← (List.cons.inj e).1];exact List.mem_cons_self) ha
 | x::a,y::b,_,_,ha,hb,e=>by
   obtain⟨e1,e2⟩:=List.cons.inj e;obtain⟨e3,e4⟩:=app_one (fun z=>ha (List.mem_cons_of_mem _ z)) (fun z=>hb (List.mem_cons_of_mem _ z)) e2;exact⟨by rw[e1,e3],e4⟩
theorem join_one(c:Nat):∀{ws vs:List PySem.Str},ws≠[]->vs≠[]->(∀ w∈ws,c∉w.cps.toList)->(∀ w∈vs,c∉w.cps.toList)->Str.join ⟨#[c]⟩ ws=Str.join ⟨#[c]⟩ vs->ws=vs
 | [],_,h,_,_,_,_=>absurd rfl h
 | _::_,[],_,h,_,_,_=>absurd rfl h
 | [w],[v],_,_,_,_,e=>by rw[show w=v from e]
 | [w],v::v'::vs,_,_,hw,_,e=>by
   refine absurd ?_ (hw w List.mem_cons_self);rw[show w=v++⟨#[c]⟩++Str.join ⟨#[c]⟩ (v'::vs)from e,cps_app,cps_app];exact List.mem_append_left _ (List.mem_append_right _ List.mem_cons_self)
 | w::w'::ws,[v],_,_,_,hv,e=>by
   refine absurd ?_ (hv v List.mem_cons_self);rw[show v=w++⟨#[c]⟩++Str.join ⟨#[c]⟩ (w'::ws)from e.symm,cps_app,cps_app];exact List.mem_append_left _ (List.mem_append_right _ List.mem_cons_self)
 | w::w'::ws,v::v'::vs,_,_,hw,hv,e=>by
   have e:=congrArg (fun s:PySem.Str=>s.cps.toList) (show w++⟨#[c]⟩++Str.join ⟨#[c]⟩ (w'::ws)=v++⟨#[c]⟩++Str.join ⟨#[c]⟩ (v'::vs)from e);simp only[cps_app,List.append_assoc]at e;obtain⟨e1,e2⟩:=app_one (hw w List.mem_cons_self) (hv v List.mem_cons_self) e;rw[str_ext e1,join_one c (by simp) (by simp) (fun x hx=>hw x (List.mem_cons_of_mem _ hx)) (fun x hx=>hv x (List.mem_cons_of_mem _ hx)) (str_ext e2)]
theorem split_ne(x y:PySem.Str):Txt.split x y≠[]:=fun z=>by
 have:=PyProof.Rows.split_pos x y;rw[z]at this;exact absurd this (by decide)
theorem split_words{c:Nat}{ws:List PySem.Str}(h:ws≠[])(hf:∀ w∈ws,c∉w.cps.toList):Txt.split (Str.join ⟨#[c]⟩ ws) ⟨#[c]⟩=ws:=
 join_one c (split_ne _ _) h (fun w hw=>PySem.StrLaws.split_free _ c w hw) hf (PySem.StrLaws.join_split _ _)
noncomputable def figs(m:Nat):List Nat:=(Nat.toDigits 10 m).map Char.toNat
noncomputable def tx(i:Int):PySem.Str:=PySem.Str.ofString (toString i)
theorem figs_all(m:Nat):PySem.NumText.AllDigits (figs m):=fun c hc=>by
 obtain⟨ch,hch,e⟩:=List.mem_map.mp hc;rw[← e];exact digit_range (Nat.isDigit_of_mem_toDigits (by decide) (by decide) hch)
theorem figs_ne(m:Nat):figs m≠[]:=fun e=>by
 have h:(Nat.toDigits 10 m).length<=0:=by rw[List.map_eq_nil_iff.mp e];exact Nat.le_refl _
 have:=Nat.length_toDigits_pos (b:=10) (n:=m);omega
theorem figs_val(m:Nat):PySem.NumText.digitsVal (figs m)=m:=W.KIN.val_back m
theorem figs_len{m:Nat}(h:m < 10 ^ 10):(figs m).length<=10:=by
 unfold figs;rw[List.length_map];exact(Nat.length_toDigits_le_iff (by decide) (by decide)).mpr h
theorem tx_nat(m:Nat):(tx (m:Int)).cps.toList=figs m:=W.KIN.signs_num m
theorem tx_neg(m:Nat):(tx (-((m+1:Nat):Int))).cps.toList=45::figs (m+1):=by
 show(PySem.Str.ofString (toString (Int.negSucc m))).cps.toList=_;rw[signs_ofString];show(("-" ++ Nat.repr (m+1)):String).toList.map Char.toNat=_;rw[String.toList_append,List.map_append,Nat.toList_repr]
 rfl
theorem figs_head{m:Nat}(h:m≠0):∃ c r,figs m=c::r/\c≠48:=by
 induction m using Nat.strongRecOn with
 | _ m ih=>
   by_cases h1:m < 10
   · refine⟨(Nat.digitChar m).toNat,[],by unfold figs;rw[Nat.toDigits_of_lt_base h1];rfl,?_⟩
     have:∀ d,d < 10->d≠0->(Nat.digitChar d).toNat≠48:=by decide
     exact this m h1 h
   obtain⟨c,r,e,hc⟩:=ih (m / 10) (by omega) (by omega)
   have hm:m % 10 < 10:=Nat.mod_lt m (by decide)
   have t:Nat.toDigits 10 (m / 10)++Nat.toDigits 10 (m % 10)=Nat.toDigits 10 (10*(m / 10)+m % 10):=Nat.toDigits_append_toDigits (by decide) (by omega) hm
   rw[Nat.div_add_mod]at t;refine⟨c,r++(Nat.toDigits 10 (m % 10)).map Char.toNat,?_,hc⟩;unfold figs at e ⊢;rw[← t,List.map_append,e]
   rfl
theorem tx_len{i:Int}(h:i.natAbs < 10 ^ 10):(tx i).length<=11:=by
 have:(tx i).length=(tx i).cps.toList.length:=by simp[PySem.Str.length]
 rw[this];rcases(show i < 0∨0<=i by omega)with z | z
 · obtain⟨m,rfl⟩:∃ m:Nat,i=-((m+1:Nat):Int):=⟨i.natAbs - 1,by omega⟩
   rw[tx_neg,List.length_cons];have:=figs_len (m:=m+1) (by omega)
   omega
 obtain⟨m,rfl⟩:=Int.eq_ofNat_of_zero_le z;rw[tx_nat];have:=figs_len (m:=m) (by omega)
 omega
theorem tx_reads{i:Int}(h:i.natAbs < 10 ^ 10):PySem.intText? (tx i)=some i:=by
 have hl:=tx_len h;rcases(show i < 0∨0<=i by omega)with z | z
 · obtain⟨m,rfl⟩:∃ m:Nat,i=-((m+1:Nat):Int):=⟨i.natAbs - 1,by omega⟩
   have e:=PySem.intText_neg (tx_neg m) (figs_all _) (figs_ne _) (Nat.le_trans hl (by decide))
   rw[figs_val]at e;exact e
 obtain⟨m,rfl⟩:=Int.eq_ofNat_of_zero_le z;have e:=PySem.intText_digits (x:=tx (m:Int)) (by rw[tx_nat];exact figs_all _) (by rw[tx_nat];exact figs_ne _) (Nat.le_trans hl (by decide))
 rw[tx_nat,figs_val]at e;exact e
theorem tx_signs(i:Int):∀ c∈(tx i).cps.toList,c=45∨(48<=c/\c<=57):=fun c hc=>by
 rcases(show i < 0∨0<=i by omega)with z | z
 · obtain⟨m,rfl⟩:∃ m:Nat,i=-((m+1:Nat):Int):=⟨i.natAbs - 1,by omega⟩
   rw[tx_neg]at hc;rcases List.mem_cons.mp hc with y | y
   · exact .inl y
   exact .inr (figs_all _ c y)
 obtain⟨m,rfl⟩:=Int.eq_ofNat_of_zero_le z;rw[tx_nat]at hc;exact .inr (figs_all _ c hc)
theorem tx_free(i:Int){c:Nat}(h:c < 45∨57 < c):c∉(tx i).cps.toList:=fun z=>by
 have:=tx_signs i c z;omega
theorem starts_one(x:PySem.Str)(c:Nat):Txt.startswith x ⟨#[c]⟩=decide (x.cps.toList.head?=some c):=by
 obtain⟨⟨l⟩⟩:=x;cases l with
 | nil=>rfl
 | cons a r=>
   show(decide (0+1<=(PySem.Str.mk ⟨a::r⟩).length) && Builtin.Str.subAt (PySem.Str.mk ⟨a::r⟩) ⟨#[c]⟩ 0)=_;rw[decide_eq_true (by simp[PySem.Str.length]),Bool.true_and]
   unfold Builtin.Str.subAt;have e:(PySem.Str.mk ⟨a::r⟩).cps.extract 0 (0+(PySem.Str.mk #[c]).length)=#[a]:=by
    simp[PySem.Str.length]
   rw[e];by_cases h:a=c
   · subst h;simp
   simp[h]
theorem cut_tail{x:PySem.Str}(h:x.cps.toList≠[]):(cutS x (some 1) none).cps.toList=x.cps.toList.tail:=by
 have hl:x.length=x.cps.toList.length:=by simp[PySem.Str.length]
 have h1:1<=x.length:=by rw[hl];exact List.length_pos_iff.mpr h
 have e:Builtin.Str.strSliceIndices (some 1) none 1 x.length=Builtin.Str.strSliceIndices (some ((1:Nat):Int)) (some ((x.length:Nat):Int)) 1 x.length:=by
  have h2:¬ (((x.length:Nat):Int) < 0):=by omega
  have e2:max (0:Int) (min ((x.length:Nat):Int) ((x.length:Nat):Int))=((x.length:Nat):Int):=by omega
  simp only[Builtin.Str.strSliceIndices,h2,if_false,e2,show((1:Int) > 0)=True from by simp,if_true]
  rfl
 unfold cutS;rw[e];rw[if_neg (by
  rw[PySem.StrLaws.strSliceIndices_plain h1 (Nat.le_refl _),List.length_map,List.length_range,beq_iff_eq]
  omega)]
 show(Builtin.Str.strSliceIndices (some ((1:Nat):Int)) (some ((x.length:Nat):Int)) 1 x.length).filterMap (x.cps[·]?)=_;rw[PySem.StrLaws.sliced_plain x h1 (Nat.le_refl _),List.drop_one];refine List.take_of_length_le ?_;rw[List.length_tail,hl];exact Nat.le_refl _
theorem minus_eq:PySem.Str.ofString "-"=⟨#[45]⟩:=by decide
theorem nought_eq:PySem.Str.ofString "0"=⟨#[48]⟩:=by decide
theorem blank_eq:PySem.Str.ofString " "=⟨#[32]⟩:=by decide
theorem figures_eq:(PySem.Str.ofString "0123456789").cps.toList=[48,49,50,51,52,53,54,55,56,57]:=by decide
noncomputable def fg(m:Nat):PySem.Str:=tx (m:Int)
theorem fg_cps(m:Nat):(fg m).cps.toList=figs m:=tx_nat m
theorem tx_minus(i:Int):Txt.startswith (tx i) (PySem.Str.ofString "-")=decide (i < 0):=by
 rw[minus_eq,starts_one];rcases(show i < 0∨0<=i by omega)with z | z
 · obtain⟨m,rfl⟩:∃ m:Nat,i=-((m+1:Nat):Int):=⟨i.natAbs - 1,by omega⟩
   rw[tx_neg,decide_eq_true z];exact decide_eq_true rfl
 obtain⟨m,rfl⟩:=Int.eq_ofNat_of_zero_le z;rw[show decide ((m:Int) < 0)=false from decide_eq_false (by omega)]
 refine decide_eq_false fun e=>?_;have:(45:Nat)∈(tx (m:Int)).cps.toList:=List.mem_of_mem_head? e;rw[tx_nat]at this;have:=figs_all m 45 this;omega
theorem tx_cut{i:Int}(h:i < 0):cutS (tx i) (some 1) none=fg i.natAbs:=by
 obtain⟨m,rfl⟩:∃ m:Nat,i=-((m+1:Nat):Int):=⟨i.natAbs - 1,by omega⟩
 refine str_ext ?_;rw[cut_tail (by rw[tx_neg];simp),tx_neg,fg_cps]
 show figs (m+1)=figs _
 congr 1
theorem tx_pos{i:Int}(h:0<=i):tx i=fg i.natAbs:=by
 unfold fg;rw[Int.natAbs_of_nonneg h]
theorem tx_ne_m0(i:Int):tx i≠PySem.Str.ofString "-0":=fun e=>by
 have e:(tx i).cps.toList=[45,48]:=by rw[e];decide
 rcases(show i < 0∨0<=i by omega)with z | z
 · obtain⟨m,rfl⟩:∃ m:Nat,i=-((m+1:Nat):Int):=⟨i.natAbs - 1,by omega⟩
   rw[tx_neg]at e;obtain⟨c,r,e2,hc⟩:=figs_head (m:=m+1) (by omega)
   rw[e2]at e;exact hc (List.cons.inj (List.cons.inj e).2).1
 obtain⟨m,rfl⟩:=Int.eq_ofNat_of_zero_le z;rw[tx_nat]at e;have:=figs_all m 45 (by rw[e];simp)
 omega
theorem fg_nought(m:Nat):fg m=PySem.Str.ofString "0" ∨ Txt.startswith (fg m) (PySem.Str.ofString "0")=false:=by
 by_cases h:m=0
 · subst h;exact .inl (by decide)
 refine .inr ?_;rw[nought_eq,starts_one,fg_cps];obtain⟨c,r,e,hc⟩:=figs_head h;rw[e];exact decide_eq_false fun z=>hc (Option.some.inj z)
theorem fg_len{m:Nat}(h:m < 10 ^ 10):1<=(fg m).length/\(fg m).length<=10:=by
 have e:(fg m).length=(figs m).length:=by rw[← fg_cps];simp[PySem.Str.length]
 rw[e];exact⟨List.length_pos_iff.mpr (figs_ne m),figs_len h⟩
theorem fg_ascii(m:Nat):(fg m).cps.all (· < 128)=true:=by
 rw[← Array.all_toList,fg_cps];refine List.all_eq_true.mpr fun c hc=>decide_eq_true ?_;have:=figs_all m c hc;omega
theorem fg_sign{m i:Nat}(h:i < (fg m).cps.size):(!(Builtin.Str.occurrences (PySem.Str.ofString "0123456789") (sgn (fg m) i) 0 (PySem.Str.ofString "0123456789").length 1).isEmpty)=true:=by
 unfold sgn;rw[PySem.StrLaws.found_one,figures_eq];refine decide_eq_true ?_;have hc:(fg m).cps.getD i 0∈figs m:=by
  rw[← fg_cps,Array.getD_eq_getD_getElem?,Array.getElem?_eq_getElem h];exact Array.mem_toList_iff.mpr (Array.getElem_mem h)
 have:=figs_all m _ hc;simp only[List.mem_cons,List.not_mem_nil,or_false];omega
theorem join_ok{sep:PySem.Str}{texts:List PySem.Str}{B:Nat}(hB:∀ y∈texts,y.length<=B)(h:texts.length*B+texts.length*sep.length<=16777216):JoinOk sep texts=true:=by
 unfold JoinOk;rw[PySem.StrLaws.joinFits hB h]
 rfl
theorem txt_join(sep:PySem.Str)(l:List PySem.Str):Txt.join sep l=Str.join sep l:=eq_of_beq (PyProof.Rows.join_plain_closes sep l)
theorem len_app(a b:PySem.Str):(a++b).length=a.length+b.length:=by
 have h:∀ x:PySem.Str,x.length=x.cps.toList.length:=fun x=>by simp[PySem.Str.length]
 rw[h,h,h,cps_app,List.length_append]
theorem look_deed{f m:Int}{pc:Nat}{M:MT}(T:TOk f m M)(d:Deed)(j v:Int)(h:tLook f m (deedM f m pc M d) j=some v):tLook f m M j=some v∨d=.put j v:=by
 obtain⟨T1,l1,c1⟩:=goOn_ok (pc:=pc) T;cases d with
 | put k y=>
   obtain⟨T2,l2,c2⟩:=putAt_ok (k:=k) (v:=y) T1;obtain⟨T3,l3,c3⟩:=beg_ok T2;have h:tLook f m (beg (SW.putAt f m (goOn f m pc M) k y)) j=some v:=h;rw[l3,l2,l1]at h;split at h
   · rename_i e
     cases h;exact .inr (by rw[e])
   exact .inl h
 | look k=>
   obtain⟨T3,l3,c3⟩:=beg_ok T1;have h:tLook f m (beg (goOn f m pc M)) j=some v:=h;rw[l3,l1]at h;exact .inl h
 | cut k=>
   obtain⟨T2,l2,c2⟩:=cutAt_ok (k:=k) T1;obtain⟨T3,l3,c3⟩:=beg_ok T2;have h:tLook f m (beg (SW.cutAt f m (goOn f m pc M) k)) j=some v:=h;rw[l3,l2,l1]at h;split at h
   · cases h
   exact .inl h
theorem cnt_deed1{f m:Int}{pc:Nat}{M:MT}(T:TOk f m M)(d:Deed):cnt (deedM f m pc M d)<=cnt M+1:=by
 obtain⟨T1,l1,c1⟩:=goOn_ok (pc:=pc) T;cases d with
 | put k y=>
   obtain⟨T2,l2,c2⟩:=putAt_ok (k:=k) (v:=y) T1;obtain⟨T3,l3,c3⟩:=beg_ok T2;show cnt (beg (SW.putAt f m (goOn f m pc M) k y))<=_;rw[c3,c2,c1];split <;> omega
 | look k=>
   obtain⟨T3,l3,c3⟩:=beg_ok T1;show cnt (beg (goOn f m pc M))<=_;rw[c3,c1];omega
 | cut k=>
   obtain⟨T2,l2,c2⟩:=cutAt_ok (k:=k) T1;obtain⟨T3,l3,c3⟩:=beg_ok T2;show cnt (beg (SW.cutAt f m (goOn f m pc M) k))<=_;rw[c3];omega
noncomputable def DB:Deed->Prop
 | .put k v=>InB (k,v)
 | .look k=>0<=k/\k<=1000000000
 | .cut k=>0<=k/\k<=1000000000
structure Lg(n:Nat)(f m:Int)(pc:Nat)(M:MT)(tc:Int):Prop where
 T:TOk f m M
 R:Rat M
 le:cnt M<=n
 p8:pc<=8
 bd:∀ k v,tLook f m M k=some v->InB (k,v)
 t0:0<=tc
 t1:tc<=100
theorem Lg.zero{f m:Int}{pc n:Nat}(T:TOk f m M0)(h:pc<=8):Lg n f m pc M0 0:=
 ⟨T,Rat0,Nat.le_trans (by decide) (Nat.zero_le n),h,fun k v e=>by(rw[M0_look]at e;cases e),by decide,by decide⟩
theorem Lg.deed{n pc:Nat}{f m tc:Int}{M:MT}{d:Deed}(g:Lg n f m pc M tc)(hb:DB d):Lg (n+1) f m pc (deedM f m pc M d) (tch f m pc M (deedK d):Nat):=by
 have h1:=cnt_deed1 (pc:=pc) g.T d;have h2:=g.le;have h3:=tch_le (pc:=pc) (k:=deedK d) g.T g.R;have h4:=g.p8;refine⟨(deed_ok g.T d).1,g.R.deed g.T d,by omega,g.p8,fun k v e=>?_,by omega,by omega⟩
 rcases look_deed g.T d k v e with z | z
 · exact g.bd k v z
 subst z;exact hb
theorem Lg.mono{n n' pc:Nat}{f m tc:Int}{M:MT}(g:Lg n f m pc M tc)(h:n<=n'):Lg n' f m pc M tc:=⟨g.T,g.R,Nat.le_trans g.le h,g.p8,g.bd,g.t0,g.t1⟩
theorem InB.small{p:Int×Int}(h:InB p):p.1.natAbs < 10 ^ 10/\p.2.natAbs < 10 ^ 10:=by
 obtain⟨⟨h1,h2⟩,h3,h4⟩:=h;have e:(10:Nat) ^ 10=10000000000:=by decide
 rw[e];omega
theorem Lg.look{n pc:Nat}{f m tc:Int}{M:MT}(g:Lg n f m pc M tc)(k:Int):∀ v,tLook f m M k=some v->v.natAbs < 10 ^ 10:=fun v e=>(g.bd k v e).small.2
theorem Lg.step{n pc:Nat}{f m tc c:Int}{M:MT}(g:Lg n f m pc M tc)(h0:0<=c)(h1:c<=65535):(∀ p∈stepR M c,p∈allP M/\InB p)/\(stepR M c).length<=cnt M:=by
 have h:∀ p∈stepR M c,p∈allP M:=fun p hp=>(step_in g.T g.R h0 (by omega) hp).1
 refine⟨fun p hp=>⟨h p hp,g.bd p.1 p.2 (g.T.tell (h p hp))⟩,?_⟩;rw[← allP_len];have nd:=step_nodup g.T g.R h0 (show c < 65536 by omega)
 have:=len_le_sub (a:=(stepR M c).map (·.1)) (b:=(allP M).map (·.1)) nd fun x hx=>by
  obtain⟨p,hp,rfl⟩:=List.mem_map.mp hx;exact List.mem_map.mpr ⟨p,h p hp,rfl⟩
 rwa [List.length_map,List.length_map]at this
theorem Lg.sizes{n pc:Nat}{f m tc:Int}{M:MT}(g:Lg n f m pc M tc):(∀ x,M.el.map List.length=some x->x<=4096)/\M.nw.length<=4096:=by
 have a:=g.T.sz.bounds;refine⟨fun x e=>?_,by omega⟩
 cases h:M.el with
 | none=>rw[h]at e;cases e
 | some E=>
   rw[h]at e;cases e;have:=(g.T.el E h).2.1.bounds;omega
theorem join_len{sep:PySem.Str}{B:Nat}:∀{ws:List PySem.Str},(∀ y∈ws,y.length<=B)->(Str.join sep ws).length<=ws.length*(B+sep.length)
 | [],_=>Nat.zero_le _
 | [w],h=>by
   have:=h w List.mem_cons_self;show w.length<=1*_;omega
 | w::w'::ws,h=>by
   have h1:=h w List.mem_cons_self;have h2:=join_len (sep:=sep) (ws:=w'::ws) fun y hy=>h y (List.mem_cons_of_mem _ hy);show(w++sep++Str.join sep (w'::ws)).length<=_;rw[len_app,len_app];rw[List.length_cons (a:=w),Nat.add_mul];omega
theorem app_as(a b c:PySem.Str):a++b++c=a++(b++c):=str_ext (by simp only[cps_app,List.append_assoc])
theorem row2{A w x y s:PySem.Str}(h:A=w++s):A++x++s++y=Str.join s [w,x,y]:=by
 rw[h];show w++s++x++s++y=w++s++(x++s++y);simp only[app_as]
theorem row3{A w x y z s:PySem.Str}(h:A=w++s):A++x++s++y++s++z=Str.join s [w,x,y,z]:=by
 rw[h];show w++s++x++s++y++s++z=w++s++(x++s++(y++s++z));simp only[app_as]
noncomputable def rowT(wd:PySem.Str)(ns:List Int):PySem.Str:=Str.join " " (wd::ns.map tx)
theorem split_ok{ws:List PySem.Str}{B:Nat}{s:PySem.Str}{c:Nat}(hs:s=⟨#[c]⟩)(h:ws≠[])(hf:∀ w∈ws,c∉w.cps.toList)(hB:∀ w∈ws,w.length<=B)(hl:ws.length*(B+1)<=1000000) :
 (s.length == 0)=false/\(Str.join s ws).length<=sizeLine/\(PySem.Builtin.Str.partsBetween (Str.join s ws) (PySem.Builtin.Str.occurrences (Str.join s ws) s 0 (Str.join s ws).length ((Str.join s ws).length+1)) s.length).length<=sizeLine/\(Txt.split (Str.join s ws) s).length<=sizeLine/\Txt.split (Str.join s ws) s=ws:=by
 subst hs;have lim:sizeLine=16777216:=sizeLine_eq;have h1:=join_len (sep:=⟨#[c]⟩) hB;have h2:(⟨#[c]⟩:PySem.Str).length=1:=rfl;rw[h2]at h1;have h3:=PySem.StrLaws.occ_length_le (Str.join ⟨#[c]⟩ ws) ⟨#[c]⟩ 0 (Str.join ⟨#[c]⟩ ws).length ((Str.join ⟨#[c]⟩ ws).length+1);have h4:ws.length<=ws.length*(B+1):=Nat.le_mul_of_pos_right _ (Nat.succ_pos _);refine⟨rfl,by omega,by rw[PyProof.Rows.len_partsBetween];omega,?_,split_words h hf⟩
 rw[split_words h hf];omega
noncomputable def dW:Deed->PySem.Str
 | .put _ _=>"put"
 | .look _=>"look"
 | .cut _=>"cut"
noncomputable def dN:Deed->List Int
 | .put k v=>[k,v]
 | .look k=>[k]
 | .cut k=>[k]
noncomputable def wTx:Option Int->PySem.Str
 | none=>"none"
 | some v=>tx v
noncomputable def szTx:Option Nat->Nat->PySem.Str
 | none,n=>tx (n:Int)
 | some e,n=>Str.join ">" [tx (e:Int),tx (n:Int)]
noncomputable def prTx(p:Int×Int):PySem.Str:=PySem.Str.empty++(toString p.1:String) ++ ":" ++ (toString p.2:String)
noncomputable def stTx(b:Int)(ps:MRow):PySem.Str:=Str.join " " (tx b::ps.map prTx)
noncomputable abbrev bhA(M:MT)(c:Int):Int:=behindA (placeA (lessR M).length c) (lessR M).length
inductive Ans(C CT PS:Addr)(pos:Pos)(qual:Str)(tb:Addr)(f m:Int)(pc:Nat)(M:MT)(tc:Int)(F:Addr->Prop)(H:Hp)(Q:VK):PySem.Str->List Int->Prop
 | keys (k:∀ H',Same H H'->Q (.str (tx (cnt M:Nat))) H'):Ans C CT PS pos qual tb f m pc M tc F H Q "keys" []
 | places (k:∀ H',Same H H'->Q (.str (szTx (M.el.map List.length) M.nw.length)) H'):Ans C CT PS pos qual tb f m pc M tc F H Q "places" []
 | touched (k:∀ H',Same H H'->Q (.str (tx tc)) H'):Ans C CT PS pos qual tb f m pc M tc F H Q "touched" []
 | step {c:Int} (h0:0<=c) (h1:c<=65535) (k:∀ H',LamH pos qual H' PS->KeepBut PS H H'->Q (.str (stTx (bhA M c) (stepR M c))) H'):Ans C CT PS pos qual tb f m pc M tc F H Q "step" [c]
 | deed (d:Deed) (hb:DB d) (k:∀ H' F',Tb C CT H' tb f m pc (deedM f m pc M d) (tch f m pc M (deedK d)) F'->Gr H F F'->Fr F H H'->Q (.str (wTx (tLook f m M (deedK d)))) H'):Ans C CT PS pos qual tb f m pc M tc F H Q (dW d) (dN d)
theorem Ans.same{C CT PS:Addr}{pos:Pos}{qual:Str}{tb:Addr}{f m:Int}{pc:Nat}{M:MT}{tc:Int}{F:Addr->Prop}{H H':Hp}{Q:VK}{wd:PySem.Str}{ns:List Int}(a:Ans C CT PS pos qual tb f m pc M tc F H Q wd ns)(s:Same H H'):Ans C CT PS pos qual tb f m pc M tc F H' Q wd ns:=by
 cases a with
 | keys k=>exact .keys fun H2 s2=>k H2 (s.trans s2)
 | places k=>exact .places fun H2 s2=>k H2 (s.trans s2)
 | touched k=>exact .touched fun H2 s2=>k H2 (s.trans s2)
 | step h0 h1 k=>exact .step h0 h1 fun H2 L k2=>k H2 L ((Same.but s).trans k2)
 | deed d hb k=>exact .deed d hb fun H2 F' S g2 f2=>k H2 F' S (fun b hb=>(g2 b hb).imp id fun z=>s.free z) fun b o n e=>f2 b o n (s b o e)
noncomputable def spAns(C CT PS:Addr)(pos:Pos)(qual:Str):Sp:=fun vs H Q _=>∃(tb l:Addr) (f m:Int) (pc:Nat) (M:MT) (tc:Int) (F:Addr->Prop) (wd:PySem.Str) (ns:List Int),vs=[.ref tb,.str wd,.ref l]/\Tb C CT H tb f m pc M tc F/\Lg 4000 f m pc M tc/\LamH pos qual H PS/\H l=some (.lst (ns.map V.int))/\Ans C CT PS pos qual tb f m pc M tc F H Q wd ns
theorem wAns{C CT PS:Addr}{pos:Pos}{qual:Str}{tb l:Addr}{f m:Int}{pc:Nat}{M:MT}{tc:Int}{F:Addr->Prop}{wd:PySem.Str}{ns:List Int}{H:Hp}{Q:VK}{E:XK}(S:Tb C CT H tb f m pc M tc F)(g:Lg 4000 f m pc M tc)(L:LamH pos qual H PS)(hl:H l=some (.lst (ns.map V.int)))(a:Ans C CT PS pos qual tb f m pc M tc F H Q wd ns):spAns C CT PS pos qual ([.ref tb,.str wd,.ref l]++[]) H Q E:=⟨tb,l,f,m,pc,M,tc,F,wd,ns,rfl,S,g,L,hl,a⟩
inductive Say(C CT CD PS:Addr)(pos:Pos)(qual:Str)(q dq:Addr)(tv:V)(H:Hp)(Q:VK):PySem.Str->List Int->Prop
 | table {a b p:Int} (h1:0<=a) (h2:a<=65535) (h3:0<=b) (h4:b<=65535) (h5:1<=p) (h6:p<=8) (k:∀ tb H' F',Tb C CT H' tb a b p.toNat M0 0 F'->(∀ x,F' x->H x=none)->H' q=some (.ins CD dq [("table",.ref tb)])->KeepBut q H H'->Q (.str "ok") H'):Say C CT CD PS pos qual q dq tv H Q "table" [a,b,p]
 | ans {tb:Addr}{f m:Int}{pc:Nat}{M:MT}{tc:Int}{F:Addr->Prop}{wd:PySem.Str}{ns:List Int} (e:tv=.ref tb) (S:Tb C CT H tb f m pc M tc F) (g:Lg 4000 f m pc M tc) (L:LamH pos qual H PS) (a:Ans C CT PS pos qual tb f m pc M tc F H Q wd ns):Say C CT CD PS pos qual q dq tv H Q wd ns
noncomputable def spSay(C CT CD PS:Addr)(pos:Pos)(qual:Str):Sp:=fun vs H Q _=>∃(q dq:Addr) (tv:V) (wd:PySem.Str) (ns:List Int),vs=[.ref q,.str (rowT wd ns)]/\H q=some (.ins CD dq [("table",tv)])/\Say C CT CD PS pos qual q dq tv H Q wd ns
theorem wSay{C CT CD PS:Addr}{pos:Pos}{qual:Str}{q dq:Addr}{tv:V}{wd:PySem.Str}{ns:List Int}{H:Hp}{Q:VK}{E:XK}{x:PySem.Str}(e:x=rowT wd ns)(h:H q=some (.ins CD dq [("table",tv)]))(s:Say C CT CD PS pos qual q dq tv H Q wd ns):spSay C CT CD PS pos qual (V.ref q::([.str x]++[])) H Q E:=⟨q,dq,tv,wd,ns,by rw[e];rfl,h,s⟩
section
variable{X:Cx}{tg:Expr}
end
noncomputable def spDInit(CD:Addr):Sp:=fun vs H Q _=>∃(x dx:Addr),vs=[.ref x]/\H x=some (.ins CD dx [])/\Q .non (upd H x (.ins CD dx [("table",.non)]))
theorem wDesk{CD:Addr}{H:Hp}{Qf:Addr->Hp->Prop}{E:XK}(q:∀ x dx H',H x=none->H' x=some (.ins CD dx [("table",.non)])->Same H H'->Qf x H') :
 ∀ x dx,H x=none->H dx=none->dx≠x->spDInit CD [V.ref x] (upd (upd H dx (.own x)) x (.ins CD dx [])) (fun v H2=>v=.non/\Qf x H2) E:=fun x dx hx hdx hne=>
 ⟨x,dx,rfl,upd_same,rfl,q x dx _ hx upd_same fun b o e=>by rw[upd_ne (ne_of_none e hx),upd_ne (ne_of_none e hx),upd_ne (ne_of_none e hdx)];exact e⟩
section
variable{prog:Program}{w:World}{A:Around}{E:Value->Shared->Prop}
end
theorem hok_hide{P:Program}{w:World}{H:Hp}{h:Heap}{fs:List Addr}(x:HOk P w H h)(n:∀ b∈fs,H b=none):HOk P w H (W.hideAll h fs):=fun a o e=>
 (x a o e).stay (fun b u hb q=>W.hideAll_get fs q fun z=>by
  have z:=n b z;rcases hb with rfl | hb
  · rw[z]at e;cases e
  rw[z]at hb;cases hb) (fun _ q=>q) fun _ _ q=>q
structure Lies(P:Program)(w:World)(outer:List Env)(H:Hp)(s s':Shared)(ea C t:Addr)(B:Heap)(H':Hp):Prop where
 fly:Heap.FlyingW B outer ea (.ref C) (.ref t) s'.heap
 hok:HOk P w H' B
 keep:∀ b o,s.heap.get? b=some o->H b=none->b∉frs outer->B.get? b=some o
 there:∀ b o,s.heap.get? b=some o->b∉frs outer -> ∃ o',B.get? b=some o'
 slot:∀ b o,s.heap.get? b=some o->b∈frs outer -> ∃ sl,s'.heap.get? b=some { o with slots:=sl }
 free:∀ b o,s.heap.get? b=some o->H b=none->H' b=none
 tups:∀ b xs,H b=some (.tup xs)->H' b=some (.tup xs)
 frzs:∀ b o u,H b=some (.frz o u)->H' b=some (.frz o u)
 tbls:∀ b ps,H b=some (.tbl ps) -> ∃ more,H' b=some (.tbl (ps++more))
 bare:AllBare s'.gens
 os:s'.os=s.os
noncomputable def CXr(P:Program)(w:World):CXT:=fun outer H s E e s'=>∃(ea C t:Addr) (B:Heap) (H':Hp),e=.ref ea/\Lies P w outer H s s' ea C t B H'/\E (.ref C) none H'
section
variable{P:Program}{w:World}{outer:List Env}{H H':Hp}{s s':Shared}{ea C t:Addr}{B h6:Heap}
theorem Lies.un(L:Lies P w outer H s s' ea C t B H')(hB:B.StaysIn h6)(sm:s'.heap.UpToSlots h6):Un (frs outer) [] H H' s.heap h6:=by
 have sl6:∀ b o,s.heap.get? b=some o->b∈frs outer -> ∃ sl,h6.get? b=some { o with slots:=sl }:=fun b o q hf=>by
  obtain⟨sl,e⟩:=L.slot b o q hf;obtain⟨o',e',nd⟩:=(L.fly.2.2.1.mem hf).2;rw[e]at e';cases e';obtain⟨sl',e6⟩:=sm _ _ e nd;exact⟨sl',e6⟩
 refine⟨fun b o q n hf _=>hB _ _ (L.keep b o q n hf),fun b o q n hf _=>sl6 b o q hf,fun b o q n _=>L.free b o q n,fun b o q _=>?_,L.tups,L.frzs,L.tbls⟩;by_cases hf:b∈frs outer
 · obtain⟨sl,e⟩:=sl6 b o q hf
   exact⟨_,e⟩
 obtain⟨o',e⟩:=L.there b o q hf;exact⟨o',hB _ _ e⟩
end
section
variable{P:Program}{w:World}{K:W.Frag}{mg:Str->Option Value}{base:Heap}{N:List Str}{qual:Str}{scope:Scope}{f:Addr}{cd:Value}{A:Around}{outer:List Env}{s₀:Shared}{H₀:Hp}{E:XK}
theorem stk_split{X:Cx}{pins:List (Addr×Obj)}{σ:L2.St}{H:Hp}{s:Shared}(I:L2.Inv X pins σ H s){b:Addr}(h:b < X.s₀.heap.objs.size)(hb:b∉X.fs):b∉frs X.stack:=fun z=>by
 rcases List.mem_cons.mp (I.stkSub b z)with e | e
 · have:=I.ok.above
   rw[← e]at this;exact absurd h (Nat.not_lt.mpr this)
 exact hb e
theorem xe_made{pins:List (Addr×Obj)}{σ:L2.St}{H:Hp}{s:Shared}{h':Heap}{e C:Addr}{vs:List Value}
 (I:L2.Inv (cxOf (CXr P w) P w K mg base N qual scope f cd A outer s₀ H₀ E) pins σ H s) (hx:Heap.MadeExcOf s.heap h' e (.ref C) vs) (hE:E (.ref C) none H) :
 (cxOf (CXr P w) P w K mg base N qual scope f cd A outer s₀ H₀ E).xe (.ref e) { s with heap:=h' }:=by
 have hin:∀ env∈(cxOf (CXr P w) P w K mg base N qual scope f cd A outer s₀ H₀ E).stack,∀ b,env.frame=some b->b∈frs (cxOf (CXr P w) P w K mg base N qual scope f cd A outer s₀ H₀ E).stack:=fun env he b hb=>List.mem_filterMap.mpr ⟨env,he,hb⟩;refine wpAny_leaves_madeW (base:=W.hideAll s.heap (frs (cxOf (CXr P w) P w K mg base N qual scope f cd A outer s₀ H₀ E).stack)) (h:=s.heap) I.ok.frames rfl (fun b o q=>W.of_hideAll _ q) (W.funFrames_hide I.stack hin) hx fun h'' t fl tup tn sm=>?_;have lt:∀{b o},s₀.heap.get? b=some o->b < s₀.heap.objs.size:=fun q=>Heap.lt_size q;refine⟨e,C,t,_,H,rfl,⟨fl,hok_hide I.hok I.stkFree,fun b o q n hf=>?_,fun b o q hf=>?_,fun b o q hf=>?_,fun b o q n=>I.base.free b o q n (by show b∉[];simp),I.base.tups,I.base.frzs,I.base.tbls,I.bare,I.os⟩,hE⟩
 · exact W.hideAll_get _ (I.base.keep b o q n hf (by show b∉[];simp)) (stk_split I (lt q) hf)
 · obtain⟨o',e'⟩:=I.base.there b o q (by show b∉[];simp)
   exact⟨o',W.hideAll_get _ e' (stk_split I (lt q) hf)⟩
 obtain⟨sl,e1⟩:=I.base.slot b o q (I.ok.frf b hf) hf (by show b∉[];simp)
 obtain⟨o',e',nd⟩:=(fl.2.2.1.mem hf).2;have e2:=hx.keeps _ _ e1;have nd1:∀ vs,({ o with slots:=sl }:Obj).data ≠ .fields vs:=by
  obtain⟨o2,e2',nd2⟩:=(I.funs.mem hf).2;rw[e1]at e2';cases e2';exact nd2
 obtain⟨sl',e6⟩:=sm _ _ e2 nd1;exact⟨sl',e6⟩
end
section
variable{P:Program}{w:World}{K:W.Frag}{mg:Str->Option Value}{base:Heap}{N:List Str}{qual:Str}{scope:Scope}{f:Addr}{cd:Value}{A:Around}{outer:List Env}{s₀:Shared}{H₀:Hp}{E:XK}
noncomputable def OwnX(K:W.Frag)(C:Addr):Prop:=W.excIn K C [.type "ValueError",.type "Exception",.type "BaseException",.type "object"] "ValueError.__new__"=true
theorem own_obj{h:Heap}{C:Addr}{bmB:List Value}{newId:String}(X:K.In h)(q:W.excIn K C bmB newId=true):∃ bm N nm q bs hdct sn sub ab col dd k0 k1 k2 k3 k5 mN,h.get? C=some (excClassObj nm q C N bs bm hdct sn sub ab col dd k0 k1 k2 k3 k5 newId)/\h.Ns N mN/\mN "__init__"=none/\OwnTail h bmB bm:=by
 unfold W.excIn at q;split at q
 · rename_i dd cd sl ho
   split at q
   · rename_i C' bm k0 k1 k2 k3 n k5 hm hs
     simp only[Bool.and_eq_true,beq_iff_eq,Bool.not_eq_true']at q;obtain⟨⟨⟨⟨⟨rfl,rfl⟩,hdel⟩,ht⟩,hok⟩,hni⟩:=q;obtain⟨nm,bs,mro,ns,qn,hd,sn,sub,ab,col,del⟩:=cd
     dsimp only at hm hdel hok hni
     subst hm hdel;have hsl:sl=#[k0,k1,k2,k3,some (.builtin n),k5]:=by
      obtain⟨l⟩:=sl;simp only at hs;rw[hs]
     subst hsl;exact⟨bm,ns,nm,qn,bs,hd,sn,sub,ab,col,dd,k0,k1,k2,k3,k5,_,X _ _ ho,.of_isNs (W.isNs_of_in X hok),W.nsMap_none_of_in X hok hni,W.tail_of_in X ht⟩
   cases q
 cases q
noncomputable def tRaise(E:XK)(C:Addr):TS:=fun _ _ H=>E (.ref C) none H
theorem ps_raise{x msg:Str}{kk}{C:Addr}{np p1 cpos pos:Pos}(hm:mg x=some (.ref C))(hx:OwnX K C)(hg:Gl (cxOf (CXr P w) P w K mg base N qual scope f cd A outer s₀ H₀ E) x)(hd:(x == ("__debug__":Str))=false) :
 PS (cxOf (CXr P w) P w K mg base N qual scope f cd A outer s₀ H₀ E) (.Raise (some (.Call (.Name x np) [.Constant (.str msg) kk p1] [] cpos)) none pos) (tRaise E C):=by
 intro pins s σ H D I h;obtain⟨bm,N',nm,q,bs,hdct,sn,sub,ab,col,dd,k0,k1,k2,k3,k5,mN,hC,hN,hni,T⟩:=own_obj I.ok.mod.kin hx;refine wpAny_Raise_call_subT (C:=C) (nm:=nm) (q:=q) (N:=N') (bs:=bs) (bm:=bm) (hdct:=hdct) (sn:=sn) (sub:=sub) (ab:=ab) (col:=col) (dd:=dd) (k0:=k0) (k1:=k1) (k2:=k2) (k3:=k3) (k5:=k5)
  PySem.F.excBase_ValueError (mN:=mN) (T.hasType PySem.F.excBase_ValueError.hasBase) (I.ok.hd rfl) rfl hni (ld_glob I hg hm ⟨rfl,?_⟩ hd)
 refine Calls.evalArgs_plain ?_;refine thn ((pa_cons pe_str pa_nil) cpos pins s σ H (fun vs H'=>H'=H/\vs.length<=sizeLine) I ⟨rfl,by show(1:Nat)<=sizeLine;decide⟩) fun us s2 zz=>?_
 obtain⟨vs,H2,I2,r,e,hl⟩:=zz;subst e;exact⟨rfl,by show us.length<=sizeLine;rw[← r.length];exact hl,I2.bk _ _ hC,hN.keeps I2.bk,T.keeps I2.bk,fun h' e hx=>xe_made I2 hx h⟩
end
section
variable{X:Cx}{pins:List (Addr×Obj)}{σ:L2.St}{H:Hp}{s:Shared}
theorem name_gone{M:Model}{A:Around}{E:Value->Shared->Prop}{i:Nat}{x:Str}{pos:Pos}{Q:Unit->Shared->Prop}(I:L2.Inv X pins σ H s)(hN:X.N.Nodup)(hi:X.N[i]?=some x)(hk:X.env.scope.names.lookup x=some .local)
 (h:∀ s',L2.Inv X pins (σ.set i none) H s'->Q () s'):wpAny M A (do bindName X.env x .none;unbindBehindTheSuite X.env x pos) Q E s:=by
 have hcls:(X.env.scope.kind == .class || (X.env.scope.kind == .module && X.env.locals != X.env.globals))=false:=by rw[I.ok.kind];rfl
 have hl:X.env.kindOf x=some .local:=hk;refine wpAny_bind (wpAny_bindName (store_ok (v:=.non) I hN hi (.inl hk) rfl (fun s1 I1=>?_) (.inr hk)));obtain⟨m,hn,hm⟩:=id I1.loc;have hiσ:i < (σ.set i (some V.non)).length:=by rw[I1.len];exact(List.getElem?_eq_some_iff.mp hi).1
 have hmx:∃ u,m x=some u:=by
  obtain⟨u,_,q⟩:=hm i x .non hi (List.getElem?_set_self (by simpa using hiσ)) (.inl hk)
  rcases q with ⟨_,e⟩ | ⟨k,_⟩
  · exact⟨u,e⟩
  rcases k with k | k <;> rw[hl]at k <;> cases k
 obtain⟨u,hmu⟩:=hmx;unfold unbindBehindTheSuite;refine wpAny_onRaise ?_;unfold unbindName;refine wpAny_bind (wpAny_point (wpAny_bind ?_));unfold deleteName;simp only[hl,hcls];rw[if_neg (by decide)]
 refine wpAny_bind (wpAny_nsDel_keeps hn fun h2 v hn2 hs=>?_);rw[hmu];simp only[Option.isSome_some,Bool.not_true,Bool.false_eq_true,if_false];refine wpAny_pure (wpAny_point (h _ ?_));obtain⟨oL,_,_,hoL,_⟩:=id hn;have cne:=I1.cne;refine⟨I1.ok,I1.os,I1.bare,⟨fun b o e n hb hx=>?_,fun b o e n hb hx=>?_,I1.base.free,fun b o e hx=>?_,I1.base.tups,I1.base.frzs,I1.base.tbls⟩,⟨_,hn2,fun j y v' e1 e2 e3=>?_⟩,fun y c e=>?_,I1.free,I1.freeC,fun p hp=>?_,fun b ob e=>?_,by simpa using I1.len⟩
 · exact(hs.2 b (Nat.ne_of_lt (Nat.lt_of_lt_of_le (Heap.lt_size e) I1.ok.above))).trans (I1.base.keep b o e n hb hx)
 · obtain⟨sl,e1⟩:=I1.base.slot b o e n hb hx
   exact⟨sl,(hs.2 b (Nat.ne_of_lt (Nat.lt_of_lt_of_le (Heap.lt_size e) I1.ok.above))).trans e1⟩
 · obtain⟨o',e1⟩:=I1.base.there b o e hx
   exact⟨o',(hs.2 b (Nat.ne_of_lt (Nat.lt_of_lt_of_le (Heap.lt_size e) I1.ok.above))).trans e1⟩
 · by_cases hj:j=i
   · subst hj
     rw[List.getElem?_set_self (by simpa using hiσ)]at e2
     cases e2
   rw[List.getElem?_set_ne (Ne.symm hj)]at e2;obtain⟨u',r',q⟩:=hm j y v' e1 (by rw[List.getElem?_set_ne (Ne.symm hj)];exact e2) e3
   refine⟨u',r',?_⟩;rcases q with ⟨k,e⟩ | ⟨k,c,e,z⟩
   · refine .inl ⟨k,?_⟩
     have:y≠x:=fun e=>hj (nodup_ix hN e1 (e ▸ hi));simp[this,e]
   exact .inr ⟨k,c,e,z.sameBut hs (cne y c e)⟩
 · obtain⟨w',z⟩:=I1.cell y c e
   exact⟨w',z.sameBut hs (cne y c e)⟩
 · obtain⟨e,n,ne,nf,d⟩:=I1.pin p hp
   exact⟨(hs.2 p.1 ne).trans e,n,ne,nf,d⟩
 refine(I1.hok b ob e).stay (fun c w' hc q=>(hs.2 c ?_).trans q) (fun _ q=>q) fun _ _ q=>q;rintro rfl;rcases hc with hc | hc
 · rw[← hc,I1.free]at e;cases e
 rw[I1.free]at hc;cases hc
noncomputable def excO(ea C:Addr):HO:=.ext fun h=>∃ ob,h.get? ea=some ob/\ob.cls=.ref C
theorem excO_ok{P:Program}{w:World}{H:Hp}{h:Heap}{ea C:Addr}(h1:∃ ob,h.get? ea=some ob/\ob.cls=.ref C):ObjOk P w H h ea (excO ea C):=
 ⟨h1,let⟨ob,e,_⟩:=h1;⟨ob,e⟩,fun _ _ ⟨ob,e,c⟩ k=>⟨ob,k ob e,c⟩⟩
theorem inv_track{a:Addr}{o:HO}(I:L2.Inv X pins σ H s)(hn:H a=none)(h0:X.s₀.heap.get? a=none)(hL:a≠X.env.locals)(hc:∀ x c,X.env.cells.lookup x=some c->c≠a)(hp:∀ p∈X.pn++pins,p.1≠a)(ok:ObjOk X.prog X.w (upd H a o) s.heap a o):L2.Inv X pins σ (upd H a o) s:=by
 have ne:∀{b u},H b=some u->b≠a:=fun e z=>by rw[z,hn]at e;cases e
 have st:∀{b u},H b=some u->upd H a o b=some u:=fun e=>by rw[upd_ne (ne e)];exact e
 refine⟨I.ok,I.os,I.bare,⟨I.base.keep,I.base.slot,fun b ob e n hx=>?_,I.base.there,fun b xs e=>st (I.base.tups b xs e),fun b ob u e=>st (I.base.frzs b ob u e),fun b ps e=>?_⟩,I.loc,I.cell,?_,fun x c e=>?_,fun p hp'=>?_,fun b u e=>?_,I.len⟩
 · rw[upd_ne (fun z=>by rw[z,h0]at e;cases e)]
   exact I.base.free b ob e n hx
 · obtain⟨more,q⟩:=I.base.tbls b ps e
   exact⟨more,st q⟩
 · rw[upd_ne hL.symm];exact I.free
 · rw[upd_ne (hc x c e)];exact I.freeC x c e
 · obtain⟨e,n,ne',nf,d⟩:=I.pin p hp'
   exact⟨e,by rw[upd_ne (hp p hp')];exact n,ne',nf,d⟩
 by_cases z:b=a
 · subst z
   rw[upd_same]at e;cases e;exact ok
 rw[upd_ne z]at e;exact(I.hok b u e).stay (fun _ _ _ q=>q) (fun _ q=>st q) fun _ _ q=>st q
end
theorem obj_some{P:Program}{w:World}{H:Hp}{h:Heap}{a:Addr}{o:HO}(x:ObjOk P w H h a o):∃ ob,h.get? a=some ob:=by
 cases o with
 | lst xs=>obtain⟨z,its,n,r,e⟩:=x;exact⟨_,e⟩
 | tup xs=>obtain⟨z,its,r,ob,e,c⟩:=x;exact⟨_,e⟩
 | dK kvs=>obtain⟨z,y,vs,r,ob,es,ep,e,c⟩:=x;exact⟨_,e⟩
 | dT kvs=>obtain⟨z,y,xs,r,ob,es,ep,e,c⟩:=x;exact⟨_,e⟩
 | set S n=>obtain⟨ob,es,ep,t,e,c⟩:=x;exact⟨_,e⟩
 | ins C dx fs=>obtain⟨d,z,ne,e,r⟩:=x;exact⟨_,e⟩
 | own y=>obtain⟨ob,e⟩:=x;exact⟨_,e⟩
 | xd fs=>obtain⟨mA,⟨od,es,ep,e,c⟩,r⟩:=x;exact⟨_,e⟩
 | rng lo hi=>obtain⟨t,u,v,e⟩:=x;exact⟨_,e⟩
 | frz ob u=>obtain⟨e,q⟩:=x;exact⟨_,e⟩
 | tbl ps=>exact⟨_,(show h.get? a=some { cls:=.none,data:=.fields ps } from x)⟩
 | met f y=>exact⟨_,(show h.get? a=some (W.methodObj (.ref f) (.ref y))from x)⟩
 | ext φ=>obtain⟨p,⟨o,e⟩,st⟩:=x;exact⟨_,e⟩
theorem Lies.new{P:Program}{w:World}{outer:List Env}{H H':Hp}{s s':Shared}{ea C t:Addr}{B:Heap}(L:Lies P w outer H s s' ea C t B H'):s.heap.get? ea=none:=by
 cases e:s.heap.get? ea with
 | none=>rfl
 | some o=>
   exfalso
   by_cases hf:ea∈frs outer
   · obtain⟨sl,e1⟩:=L.slot ea o e hf
     obtain⟨o',e',nd⟩:=(L.fly.2.2.1.mem hf).2;obtain⟨oe,ws,hoe,hoec,hoed,hoe0⟩:=L.fly.first;rw[hoe]at e';cases e';exact nd _ hoed
   obtain⟨o',e'⟩:=L.there ea o e hf;rw[L.fly.2.1]at e';cases e'
theorem Lies.untracked{P:Program}{w:World}{outer:List Env}{H H':Hp}{s s':Shared}{ea C t:Addr}{B:Heap}(L:Lies P w outer H s s' ea C t B H'):H' ea=none:=by
 cases e:H' ea with
 | none=>rfl
 | some o=>
   obtain⟨ob,q⟩:=obj_some (L.hok ea o e);rw[L.fly.2.1]at q;cases q
noncomputable def Cx.held(X:Cx)(ea:Addr):Cx:={ X with A:=X.A.mark (some (.ref ea)),calm:=false }
section
variable{X:Cx}{pins:List (Addr×Obj)}{σ:L2.St}{H:Hp}{s:Shared}
theorem inv_held(I:L2.Inv X pins σ H s)(ea:Addr):L2.Inv (Cx.held X ea) pins σ H s:=
 ⟨⟨I.ok.mod,I.ok.kind,I.ok.glob,I.ok.blt,I.ok.above,I.ok.inj,I.ok.has,I.ok.cab,(fun z=>by cases z),I.ok.frames,I.ok.stk,I.ok.exf,I.ok.bs,I.ok.bsz,I.ok.noex,I.ok.exfs,I.ok.funs,I.ok.frf⟩,I.os,I.bare,I.base,I.loc,I.cell,I.free,I.freeC,I.pin,I.hok,I.len⟩
theorem inv_unheld{ea:Addr}(hc:X.calm=true->X.A.handled=none)(I:L2.Inv (Cx.held X ea) pins σ H s):L2.Inv X pins σ H s:=
 ⟨⟨I.ok.mod,I.ok.kind,I.ok.glob,I.ok.blt,I.ok.above,I.ok.inj,I.ok.has,I.ok.cab,hc,I.ok.frames,I.ok.stk,I.ok.exf,I.ok.bs,I.ok.bsz,I.ok.noex,I.ok.exfs,I.ok.funs,I.ok.frf⟩,I.os,I.bare,I.base,I.loc,I.cell,I.free,I.freeC,I.pin,I.hok,I.len⟩
noncomputable def PassAt(CX:CXT)(X:Cx)(pins:List (Addr×Obj))(σ:L2.St)(E:XK):Prop:=∀ H s e s',L2.Inv X pins σ H s->CX X.stack H s E e s'->X.xe e s'
end
section
variable{X:Cx}
noncomputable def tTry(K:W.Frag)(te:XK->TE)(CB:Addr)(i:Nat)(ts:TS):TS:=fun D σ H=>
 te (fun cls _ H'=>∃ C,cls=.ref C/\W.exmOne K (.ref C) (.ref CB)=some true /\ ∀ ea,H' ea=none->ts { nx:=fun σ2 H2=>D.nx (σ2.set i none) H2,rt:=fun _ _=>False } (σ.set i (some (.ref ea))) (upd H' ea (excO ea C))) σ H (fun _ H1=>D.nx σ H1)
theorem ps_try{e0:Expr}{te:XK->TE}{cx n:Str}{CB:Addr}{i:Nat}{b₀:Stmt}{suite:List Stmt}{ts:TS}{bpos np hpos pos:Pos}
 (hex:X.ex=[]) (hstk:X.stack=X.env::X.outer) (hfr:X.env.frame=some X.env.locals) (hN:X.N.Nodup) (hi:X.N[i]?=some n) (hk:X.env.scope.names.lookup n=some .local)
 (hg:Gl X cx) (hm:X.mg cx=some (.ref CB)) (hd:(cx == ("__debug__":Str))=false)
 (hev:∀(xe':Value->Shared->Prop) (pins:List (Addr×Obj)) (σ:L2.St) (E:XK),PassAt (CXr X.prog X.w) (X.wish xe') pins σ E -> ∀ s H Q,L2.Inv (X.wish xe') pins σ H s->te E σ H Q->wpAny (model X.prog X.w) X.A (eval e0 X.env) (EP (X.wish xe') pins σ Q) xe' s)
 (hsw:swapsWith e0 none bpos.line X.env=pure false)
 (hs:∀ ea,PSs (Cx.held X ea).nox (b₀ :: suite) ts) :
 PS X (.Try [.Expr e0 bpos] [.ExceptHandler (some (.Name cx np)) (some n) (b₀ :: suite) hpos] [] [] pos) (tTry X.K te CB i ts):=by
 intro pins s σ H D I h;refine wpAny_Try_except ?_;refine wpAny_mono (wpAny_execs_cons (Q:=fun fl s'=>fl=.next /\ ∃ H',L2.Inv X pins σ H' s'/\D.nx σ H') ?_) (fun fl s1 ⟨e,H1,I1,q⟩=>?_) fun _ _ z=>z
 · refine thn (wpAny_Expr_any (Q:=fun fl s'=>fl=.next /\ ∃ H',L2.Inv X pins σ H' s'/\D.nx σ H') (thn (hev _ pins σ _ ?_ s H _ (I.wish _) h) fun v s1 ⟨x,H1,I1,r1,q1⟩=>⟨rfl,H1,I1.unwish,q1⟩) I.quiet hsw) fun fl s1 ⟨e,q⟩=>by
    subst e;exact wpAny_execs_nil ⟨rfl,q⟩
   intro H1 s1 e s' I1 hc;obtain⟨ea,C,t,B,H',rfl,L,C',eC,hsub,hsuite⟩:=hc;cases eC;have I1:=I1.unwish;have hst:X.stack=X.env::X.outer:=hstk;have L:Lies X.prog X.w X.stack H1 s1 s' ea C t B H':=L;have fl:Heap.FlyingW B (X.env::X.outer) ea (.ref C) (.ref t) s'.heap:=by rw[← hst];exact L.fly
   have frm:X.A.frames=some (X.env::X.outer):=by rw[← hst];exact I1.ok.frames
   have back:∀{h6:Heap}{tk:Nat},B.StaysIn h6->s'.heap.UpToSlots h6->L2.Inv X pins σ H' { s' with heap:=h6,toks:=tk }:=fun {h6 tk} hB sm=>
    I1.call' (s':={ s' with heap:=h6,toks:=tk }) L.os (L.un hB sm) (L.hok.kept hB) L.bare fun b z=>absurd z (by simp)
   show wpAny _ _ (noteFrame (.ref ea) X.env) _ _ _;refine wpAny_looks_onW frm hfr fl fun h4 held4 sm4=>?_;refine wpAny_landsW held4 fun h5 fl5 sm5=>?_;have sm45:=sm4.trans sm5;have I5:=back (tk:=s'.toks) fl5.1 sm45;have I5h:=inv_held I5 ea;refine wpAny_handleBy_cons (codeAny_handlers_test (ld_glob (X:=Cx.held X ea) I5h hg hm ?_ hd)) (by intro q;cases q)
   have LT:W.Looks (model X.prog X.w) h5 (typeOf (.ref ea)) (.ref C):=by
    obtain⟨ob,hob,hc⟩:=fl5.there;rw[← hc];exact(W.Looks.ld hob).andThen .now
   refine W.exm_one (K:=X.K) I5.kIn LT hsub _ _ _ _ (fun _ _ e=>e) ?_;refine codeAny_handlers_suite_as ?_;refine lands_againW fl5 fun h6 fl6 sm6=>?_;have I6:=back (tk:=s'.toks) fl6.1 (sm45.trans sm6);have new:=L.new;have I6t:L2.Inv X pins σ (upd H' ea (excO ea C)) { s' with heap:=h6,toks:=s'.toks }:=by
    refine inv_track I6 L.untracked ?_ ?_ ?_ ?_ (excO_ok ?_)
    · cases e:X.s₀.heap.get? ea with
      | none=>rfl
      | some o=>
        obtain⟨o',e'⟩:=I1.base.there ea o e (by rw[hex];simp)
        rw[new]at e';cases e'
    · rintro rfl
      obtain⟨m,⟨oL,_,_,hoL,_⟩,_⟩:=I1.loc;rw[new]at hoL;cases hoL
    · rintro x c e rfl
      obtain⟨v,o,q,_⟩:=I1.cell x _ e;rw[new]at q;cases q
    · rintro p hp z
      have:=(I1.pin p hp).1;rw[z,new]at this;cases this
    exact fl6.there
   have I6h:=inv_held I6t ea;refine store_ok (X:=Cx.held X ea) (v:=.ref ea) I6h hN hi (.inl hk) rfl (fun s7 I7=>?_) (.inr hk);have hq:=hsuite ea L.untracked;refine wpAny_mono (hs ea pins s7 _ _ _ (I7.wish _) hq) (fun flw s8 q8=>?_) fun _ _ z=>False.elim z;cases flw with
   | next=>
     obtain⟨σ8,H8,I8,q⟩:=q8;have I8:L2.Inv X pins σ8 H8 s8:=inv_unheld (fun z=>I1.ok.hd z) (L2.Inv.unwish I8);exact name_gone I8 hN hi hk fun s9 I9=>⟨_,H8,I9,q⟩
   | brk=>obtain⟨_,_,_,q⟩:=q8;exact q.elim
   | cont=>obtain⟨_,_,_,q⟩:=q8;exact q.elim
   | ret u=>obtain⟨_,_,_,_,_,q⟩:=q8;exact q.elim
 subst e;exact wpAny_execs_nil ⟨σ,H1,I1,q⟩
end
end SW
set_option maxHeartbeats 2000000
namespace SW
open PySem PySem.Spec PyProof.Rows L2 PySem.Builtin PySem.Builtin.ObjectAttr PySem.Builtin.Getset_descriptor
theorem ga_kind:builtinKind "BaseException.__getattribute__"=some .slot:=by decide +kernel
theorem ga_split:splitId "BaseException.__getattribute__"=some ("BaseException","__getattribute__"):=by decide +kernel
theorem ga_bind(self:Value):bindSpecial (.builtin "BaseException.__getattribute__") self=pure (.builtin "BaseException.__getattribute__",[self]):=by
 have hop:withoutEnding? "BaseException.__getattribute__" "#opaque"=none:=by decide +kernel
 have hdat:withoutEnding? "BaseException.__getattribute__" "#data"=none:=by decide +kernel
 simp only[bindSpecial,typeOf,builtinType,hop,hdat,ga_kind];rfl
theorem ga_plain:plainId "BaseException.__getattribute__"=true:=by decide +kernel
theorem ga_entry:entryFor table "BaseException.__getattribute__"=some Builtin.«object.__getattribute__»:=
 entryFor_alias (id':="object.__getattribute__") (by kernel_rfl) (by first | rfl | decide +kernel) (by decide +kernel) (by kernel_rfl)
section
variable{M:Model}{prog:Program}{w:World}{A:Around}{E:Value->Shared->Prop}{s:Shared}{K:W.Frag}{x C:Addr}
theorem ga_check{Q:Unit->Shared->Prop}{n:Str}{tk:Tok}(hI:W.Looks M s.heap (isInstance (.ref x) (.type "BaseException")) true)(hQ:Q () s):wpAny M A (checkBuiltinCall "BaseException.__getattribute__" ⟨[.ref x,.str n tk],[]⟩) Q E s:=by
 simp only[checkBuiltinCall,ga_kind,ga_split];refine wpAny_bind (hI.at ?_);simp only[Bool.not_true,Bool.false_eq_true,if_false];have h2:∀ a b:Value,(match Manifest.signature? "BaseException.__getattribute__" with
  | some sig=>Bind.checkArgs "BaseException.__getattribute__" sig { pos:=[a,b] }
  | _=>pure ())=(pure ():Sem Unit):=fun a b=>by
  kernel_rfl
 exact wpAny_of_eq (h2 _ _) hQ
theorem looks_cls(X:K.In s.heap)(ha:W.findIn K (.ref C) "__class__"=some (some (.builtin "object.__class__")))(hn:W.specialIn K (.builtin "object.__class__") "__get__"=some (some (.builtin "getset_descriptor.__get__")))(htk:W.takesIn K (.builtin "object.__class__")=some true) :
 W.Looks M s.heap (find (.ref x) (.ref C) "__class__") (.bind (.builtin "getset_descriptor.__get__") (.builtin "object.__class__")):=by
 have L1:=W.looks_findIn (M:=M) X ha;have L2:W.Looks M s.heap (getOf (some (.builtin "object.__class__"))) (some (.builtin "getset_descriptor.__get__")):=W.looks_specialIn X hn;refine L1.andThen (L2.andThen ?_);have L3:=W.looks_takesIn (M:=M) X htk;exact(show W.Looks M s.heap (dataDescriptor? (some (.builtin "object.__class__")) (some (.builtin "getset_descriptor.__get__"))) (some (.builtin "getset_descriptor.__get__",.builtin "object.__class__"))from L3.andThen .now).andThen (W.Looks.tag .now)
structure ExcK(K:W.Frag)(C:Addr):Prop where
 ga:W.findIn K (.ref C) "__getattribute__"=some (some (.builtin "BaseException.__getattribute__"))
 gh:W.findIn K (.ref C) "__getattr__"=some none
 ha:W.findIn K (.ref C) "__class__"=some (some (.builtin "object.__class__"))
 hn:W.specialIn K (.builtin "object.__class__") "__get__"=some (some (.builtin "getset_descriptor.__get__"))
 htk:W.takesIn K (.builtin "object.__class__")=some true
 hm:W.mroIn K C (.type "object")=some true
 hb:W.mroIn K C (.type "BaseException")=some true
theorem exc_get{R:Result->Shared->Prop}{tp:Value}(X:K.In s.heap)(k:ExcK K C)(L0:W.Looks (model prog w) s.heap (typeOf (.ref x)) (.ref C))
 (h:R (.ok (.ret (.ref C))) s):codeAny (model prog w) A (.call (.builtin "getset_descriptor.__get__") ⟨[.builtin "object.__class__",.ref x,tp],[]⟩) R s:=by
 obtain⟨hh,g,dr,t,os⟩:=s;have L1:=W.looks_mroIn (M:=model prog w) X k.hm;refine codeAny_call_builtin W.KF.slot_gs.plain W.KF.entry_gs (W.KF.slot_gs.check _ _ _ _ _ _ _ _ W.KF.type_class (W.KF.args_gs _ _ _) ?_);unfold Builtin.«getset_descriptor.__get__» descrGet;rw[W.dga_obj];refine wpAny_bind (wpAny_pure ?_);unfold descrGetter descrCheckInstance descrNameAndClass isInstance;simp only[W.KF.owner_class]
 repeat lk
 refine⟨Code.quiet_builtin _ (by decide +kernel),codeAny_builtin W.KF.entry_class ?_⟩
 unfold Builtin.«object.__class__» shownTypeOf
 repeat lk
 exact h
theorem exc_entry{tk:Tok}{Q:Fin->Shared->Prop}(X:K.In s.heap)(k:ExcK K C)(L0:W.Looks (model prog w) s.heap (typeOf (.ref x)) (.ref C))(h:Q (.done (.ret (.ref C))) s) :
 wpAny (model prog w) A (Builtin.«object.__getattribute__» ⟨[.ref x,.str "__class__" tk],[]⟩) Q E s:=by
 obtain⟨hh,g,dr,t,os⟩:=s;have LF:=looks_cls (M:=model prog w) (x:=x) X k.ha k.hn k.htk;unfold Builtin.«object.__getattribute__»
 repeat (first | with_reducible refine wpAny_call (exc_get (s:=⟨hh,g,dr,t,os⟩) X k L0 ?_) | lk)
 exact h
theorem exc_attr{Q:Option Value->Shared->Prop}(X:K.In s.heap)(k:ExcK K C)(L0:W.Looks (model prog w) s.heap (typeOf (.ref x)) (.ref C))(h:Q (some (.ref C)) { s with toks:=s.toks+1 }) :
 wpAny (model prog w) A (getAttr? (.ref x) "__class__") Q E s:=by
 obtain⟨hh,g,d,t,os⟩:=s;have L1:=W.looks_findIn (M:=model prog w) X k.ga;have L2:=W.looks_findIn (M:=model prog w) X k.gh;unfold getAttr? getAttrBy? getAttrBy;refine wpAny_bind (wpAny_mkText (wpAny_bind (wpAny_attempt (wpAny_holding (wpAny_bind (L0.at (wpAny_bind (L1.at ?_))))))));show wpAny _ _ (getAttrByItsOwn _ _ _ _ _ _) _ _ _;unfold getAttrByItsOwn hookBefore callGetattribute;refine wpAny_bind (L2.at (wpAny_bind (wpAny_attempt (wpAny_holding ?_))));show wpAny _ _ (boundAndCalled _ _ _) _ _ _;unfold boundAndCalled;refine wpAny_bind (wpAny_of_eq (ga_bind _) ?_);refine wpAny_call (codeAny_call_builtin ga_plain ga_entry (ga_check (s:=⟨hh,g,d,t+1,os⟩) ?_ (exc_entry (s:=⟨hh,g,d,t+1,os⟩) X k L0 ?_)))
 · exact L0.andThen (W.looks_mroIn X k.hb)
 exact W.handed_on rfl (wpAny_pure h)
end
section
variable{K:W.Frag}{x C:Addr}
noncomputable abbrev HeldAt(x C:Addr):Heap->Prop:=fun h=>∃ ob,h.get? x=some ob/\ob.cls=.ref C
theorem held_ty{M:Model}{h:Heap}(p:HeldAt x C h):W.Looks M h (typeOf (.ref x)) (.ref C):=by
 obtain⟨ob,e,c⟩:=p;rw[← c];exact(W.Looks.ld e).andThen .now
theorem kitx_exc(k:ExcK K C)(hc:(W.clsIn K C).isSome=true):W.KitX K (.ref x) (.ref C) (HeldAt x C) where
 ty:=fun _ _ _ p=>held_ty p
 it:=fun _ _ X _=>by
  obtain⟨cdD,hcD⟩:=Option.isSome_iff_exists.mp hc;unfold W.clsIn at hcD;split at hcD
  · rename_i c' d' cd' sl' ho
    intro A' Q' E' s' k q;unfold isType loadHead;exact wpAny_bind (wpAny_loadPart (k _ _ (X _ _ ho)) (wpAny_pure q))
  cases hcD
 ne:=fun h tp dd its n sl X htp=>by
  obtain⟨cdD,hcD⟩:=Option.isSome_iff_exists.mp hc;refine Bool.eq_false_iff.mpr fun q=>?_;have e:C=tp:=Value.ref.inj (beq_iff_eq.mp q);subst e;unfold W.clsIn at hcD;split at hcD
  · rename_i c' d' cd' sl' ho
    have z:=(X _ _ ho).symm.trans htp;cases z
  cases hcD
 ca:=fun X p q=>exc_attr X k (held_ty p) q
structure ExcC(K:W.Frag)(C:Addr):Prop where
 k:ExcK K C
 c:(W.clsIn K C).isSome=true
noncomputable def clsV:V->Option Value
 | .ref a=>some (.ref a)
 | .ty n=>some (.type n)
 | _=>none
theorem clsV_rel{v:V}{u c:Value}(h:clsV v=some c)(r:RelV v u):u=c:=by
 cases v with
 | ref y=>cases h;exact r
 | ty y=>cases h;exact r
 | _=>cases h
theorem refs_of:∀{Cs:List Addr}{us:List Value},Vals (Cs.map V.ref) us->us=Cs.map Value.ref
 | [],_,.nil=>rfl
 | _::_,_,.cons r t=>by rw[refs_of t,show _=_ from r];rfl
noncomputable def rIsiX(K:W.Frag):List V->Hp->VK->Prop:=fun xs H Q=>∃(ea C:Addr) (v:V) (b:Bool),xs=[.ref ea,v]/\H ea=some (excO ea C)/\ExcC K C /\
 ((∃ c,clsV v=some c/\W.kitOne K (.ref C) c=some b) ∨ ∃(tp:Addr) (Cs:List Addr),v=.ref tp/\H tp=some (.tup (Cs.map V.ref))/\W.kitAny K (.ref C) (Cs.map Value.ref)=some b)/\Q (.bl b) H
theorem call_isiX(K:W.Frag){X:Cx}(hK:X.K=K:=by rfl):CallR X (.builtin "isinstance") (rIsiX K):=by
 subst hK;intro pins s σ H xs us Q I r h;obtain⟨ea,C,v,b,rfl,he,k,e,q⟩:=h;obtain⟨u,v',rfl,ru,rv⟩:=vals2 r;cases (show u=Value.ref ea from ru);obtain⟨p,_⟩:=(show ObjOk X.prog X.w H s.heap ea (excO ea C)from I.hok ea _ he);rcases e with ⟨c,hc,e⟩ | ⟨tp,Cs,rfl,ht,e⟩
 · cases clsV_rel hc rv
   exact W.kia_one (kitx_exc k.k k.c) I.kIn p e (fun z=>nomatch z) fun tk=>⟨.bl b,H,I.tok tk,rfl,q⟩
 cases (show v'=Value.ref tp from rv);obtain⟨_,its,rt,o,h1,h2,h3⟩:=(show ObjOk X.prog X.w H s.heap tp (.tup (Cs.map V.ref))from I.hok tp _ ht);have ei:=refs_of rt;subst ei;obtain⟨n,h3⟩:=h3;obtain⟨cl,dd,dat,sl⟩:=o;cases (show cl=Value.type "tuple" from h2);cases (show dat=Data.seq (Cs.map Value.ref).toArray n from h3);exact W.kia_tup (kitx_exc k.k k.c) I.kIn p h1 e (fun z=>nomatch z) fun tk=>⟨.bl b,H,I.tok tk,rfl,q⟩
end
end SW
set_option maxHeartbeats 2000000
namespace SW
open PySem PySem.Spec PyProof.Rows L2
structure MtX(P:Program)(w:World)(K:W.Frag)(mg:Str->Option Value)(base:Heap)(C:Addr)(m:Str)(k:Nat)(ps:List Str)(sp:Sp):Prop where
 ex:∃(f:Addr) (fd:FuncData),FnOk P w K mg base (CXr P w) k f fd ps sp/\Meth K C m f/\Binds K fd ps []
section
variable{P:Program}{w:World}{K:W.Frag}{mg:Str->Option Value}{base:Heap}
theorem fun_okX{x qual:Str}{st:Stmt}{f:Addr}{fd:FuncData}{N ps:List Str}{k:Nat}{sp:Sp}(F:Fun K x qual st f fd)(S:FnScope N ps (defScope st))(len:∀ vs H Q E,sp vs H Q E->vs.length=ps.length)
 (hbody:∀(cdv:Value) (A:Around) (outer:List Env) (s:Shared) (H:Hp) (vs:List V) (Q:VK) (E:XK),Room k (A.deeper (envOfC qual (defScope st) s.heap.objs.size f cdv))->sp vs H Q E ->
  ∃ t,Bx (PSs (cxOf (CXr P w) P w K mg base N qual (defScope st) f cdv A outer s H E) (defBody st) t)/\t { nx:=fun _ H'=>Q .non H',rt:=Q } (start N vs) H):FnOk P w K mg base (CXr P w) (k+1) f fd ps sp:=by
 obtain⟨oc,od,kV,doc,pm,an,cdv,ct,osl,rfl,lk,hcd⟩:=F.ex;refine fn_of lk hcd S len fun A outer s H vs Q E hr hsp=>?_;obtain⟨t,h,q⟩:=hbody cdv A outer s H vs Q E hr hsp;exact⟨t,h.out,q⟩
theorem Dm.mtX{C:Addr}{m qual:Str}{st:Stmt}{N ps:List Str}{k:Nat}{sp:Sp}(d:Dm K C m qual st ps)(S:FnScope N ps (defScope st))(len:∀ vs H Q E,sp vs H Q E->vs.length=ps.length)
 (hb:∀(f:Addr) (cdv:Value) (A:Around) (outer:List Env) (s:Shared) (H:Hp) (vs:List V) (Q:VK) (E:XK),Room k (A.deeper (envOfC qual (defScope st) s.heap.objs.size f cdv))->sp vs H Q E ->
  ∃ t,Bx (PSs (cxOf (CXr P w) P w K mg base N qual (defScope st) f cdv A outer s H E) (defBody st) t)/\t { nx:=fun _ H'=>Q .non H',rt:=Q } (start N vs) H):MtX P w K mg base C m (k+1) ps sp:=by
 obtain⟨f,fd,F,hm,hb'⟩:=d.ex;exact⟨f,fd,fun_okX F S len (hb f),hm,hb'⟩
structure ErrC(K:W.Frag)(mg:Str->Option Value)(x:Str)(C:Addr):Prop where
 m:mg x=some (.ref C)
 o:OwnX K C
namespace B
theorem raise{N:List Str}{qual:Str}{scope:Scope}{f:Addr}{cd:Value}{A:Around}{outer:List Env}{s₀:Shared}{H₀:Hp}{E:XK}{x msg:Str}{kk}{C:Addr}{np p1 cpos pos:Pos}(h:ErrC K mg x C)(hg:Gl (cxOf (CXr P w) P w K mg base N qual scope f cd A outer s₀ H₀ E) x:=by rfl)(hd:(x == ("__debug__":Str))=false:=by decide) :
 Bx (PS (cxOf (CXr P w) P w K mg base N qual scope f cd A outer s₀ H₀ E) (.Raise (some (.Call (.Name x np) [.Constant (.str msg) kk p1] [] cpos)) none pos) (tRaise E C)):=⟨ps_raise h.m h.o hg hd⟩
end B
end
section
variable{X:Cx}{CX:CXT}{k:Nat}{f C:Addr}{fd:FuncData}{ps:List Str}{sp:Sp}{dvs:List V}{ds:List Value}{E:XK}{x m:Str}{p pos apos:Pos}{e o:Expr}{es:List Expr}{ta:TE}{t:TA}{pins:List (Addr×Obj)}{σ:L2.St}
theorem run_fnA{H:Hp}{s:Shared}{Q:VK}{us:List Value}{vs:List V}(F:FnOk X.prog X.w X.K X.mg X.base CX k f fd ps sp)(hr:Room k X.A)(hb:Binds X.K fd ps ds)(hd:Vals dvs ds)(hx:PassAt CX X pins σ E)
 (I:L2.Inv X pins σ H s) (r:Vals vs us) (h:sp (vs++dvs) H Q E):wpAny (model X.prog X.w) X.A (call (.ref f) us) (EP X pins σ Q) X.xe s:=by
 have r2:Vals (vs++dvs) (us++ds):=r.append hd;have hl:(us++ds).length=ps.length:=by rw[← r2.length];exact F.len _ _ _ _ h
 refine wpAny_call (codeAny_mono (F.run X.A X.stack s H ⟨us,[]⟩ (us++ds) (vs++dvs) Q E hr I.env0 (hb s us I.kIn hl) r2 h) fun r s' hq=>?_);cases r with
 | error e=>exact hx H s e s' I hq
 | ok fl=>
   cases fl with
   | ret u=>exact I.after hq
   | next=>exact False.elim hq
   | brk=>exact False.elim hq
   | cont=>exact False.elim hq
theorem ev_meth{H:Hp}{s:Shared}{Q:VK}{pl:Sem Bool}(he:PE X o ta)(c:Cls X.K C)(hm:Meth X.K C m f)(F:FnOk X.prog X.w X.K X.mg X.base CX k f fd ps sp)(hr:Room k X.A)(hb:Binds X.K fd ps ds)(hd:Vals dvs ds)(hx:PassAt CX X pins σ E)(ha:PA X (e::es) t)
 (I:L2.Inv X pins σ H s) (h:tMeth C m sp dvs E ta t σ H Q) (hst:starEach (e::es) X.env=(false,eval e X.env)::starEach es X.env) (hpl:(backTo pos (starEach es X.env)).any (·.1)=false)
 (ht:eval (.Call (.Attribute o m apos) (e::es) [] pos) X.env=(do
  let ov ← eval o X.env
  standAt apos.atName
  let(f,first) ← holding [ov] (getMethod ov m pl)
  callWith pos f first (backTo pos (starEach (e::es) X.env)) (backToKw pos (keywordEach [] X.env)))) :
 wpAny (model X.prog X.w) X.A (eval (.Call (.Attribute o m apos) (e::es) [] pos) X.env) (EP X pins σ Q) X.xe s:=by
 refine W.methodCall_KW (pl:=pl) (thn (he pins s σ H _ I h) fun u s1 ⟨x,H1,I1,rx,a,dx,fs,ex,ea,l,q⟩=>?_) ht;subst ex;obtain rfl:u=Value.ref a:=rx;refine getmeth_ok I1 ea c hm l ?_;refine W.callWith_K (first:=[.ref a]) (h₀:=X.base) I.ok.mod.kin hm.kp (thn (ha pos pins s1 σ H1 _ I1 q) fun us s2 ⟨vs,H2,I2,r,q2⟩=>⟨I2.kIn,?_⟩) hst hpl;exact run_fnA (us:=.ref a::us) (vs:=.ref a::vs) F hr hb hd hx I2 (.cons rfl r) q2
end
section
variable{X:Cx}{k:Nat}{C:Addr}{ps:List Str}{sp:Sp}{x m:Str}{p cpos apos:Pos}{e o:Expr}{es:List Expr}{ta:TE}{t:TA}{cx n:Str}{CB:Addr}{i:Nat}{b₀:Stmt}{suite:List Stmt}{ts:TS}{bpos np hpos pos:Pos}
namespace B
theorem tryM(he:∀ xe',Bx (PE (X.wish xe') o ta))(c:Cls X.K C)(M:MtX X.prog X.w X.K X.mg X.base C m k ps sp)(hr:Room k X.A)(ha:∀ xe',Bx (PA (X.wish xe') (e::es) t))(hm:X.mg cx=some (.ref CB))(hN:X.N.Nodup)
 (hs:∀ ea,Bx (PSs (Cx.held X ea).nox (b₀ :: suite) ts)) (hi:X.N[i]?=some n:=by rfl) (hk:X.env.scope.names.lookup n=some .local:=by rfl) (hex:X.ex=[]:=by rfl) (hstk:X.stack=X.env::X.outer:=by rfl) (hfr:X.env.frame=some X.env.locals:=by rfl) (hg:Gl X cx:=by rfl) (hd:(cx == ("__debug__":Str))=false:=by decide)
 (hsw:swapsWith (.Call (.Attribute o m apos) (e::es) [] cpos) none bpos.line X.env=pure false:=by rfl) (h1:plainE e=true:=by rfl) (h2:es.all plainE=true:=by rfl)
 {pl:Sem Bool} (ht':eval (.Call (.Attribute o m apos) (e::es) [] cpos) X.env=(do
  let ov ← eval o X.env
  standAt apos.atName
  let(f,first) ← holding [ov] (getMethod ov m pl)
  callWith cpos f first (backTo cpos (starEach (e::es) X.env)) (backToKw cpos (keywordEach [] X.env))):=by rfl) :
 Bx (PS X (.Try [.Expr (.Call (.Attribute o m apos) (e::es) [] cpos) bpos] [.ExceptHandler (some (.Name cx np)) (some n) (b₀ :: suite) hpos] [] [] pos) (tTry X.K (fun E=>tMeth C m sp [] E ta t) CB i ts)):=by
 obtain⟨f,fd,G,hmt,b⟩:=M.ex;refine⟨ps_try hex hstk hfr hN hi hk hg hm hd (fun xe' pins σ E hx s H Q I h=>?_) hsw fun ea=>(hs ea).out⟩;exact ev_meth (X:=X.wish xe') (he xe').out c hmt G hr b .nil hx (ha xe').out I h (star_of h1) (star_any h2) ht'
end B
end
section
variable{K:W.Frag}{P:Addr}(hP:K.lookup P=some (W.tabObj #[]))
include hP
theorem wo_nsOkIn{N:Addr}:W.nsOkIn (wo K P) N=W.nsOkIn K N:=by
 unfold W.nsOkIn;by_cases h:N=P
 · rw[h,wo_self,hP]
 rw[wo_ne h]
theorem wo_tailIn{bs:List Value}:∀{l:List Value},W.tailIn (wo K P) bs l=W.tailIn K bs l
 | []=>rfl
 | v::r=>by
   unfold W.tailIn;cases v with
   | ref a=>
     dsimp only
     by_cases h:a=P
     · rw[h,wo_self,hP]
     rw[wo_ne h];split
     · rw[wo_nsOkIn hP,wo_nsIn hP,wo_tailIn]
     rfl
   | _=>rfl
theorem wo_excIn{C:Addr}{bs:List Value}{n:String}:W.excIn (wo K P) C bs n=W.excIn K C bs n:=by
 unfold W.excIn;by_cases h:C=P
 · rw[h,wo_self,hP]
 rw[wo_ne h];split
 · split
   · rw[wo_nsOkIn hP,wo_nsIn hP,wo_tailIn hP]
   rfl
 rfl
theorem wo_OwnX{C:Addr}(h:OwnX K C):OwnX (wo K P) C:=by
 unfold OwnX at h ⊢;rw[wo_excIn hP];exact h
theorem wo_mroIn{C:Addr}{b:Value}:W.mroIn (wo K P) C b=W.mroIn K C b:=by unfold W.mroIn;rw[wo_clsIn hP]
theorem wo_special_b{n:String}{x:Str}:W.specialIn (wo K P) (.builtin n) x=W.specialIn K (.builtin n) x:=by
 unfold W.specialIn;rw[show W.typeIn (wo K P) (.builtin n)=W.typeIn K (.builtin n)from rfl]
 congr 1
 funext t
 exact wo_findIn hP
theorem wo_takes_b{n:String}:W.takesIn (wo K P) (.builtin n)=W.takesIn K (.builtin n):=by
 unfold W.takesIn;rw[wo_special_b hP,wo_special_b hP]
theorem wo_kitCls{t c:Value}{r:Bool}(e:W.kitCls K t c=some r):W.kitCls (wo K P) t c=some r:=by
 unfold W.kitCls at e ⊢;cases c with
 | ref C=>
   dsimp only at e ⊢
   split at e
   · rename_i z
     rw[Bool.and_eq_true]at z;rw[if_pos (by rw[Bool.and_eq_true];exact⟨by rw[wo_clsIn hP];exact z.1,beq_iff_eq.mpr (wo_typeIn hP (fun y=>by cases y) (beq_iff_eq.mp z.2))⟩),wo_subIn hP]
     exact e
   cases e
 | type T=>
   dsimp only at e ⊢
   split at e
   · rename_i z
     rw[if_pos z,wo_subIn hP];exact e
   cases e
 | _=>cases e
theorem wo_kitOne{t c:Value}{r:Bool}(e:W.kitOne K t c=some r):W.kitOne (wo K P) t c=some r:=by
 unfold W.kitOne at e ⊢;split at e
 · rename_i z;rw[if_pos z];exact e
 rename_i z;rw[if_neg z];exact wo_kitCls hP e
theorem wo_kitAny{t:Value}:∀{cs:List Value}{r:Bool},W.kitAny K t cs=some r->W.kitAny (wo K P) t cs=some r
 | [],_,e=>e
 | c::cs,r,e=>by
   unfold W.kitAny at e ⊢;cases h:W.kitOne K t c with
   | none=>rw[h]at e;cases e
   | some b=>
     rw[h]at e;rw[wo_kitOne hP h];cases b with
     | true=>exact e
     | false=>exact wo_kitAny e
theorem wo_exmOne{t c:Value}{r:Bool}(e:W.exmOne K t c=some r):W.exmOne (wo K P) t c=some r:=by
 unfold W.exmOne at e ⊢;split at e
 · rename_i z
   rw[if_pos (by rw[wo_subIn hP];exact z)]
   exact wo_kitCls hP e
 cases e
theorem wo_ExcC{C:Addr}(h:ExcC K C):ExcC (wo K P) C:=
 ⟨⟨(wo_findIn hP).trans h.k.ga,(wo_findIn hP).trans h.k.gh,(wo_findIn hP).trans h.k.ha,(wo_special_b hP).trans h.k.hn,(wo_takes_b hP).trans h.k.htk,(wo_mroIn hP).trans h.k.hm,(wo_mroIn hP).trans h.k.hb⟩,by rw[wo_clsIn hP];exact h.c⟩
end
end SW
namespace K
open PySem PySem.Spec PyProof.Rows L2 SW
end K
namespace SW
open PySem PySem.Spec PyProof.Rows L2
theorem wVarA{σ:L2.St}{H:Hp}{Q:VK}{v:V}{i:Nat}(h:Q v H)(e:σ[i]?=some (some v):=by with_unfolding_all exact rfl):tVar i σ H Q:=⟨v,e,h⟩
theorem wModA{H:Hp}{Q:VK}{g:Int->Int->V}{i j:Int}(h:Q (g i j) H)(c:0 < j:=by with_unfolding_all omega):rI (fun _ j=>0 < j) g (.int i) (.int j) H Q:=wMod c h
theorem wDivLA{H:Hp}{Q:VK}{g:Int->Int->V}{i j:Int}(h:Q (g i j) H)(c:0 < j/\j < 18446744073709551616:=by with_unfolding_all omega):rI CDivL g (.int i) (.int j) H Q:=wDivL c h
theorem wMulA{H:Hp}{Q:VK}{g:Int->Int->V}{i j:Int}(h:Q (g i j) H)(c:(-18446744073709551616 < i/\i < 18446744073709551616)∨(-18446744073709551616 < j/\j < 18446744073709551616):=by with_unfolding_all omega):rI CMul g (.int i) (.int j) H Q:=wMul c h
theorem wShrA{H:Hp}{Q:VK}{g:Int->Int->V}{i j:Int}(h:Q (g i j) H)(c:0<=j:=by with_unfolding_all omega):rI (fun _ j=>0<=j) g (.int i) (.int j) H Q:=wShr c h
theorem wPowA{H:Hp}{Q:VK}{g:Int->Int->V}{i j:Int}(h:Q (g i j) H)(c:0<=j/\j<=1000000/\i.natAbs < 2 ^ 64:=by with_unfolding_all decide):rI CPow g (.int i) (.int j) H Q:=wPow c h
theorem wIxLA{K:W.Frag}{H:Hp}{Q:VK}{v:V}{p:Addr}{xs:List V}{i:Int}(h:Q v H)(e:H p=some (.lst xs):=by first | with_reducible assumption | exact upd_same)(a:atI xs i=some v:=by with_unfolding_all exact rfl):rIxL K (.ref p) (.int i) H Q:=wIxL e a h
theorem wIxTA{K:W.Frag}{H:Hp}{Q:VK}{v:V}{p:Addr}{xs:List V}{i:Int}(h:Q v H)(e:H p=some (.tup xs):=by first | with_reducible assumption | exact upd_same)(a:atI xs i=some v:=by with_unfolding_all exact rfl):rIxT K (.ref p) (.int i) H Q:=wIxT e a h
theorem wSetLA{H:Hp}{v:V}{p:Addr}{xs:List V}{i:Int}{j:Nat}{Q:Hp->Prop}(h:Q (upd H p (.lst (xs.set j v))))(e:H p=some (.lst xs):=by first | with_reducible assumption | exact upd_same)(hj:ixN xs.length i=some j:=by with_unfolding_all exact rfl):rSetL (.ref p) (.int i) v H Q:=wSetL e hj h
theorem wGoA{N N':L2.St->Hp->Prop}{σ:L2.St}{H:Hp}(h:N' σ H)(e:N=N':=by with_reducible assumption):N σ H:=wGo e h
end SW
namespace K
noncomputable section
open PySem PySem.Spec PyProof.Rows L2 SW
local macro_rules | `(tactic| walk_at "W0")=>do
 let h ← `(?_)
 let l ← `(fun _ _=>?_)
 let t ← ("wCons wNil wVarA".splitOn " ").foldrM (fun r t=>do
  let b ← `(tactic| with_reducible refine $(Lean.mkIdent (Lean.Name.mkStr `SW r)) $(if r == "wSeqC" || r == "wCut" then l else h))
  if r == "wIxLA" then `(tactic| first | (with_reducible show rIxL _ (V.ref _) (V.int _) _ _;$b:tactic) | $t:tactic)else if r == "wIxTA" then `(tactic| first | (with_reducible show rIxT _ (V.ref _) (V.int _) _ _;$b:tactic) | $t:tactic)else if r == "wSetLA" then `(tactic| first | (with_reducible show rSetL (V.ref _) (V.int _) _ _ _;$b:tactic) | $t:tactic)else `(tactic| first | $b:tactic | $t:tactic)) (← `(tactic| fail))
 `(tactic| repeat $t:tactic)
local macro_rules | `(tactic| walk_at "W1")=>do
 let h ← `(?_)
 let l ← `(fun _ _=>?_)
 let t ← ("wC wName wGoA".splitOn " ").foldrM (fun r t=>do
  let b ← `(tactic| with_reducible refine $(Lean.mkIdent (Lean.Name.mkStr `SW r)) $(if r == "wSeqC" || r == "wCut" then l else h))
  if r == "wIxLA" then `(tactic| first | (with_reducible show rIxL _ (V.ref _) (V.int _) _ _;$b:tactic) | $t:tactic)else if r == "wIxTA" then `(tactic| first | (with_reducible show rIxT _ (V.ref _) (V.int _) _ _;$b:tactic) | $t:tactic)else if r == "wSetLA" then `(tactic| first | (with_reducible show rSetL (V.ref _) (V.int _) _ _ _;$b:tactic) | $t:tactic)else `(tactic| first | $b:tactic | $t:tactic)) (← `(tactic| fail))
 `(tactic| repeat $t:tactic)
local macro_rules | `(tactic| walk_at "S")=>do
 let h ← `(?_)
 let l ← `(fun _ _=>?_)
 let t ← ("wSl wNoPart wPart wITup wU wGoA".splitOn " ").foldrM (fun r t=>do
  let b ← `(tactic| with_reducible refine $(Lean.mkIdent (Lean.Name.mkStr `SW r)) $(if r == "wSeqC" || r == "wCut" then l else h))
  if r == "wIxLA" then `(tactic| first | (with_reducible show rIxL _ (V.ref _) (V.int _) _ _;$b:tactic) | $t:tactic)else if r == "wIxTA" then `(tactic| first | (with_reducible show rIxT _ (V.ref _) (V.int _) _ _;$b:tactic) | $t:tactic)else if r == "wSetLA" then `(tactic| first | (with_reducible show rSetL (V.ref _) (V.int _) _ _ _;$b:tactic) | $t:tactic)else `(tactic| first | $b:tactic | $t:tactic)) (← `(tactic| fail))
 return t
local macro_rules | `(tactic| walk_at "S")=>do
 let h ← `(?_)
 let l ← `(fun _ _=>?_)
 let t ← ("wMake wIf wDGet1 wDPop2 wItems wDPut wFAug wCompSet".splitOn " ").foldrM (fun r t=>do
  let b ← `(tactic| with_reducible refine $(Lean.mkIdent (Lean.Name.mkStr `SW r)) $(if r == "wSeqC" || r == "wCut" then l else h))
  if r == "wIxLA" then `(tactic| first | (with_reducible show rIxL _ (V.ref _) (V.int _) _ _;$b:tactic) | $t:tactic)else if r == "wIxTA" then `(tactic| first | (with_reducible show rIxT _ (V.ref _) (V.int _) _ _;$b:tactic) | $t:tactic)else if r == "wSetLA" then `(tactic| first | (with_reducible show rSetL (V.ref _) (V.int _) _ _ _;$b:tactic) | $t:tactic)else `(tactic| first | $b:tactic | $t:tactic)) (← `(tactic| fail))
 return t
local macro_rules | `(tactic| walk_at "S")=>do
 let h ← `(?_)
 let l ← `(fun _ _=>?_)
 let t ← ("wAnd wOr wChain wComp wUn wFld wSFld wMeth".splitOn " ").foldrM (fun r t=>do
  let b ← `(tactic| with_reducible refine $(Lean.mkIdent (Lean.Name.mkStr `SW r)) $(if r == "wSeqC" || r == "wCut" then l else h))
  if r == "wIxLA" then `(tactic| first | (with_reducible show rIxL _ (V.ref _) (V.int _) _ _;$b:tactic) | $t:tactic)else if r == "wIxTA" then `(tactic| first | (with_reducible show rIxT _ (V.ref _) (V.int _) _ _;$b:tactic) | $t:tactic)else if r == "wSetLA" then `(tactic| first | (with_reducible show rSetL (V.ref _) (V.int _) _ _ _;$b:tactic) | $t:tactic)else `(tactic| first | $b:tactic | $t:tactic)) (← `(tactic| fail))
 return t
local macro_rules | `(tactic| walk_at "S")=>do
 let h ← `(?_)
 let l ← `(fun _ _=>?_)
 let t ← ("wCB wRet wRetN wDrop wNext wFor wIList wRng1".splitOn " ").foldrM (fun r t=>do
  let b ← `(tactic| with_reducible refine $(Lean.mkIdent (Lean.Name.mkStr `SW r)) $(if r == "wSeqC" || r == "wCut" then l else h))
  if r == "wIxLA" then `(tactic| first | (with_reducible show rIxL _ (V.ref _) (V.int _) _ _;$b:tactic) | $t:tactic)else if r == "wIxTA" then `(tactic| first | (with_reducible show rIxT _ (V.ref _) (V.int _) _ _;$b:tactic) | $t:tactic)else if r == "wSetLA" then `(tactic| first | (with_reducible show rSetL (V.ref _) (V.int _) _ _ _;$b:tactic) | $t:tactic)else `(tactic| first | $b:tactic | $t:tactic)) (← `(tactic| fail))
 return t
local macro_rules | `(tactic| walk_at "S")=>do
 let h ← `(?_)
 let l ← `(fun _ _=>?_)
 let t ← ("wIxTA wSub wSetLA wNil wCons wLst wTup wCall".splitOn " ").foldrM (fun r t=>do
  let b ← `(tactic| with_reducible refine $(Lean.mkIdent (Lean.Name.mkStr `SW r)) $(if r == "wSeqC" || r == "wCut" then l else h))
  if r == "wIxLA" then `(tactic| first | (with_reducible show rIxL _ (V.ref _) (V.int _) _ _;$b:tactic) | $t:tactic)else if r == "wIxTA" then `(tactic| first | (with_reducible show rIxT _ (V.ref _) (V.int _) _ _;$b:tactic) | $t:tactic)else if r == "wSetLA" then `(tactic| first | (with_reducible show rSetL (V.ref _) (V.int _) _ _ _;$b:tactic) | $t:tactic)else `(tactic| first | $b:tactic | $t:tactic)) (← `(tactic| fail))
 return t
local macro_rules | `(tactic| walk_at "S")=>do
 let h ← `(?_)
 let l ← `(fun _ _=>?_)
 let t ← ("wTest wB wNot wNotV wAndV wOrV wBl wIxLA".splitOn " ").foldrM (fun r t=>do
  let b ← `(tactic| with_reducible refine $(Lean.mkIdent (Lean.Name.mkStr `SW r)) $(if r == "wSeqC" || r == "wCut" then l else h))
  if r == "wIxLA" then `(tactic| first | (with_reducible show rIxL _ (V.ref _) (V.int _) _ _;$b:tactic) | $t:tactic)else if r == "wIxTA" then `(tactic| first | (with_reducible show rIxT _ (V.ref _) (V.int _) _ _;$b:tactic) | $t:tactic)else if r == "wSetLA" then `(tactic| first | (with_reducible show rSetL (V.ref _) (V.int _) _ _ _;$b:tactic) | $t:tactic)else `(tactic| first | $b:tactic | $t:tactic)) (← `(tactic| fail))
 return t
local macro_rules | `(tactic| walk_at "S")=>do
 let h ← `(?_)
 let l ← `(fun _ _=>?_)
 let t ← ("wModA wDivLA wMulA wShrA wPowA wEqI wNeI wIfS".splitOn " ").foldrM (fun r t=>do
  let b ← `(tactic| with_reducible refine $(Lean.mkIdent (Lean.Name.mkStr `SW r)) $(if r == "wSeqC" || r == "wCut" then l else h))
  if r == "wIxLA" then `(tactic| first | (with_reducible show rIxL _ (V.ref _) (V.int _) _ _;$b:tactic) | $t:tactic)else if r == "wIxTA" then `(tactic| first | (with_reducible show rIxT _ (V.ref _) (V.int _) _ _;$b:tactic) | $t:tactic)else if r == "wSetLA" then `(tactic| first | (with_reducible show rSetL (V.ref _) (V.int _) _ _ _;$b:tactic) | $t:tactic)else `(tactic| first | $b:tactic | $t:tactic)) (← `(tactic| fail))
 return t
local macro_rules | `(tactic| walk_at "S")=>do
 let h ← `(?_)
 let l ← `(fun _ _=>?_)
 let t ← ("wSeqC wCut wAsg wName wOp wC wVarA wI0".splitOn " ").foldrM (fun r t=>do
  let b ← `(tactic| with_reducible refine $(Lean.mkIdent (Lean.Name.mkStr `SW r)) $(if r == "wSeqC" || r == "wCut" then l else h))
  if r == "wIxLA" then `(tactic| first | (with_reducible show rIxL _ (V.ref _) (V.int _) _ _;$b:tactic) | $t:tactic)else if r == "wIxTA" then `(tactic| first | (with_reducible show rIxT _ (V.ref _) (V.int _) _ _;$b:tactic) | $t:tactic)else if r == "wSetLA" then `(tactic| first | (with_reducible show rSetL (V.ref _) (V.int _) _ _ _;$b:tactic) | $t:tactic)else `(tactic| first | $b:tactic | $t:tactic)) (← `(tactic| fail))
 return t
local macro_rules | `(tactic| walk_at "W")=>`(tactic| repeat walk_at "S")
def top(i:Nat):Stmt:=PySem.Challenge.pw_slowshift_k45_rows_refused.main.body.getD i (.Pass ⟨0,0,0,0⟩)
abbrev z32_:Stmt:=(top 1)
theorem z94_:FnScope ["table","deed"] ["table","deed"] (defScope z32_):=SW.fs
abbrev z39_:Stmt:=(top 14)
theorem z101_:FnScope ["thing"] ["thing"] (defScope z39_):=SW.fs
abbrev z37_:Stmt:=(top 15)
theorem z99_:FnScope ["thing"] ["thing"] (defScope z37_):=SW.fs
abbrev z33_:Stmt:=(top 16)
theorem z95_:FnScope ["thing"] ["thing"] (defScope z33_):=SW.fs
abbrev z40_:Stmt:=(top 17)
theorem z102_:FnScope ["thing"] ["thing"] (defScope z40_):=SW.fs
abbrev z34_:Stmt:=(top 18)
theorem z96_:FnScope ["thing"] ["thing"] (defScope z34_):=SW.fs
abbrev z35_:Stmt:=(top 19)
theorem z97_:FnScope ["thing"] ["thing"] (defScope z35_):=SW.fs
abbrev z36_:Stmt:=(top 20)
theorem z98_:FnScope ["thing"] ["thing"] (defScope z36_):=SW.fs
abbrev z48_:Stmt:=(top 24)
theorem z110_:FnScope ["key","mixer"] ["key","mixer"] (defScope z48_):=SW.fs
abbrev z52_:Stmt:=(top 25)
theorem z114_:FnScope ["mark","size"] ["mark","size"] (defScope z52_):=SW.fs
abbrev z54_:Stmt:=(top 26)
theorem z116_:FnScope ["mark","point","bit"] ["mark"] (defScope z54_):=SW.fs
abbrev z58_:Stmt:=(top 27)
theorem z120_:FnScope ["place","size","first"] ["place","size"] (defScope z58_):=SW.fs
abbrev z2_:Stmt:=(inClass (top 29) 0)
theorem z64_:FnScope ["self","size","mixer"] ["self","size","mixer"] (defScope z2_):=SW.fs
abbrev z9_:Stmt:=(inClass (top 29) 1)
theorem z71_:FnScope ["self","key","worth","row","before"] ["self","key","worth"] (defScope z9_):=SW.fs
abbrev z4_:Stmt:=(inClass (top 29) 2)
theorem z66_:FnScope ["self","key","worth"] ["self","key"] (defScope z4_):=SW.fs
abbrev z6_:Stmt:=(inClass (top 29) 3)
theorem z68_:FnScope ["self","key"] ["self","key"] (defScope z6_):=SW.fs
abbrev z10_:Stmt:=(inClass (top 29) 4)
theorem z72_:FnScope ["self","place"] ["self","place"] (defScope z10_):=SW.fs
abbrev z5_:Stmt:=(inClass (top 29) 5)
theorem z67_:FnScope ["self","place","told"] ["self","place"] (defScope z5_):=SW.fs
abbrev z12_:Stmt:=(inClass (top 29) 6)
theorem z74_:FnScope ["self"] ["self"] (defScope z12_):=SW.fs
abbrev z7_:Stmt:=(inClass (top 29) 7)
theorem z69_:FnScope ["self"] ["self"] (defScope z7_):=SW.fs
abbrev z8_:Stmt:=(inClass (top 29) 8)
theorem z70_:FnScope ["self","key"] ["self","key"] (defScope z8_):=SW.fs
abbrev z11_:Stmt:=(inClass (top 29) 9)
theorem z73_:FnScope ["self","key"] ["self","key"] (defScope z11_):=SW.fs
abbrev z3_:Stmt:=(inClass (top 29) 10)
theorem z65_:FnScope ["self","place"] ["self","place"] (defScope z3_):=SW.fs
abbrev z13_:Stmt:=(inClass (top 32) 0)
theorem z75_:FnScope ["self","mixer","pace","state","laid"] ["self","mixer","pace","state"] (defScope z13_):=SW.fs
abbrev z22_:Stmt:=(inClass (top 32) 1)
theorem z84_:FnScope ["self","key","worth","told"] ["self","key","worth"] (defScope z22_):=SW.fs
abbrev z15_:Stmt:=(inClass (top 32) 2)
theorem z77_:FnScope ["self","key","told"] ["self","key"] (defScope z15_):=SW.fs
abbrev z19_:Stmt:=(inClass (top 32) 3)
theorem z81_:FnScope ["self","key","told"] ["self","key"] (defScope z19_):=SW.fs
abbrev z27_:Stmt:=(inClass (top 32) 4)
theorem z89_:FnScope ["self","elder"] ["self"] (defScope z27_):=SW.fs
abbrev z20_:Stmt:=(inClass (top 32) 5)
theorem z82_:FnScope ["self"] ["self"] (defScope z20_):=SW.fs
abbrev z28_:Stmt:=(inClass (top 32) 6)
theorem z90_:FnScope ["self"] ["self"] (defScope z28_):=SW.fs
abbrev z25_:Stmt:=(inClass (top 32) 7)
theorem z87_:FnScope ["self"] ["self"] (defScope z25_):=SW.fs
abbrev z24_:Stmt:=(inClass (top 32) 8)
theorem z86_:FnScope ["self"] ["self"] (defScope z24_):=SW.fs
abbrev z18_:Stmt:=(inClass (top 32) 9)
theorem z80_:FnScope ["self","key","due","reached","place","asked_elder"] ["self","key"] (defScope z18_):=SW.fs
abbrev z16_:Stmt:=(inClass (top 32) 10)
theorem z78_:FnScope ["self"] ["self"] (defScope z16_):=SW.fs
abbrev z21_:Stmt:=(inClass (top 32) 11)
theorem z83_:FnScope ["self","place","pairs","key","worth"] ["self","place"] (defScope z21_):=SW.fs
abbrev z17_:Stmt:=(inClass (top 32) 12)
theorem z79_:FnScope ["self"] ["self"] (defScope z17_):=SW.fs
abbrev z26_:Stmt:=(inClass (top 32) 13)
theorem z88_:FnScope ["self","key"] ["self","key"] (defScope z26_):=SW.fs
abbrev z23_:Stmt:=(inClass (top 32) 14)
theorem z85_:FnScope ["self","key"] ["self","key"] (defScope z23_):=SW.fs
abbrev z14_:Stmt:=(inClass (top 32) 15)
theorem z76_:FnScope ["self","size"] ["self"] (defScope z14_):=SW.fs
abbrev z29_:Stmt:=(inClass (top 32) 16)
theorem z91_:FnScope ["self","size"] ["self"] (defScope z29_):=SW.fs
abbrev z56_:Stmt:=(top 33)
theorem z118_:FnScope ["rows","mixer","shelf","row","key","worth"] ["rows","mixer"] (defScope z56_):=SW.fs
abbrev z55_:Stmt:=(top 34)
theorem z117_:FnScope ["shelf"] ["shelf"] (defScope z55_):=SW.fs
abbrev z57_:Stmt:=(top 36)
theorem z119_:FnScope ["table","cursor","shelves","size","place","pairs","greater","part"] ["table","cursor"] (defScope z57_):=SW.fs
abbrev z51_:Stmt:=(top 37)
theorem z113_:FnScope ["cursor","size"] ["cursor","size"] (defScope z51_):=SW.fs
abbrev z50_:Stmt:=(top 38)
theorem z112_:FnScope ["place","size","cursor"] ["place","size","cursor"] (defScope z50_):=SW.fs
abbrev z53_:Stmt:=(top 39)
theorem z115_:FnScope ["place","size"] ["place","size"] (defScope z53_):=SW.fs
abbrev z0_:Stmt:=(inClass (top 43) 0)
theorem z62_:FnScope ["self"] ["self"] (defScope z0_):=SW.fs
abbrev z1_:Stmt:=(inClass (top 43) 1)
theorem z63_:FnScope ["self","row","words","numbers"] ["self","row"] (defScope z1_):=SW.fs
abbrev z49_:Stmt:=(top 44)
theorem z111_:FnScope ["word","figures"] ["word"] (defScope z49_):=SW.fs
abbrev z31_:Stmt:=(top 45)
theorem z93_:FnScope ["text"] ["text"] (defScope z31_):=SW.fs
abbrev z38_:Stmt:=(top 46)
theorem z100_:FnScope ["word","numbers"] ["word","numbers"] (defScope z38_):=SW.fs
abbrev z30_:Stmt:=(top 47)
theorem z92_:FnScope ["table","word","numbers"] ["table","word","numbers"] (defScope z30_):=SW.fs
abbrev z59_:Stmt:=(top 48)
theorem z121_:FnScope ["sizes"] ["sizes"] (defScope z59_):=SW.fs
abbrev z60_:Stmt:=(top 49)
theorem z122_:FnScope ["told"] ["told"] (defScope z60_):=SW.fs
abbrev z61_:Stmt:=(top 50)
theorem z123_:FnScope ["worth"] ["worth"] (defScope z61_):=SW.fs
abbrev z42_:Stmt:=(top 52)
theorem z104_:FnScope ["script","k"] ["script","k"] (defScope z42_):=SW.fs
abbrev z44_:Stmt:=(top 53)
theorem z106_:FnScope ["cell"] ["cell"] (defScope z44_):=SW.fs
abbrev z47_:Stmt:=(top 54)
theorem z109_:FnScope ["row","many","told"] ["row","many"] (defScope z47_):=SW.fs
abbrev z45_:Stmt:=(top 55)
theorem z107_:FnScope ["some"] [] (defScope z45_):=SW.fs
abbrev z43_:Stmt:=(top 56)
theorem z105_:FnScope ["desk","row","right","other","e"] ["desk","row"] (defScope z43_):=SW.fs
abbrev z46_:Stmt:=(top 57)
theorem z108_:FnScope ["desk"] ["desk"] (defScope z46_):=SW.fs
abbrev z41_:Stmt:=(top 58)
theorem z103_:FnScope ["script","rows","desk","row","drawn","made","other","key","one","early","cell","some","deed"] ["script"] (defScope z41_):=SW.fs
structure Gs(K:W.Frag)(mg:Str->Option Value)(C CT CD cS PS CR CE CP CZ CV:Addr):Prop where
 c_MARK_BITS:∃ t,mg "MARK_BITS"=some (.int 16 t)
 c_MARKS:∃ t,mg "MARKS"=some (.int 65536 t)
 c_SIZES:∃ a,mg "SIZES"=some (.ref a) /\ ∀ H,SqT K H a [.int 4,.int 8,.int 16,.int 32,.int 64,.int 128,.int 256,.int 512,.int 1024,.int 2048,.int 4096]
 c_EMPTY:∃ a b,mg "EMPTY"=some (.ref a)/\(∀ H,SqT K H a [.non,.int 0,.ref b]) /\ ∀ H,RowsT K H b [[],[],[],[]]
 cl_Shelf:Cls K C
 n_Shelf_mixer:NoAttr K C "mixer"
 n_Shelf_rows:NoAttr K C "rows"
 n_Shelf_held:NoAttr K C "held"
 cl_Table:Cls K CT
 n_Table_mixer:NoAttr K CT "mixer"
 n_Table_pace:NoAttr K CT "pace"
 n_Table_elder:NoAttr K CT "elder"
 n_Table_moved:NoAttr K CT "moved"
 n_Table_newer:NoAttr K CT "newer"
 n_Table_touches:NoAttr K CT "touches"
 cl_Desk:Cls K CD
 n_Desk_table:NoAttr K CD "table"
 b_int:mg "int"=none
 b_bool:mg "bool"=none
 b_isinstance:mg "isinstance"=none
 b_range:mg "range"=none
 b_len:mg "len"=none
 b_list:mg "list"=none
 b_tuple:mg "tuple"=none
 b_sum:mg "sum"=none
 b_min:mg "min"=none
 b_max:mg "max"=none
 b_set:mg "set"=none
 b_str:mg "str"=none
 b_sorted:mg "sorted"=none
 b_all:mg "all"=none
 c_GREATEST:∃ t,mg "GREATEST"=some (.int 1000000000 t)
 c_LAST_POINT:∃ t,mg "LAST_POINT"=some (.int 65535 t)
 c_GREATEST_MIXER_PART:∃ t,mg "GREATEST_MIXER_PART"=some (.int 65535 t)
 c_GREATEST_PACE:∃ t,mg "GREATEST_PACE"=some (.int 8 t)
 c_FIGURES:∃ t,mg "FIGURES"=some (.str "0123456789" t)
 c_MOST_FIGURES:∃ t,mg "MOST_FIGURES"=some (.int 10 t)
 b_ValueError:mg "ValueError"=none
 e_NoRow:SW.ErrC K mg "NoRow" CR
 m_SlowError:mg "SlowError"=some (.ref CE)
 m_NoPlace:mg "NoPlace"=some (.ref CP)
 m_NoSize:mg "NoSize"=some (.ref CZ)
 m_NoState:mg "NoState"=some (.ref CV)
 x_NoRow:SW.ExcC K CR
 x_slow:W.exmOne K (.ref CR) (.ref CE)=some true
 x_val:W.kitOne K (.ref CR) (.type "ValueError")=some true
 x_oth:W.kitAny K (.ref CR) [.ref CP,.ref CZ,.ref CV]=some false
 lam:LamK K mg cS PS
theorem hu1_of{A:Around}{k:Nat}(hr:Room k A):A.units < cLine:=Nat.lt_of_le_of_lt (Nat.le_add_right _ 1) (hu_of hr)
section
variable{P:Program}{w:World}{K:W.Frag}{mg:Str->Option Value}{base:Heap}{C CT CD cS PS CR CE CP CZ CV:Addr}
theorem q24_(d:Dfn K mg "mark_of" z48_ ["key","mixer"])(g:Gs K mg C CT CD cS PS CR CE CP CZ CV):Fn P w K mg base "mark_of" 1 ["key","mixer"] spMark:=by
 refine d.fn z110_ (fun vs H Q E h=>?_) (fun f cdv A outer s H vs Q E hr h=>?_)
 · obtain⟨k,t,f,m,rfl,_⟩:=h
   rfl
 obtain⟨k,t,f,m,rfl,ht,hf,q⟩:=h;refine⟨_,(B.sone (B.ret (B.op op_mod (B.op op_add (B.op op_mul (B.v 0) (B.ix ix_tup (B.v 1) B.int)) (B.ix ix_tup (B.v 1) B.int)) (B.gint g.c_MARKS)))),?_⟩;walk_at "W";exact q
theorem q35_(d:Dfn K mg "place_of" z52_ ["mark","size"]):Fn P w K mg base "place_of" 1 ["mark","size"] spPlace:=by
 refine d.fn z114_ (fun vs H Q E h=>?_) (fun f cdv A outer s H vs Q E hr h=>?_)
 · obtain⟨k,t,rfl,_⟩:=h
   rfl
 obtain⟨m,z,rfl,hz,q⟩:=h;refine⟨_,(B.sone (B.ret (B.op op_mod (B.v 0) (B.v 1)))),?_⟩;walk_at "W";exact q
theorem q38_(d:Dfn K mg "point_of" z54_ ["mark"])(g:Gs K mg C CT CD cS PS CR CE CP CZ CV):Fn P w K mg base "point_of" 1 ["mark"] spPoint:=by
 refine d.fn z116_ (fun vs H Q E h=>?_) (fun f cdv A outer s H vs Q E hr h=>?_)
 · obtain⟨k,rfl,_⟩:=h
   rfl
 obtain⟨m,rfl,q⟩:=h;refine⟨_,(B.scons (B.set 1 z116_.nd B.int)
  (B.scons (B.fors (B.irange g.b_range (B.cons (B.gint g.c_MARK_BITS) B.nil)) (B.gname (i:=2) z116_.nd) (B.sone (B.set 1 z116_.nd (B.op op_add (B.op op_mul (B.v 1) B.int) (B.op op_mod (B.op op_shr (B.v 0) (B.v 2)) B.int)))))
  (B.sone (B.ret (B.v 1))))),?_⟩
 walk_at "W";refine⟨16,rfl,by decide,by decide,for_range (n:=16) (fun i σ H'=>∃ v,σ=[some (.int m),some (.int (pt m i)),v]/\H'=H) ⟨none,rfl,rfl⟩ ?_ ?_⟩
 · rintro i σ H' hi ⟨v,rfl,rfl⟩
   have e:(0+(i:Int)).toNat=i:=by omega
   walk_at "W";exact⟨_,by rw[e];rfl,rfl⟩
 rintro σ H' ⟨v,rfl,rfl⟩;walk_at "W";exact q
theorem q50_(d:Dfn K mg "stretch_of" z58_ ["place","size"])(g:Gs K mg C CT CD cS PS CR CE CP CZ CV)(q42_:Fn P w K mg base "point_of" 1 ["mark"] spPoint):Fn P w K mg base "stretch_of" 2 ["place","size"] spStretch:=by
 refine d.fn z120_ (fun vs H Q E h=>?_) (fun f cdv A outer s H vs Q E hr h=>?_)
 · obtain⟨p,z,rfl,_⟩:=h
   rfl
 obtain⟨p,z,rfl,hz,q⟩:=h;refine⟨_,(B.scons (B.set 2 z120_.nd (B.fn q42_ hr.up (B.cons (B.v 0) B.nil)))
  (B.sone (B.ret (B.tup (B.cons (B.v 2) (B.cons (B.op op_sub (B.op op_add (B.v 2) (B.op op_fdivL (B.gint g.c_MARKS) (B.v 1))) B.int) B.nil)))))),?_⟩
 walk_at "W";refine wPoint ?_;walk_at "W";exact⟨by show(2:Nat)<=sizeLine;decide,fun t ht=>q t ht⟩
theorem q61_(d:Dfn K mg "is_whole" z39_ ["thing"])(g:Gs K mg C CT CD cS PS CR CE CP CZ CV):Fn P w K mg base "is_whole" 1 ["thing"] spWhole:=by
 refine d.fn z101_ (fun vs H Q E h=>?_) (fun f cdv A outer s H vs Q E hr h=>?_)
 · obtain⟨n,rfl,_⟩:=h
   rfl
 obtain⟨n,rfl,q⟩:=h;refine⟨_,(B.sone (B.ret (B.and (B.cB SW.call_isi g.b_isinstance SW.b_isinstance (B.cons (B.v 0) (B.cons (B.ty g.b_int SW.b_int) B.nil))) (B.one (B.not (B.cB SW.call_isi g.b_isinstance SW.b_isinstance (B.cons (B.v 0) (B.cons (B.ty g.b_bool SW.b_bool) B.nil)))))))),?_⟩;walk_at "W";refine SW.iIsi (.int n) isi_int_int ?_;walk_at "W";refine iteT ?_;walk_at "W";refine SW.iIsi (.int n) isi_int_bool ?_;walk_at "W";exact q
theorem q48_(d:Dfn K mg "is_size" z37_ ["thing"])(g:Gs K mg C CT CD cS PS CR CE CP CZ CV)(q14_:Fn P w K mg base "is_whole" 1 ["thing"] spWhole):Fn P w K mg base "is_size" 2 ["thing"] spIsSize:=by
 refine d.fn z99_ (fun vs H Q E h=>?_) (fun f cdv A outer s H vs Q E hr h=>?_)
 · obtain⟨n,rfl,_⟩:=h
   rfl
 obtain⟨n,rfl,hn,q⟩:=h;obtain⟨aS,hS,tS⟩:=g.c_SIZES;refine⟨_,(B.sone (B.ret (B.and (B.fn q14_ hr.up (B.cons (B.v 0) B.nil)) (B.one (B.cmpI op_in_seq (B.v 0) (B.gref hS)))))),?_⟩;walk_at "W";refine⟨_,rfl,?_⟩;walk_at "W";refine iteT ?_;walk_at "W";refine⟨aS,_,rfl,.inr (tS _),rfl,by decide,?_⟩
 rw[if_neg Bool.false_ne_true,inSizes hn];exact q
theorem q97_(d:Dk K mg C "Shelf" "Shelf.__init__" z2_ ["self","size","mixer"])(g:Gs K mg C CT CD cS PS CR CE CP CZ CV)(q12_:Fn P w K mg base "is_size" 2 ["thing"] spIsSize):Mkr P w K mg base C "Shelf" 3 ["self","size","mixer"] (spSInit C):=by
 refine d.mk' z64_ (fun vs H Q E h=>?_) (fun f cdv A outer s H vs Q E hr h=>?_)
 · obtain⟨x,t,dx,n,f,m,rfl,_⟩:=h
   rfl
 obtain⟨x,t,dx,n,f,m,rfl,hx,ht,bf,hn,q⟩:=h;have bn:=hn.bounds;refine⟨_,(B.scons (B.ifs (B.tnot (B.tval (B.fn q12_ hr.up (B.cons (B.v 1) B.nil)))) (B.sone B.never) B.snil)
  (B.scons (B.sfld (B.v 0) (B.v 2))
  (B.scons (B.sfld (B.v 0) (SW.B.comp [] ["place"] (SW.CompScope.of rfl rfl (by decide +kernel) (by decide +kernel) rfl trivial rfl rfl rfl) (by decide +kernel) (B.irange g.b_range (B.cons (B.v 1) B.nil)) (fun _ _ _ _=>B.dnew)))
  (B.sone (B.sfld (B.v 0) B.int))))),?_⟩
 walk_at "W";refine⟨n,rfl,hn,?_⟩;walk_at "W";refine iteF ?_;walk_at "W";refine SW.iSFld hx g.cl_Shelf g.n_Shelf_mixer (by show 0 < 1000;decide) ?_
 walk_at "W";refine⟨n,rfl,by omega,by omega,fun D hD=>?_⟩
 have nxt:x≠t:=ne_of hx ht (by intro z;cases z)
 have hD0:H D=none:=by
  by_cases e:D=x
  · subst e;rw[upd_same]at hD;cases hD
  rw[upd_ne e]at hD;exact hD
 have nxD:x≠D:=ne_of_none hx hD0;refine comp_rangeU (fun i σ' H'=>∃(ds:List Addr) (v:Option V),σ'=[v]/\ds.length=i/\H' D=some (.lst (ds.map V.ref))/\ds.Nodup/\(∀ y∈ds,H' y=some (.dK [])/\H y=none/\y≠D)/\H' x=some (.ins C dx (putF "mixer" (.ref t) [])) /\ ∀ b o,b≠x->H b=some o->H' b=some o)
  ?_ ?_ ?_
 · exact⟨[],none,rfl,rfl,upd_same,List.nodup_nil,fun y hy=>(List.not_mem_nil hy).elim,by rw[upd_ne nxD,upd_same],fun b o nb e=>by rw[upd_ne (ne_of_none e hD0),upd_ne nb];exact e⟩
 · rintro i σ' H' hi ⟨ds,v,rfl,hl,h1,nd,h2,h3,h4⟩
   intro y hy;have nyD:D≠y:=ne_of_none h1 hy;have nin:y∉ds:=fun z=>by
    have:=(h2 y z).1;rw[hy]at this;cases this
   have hy0:H y=none:=by
    by_cases e:y=x
    · subst e;rw[h3]at hy;cases hy
    cases e2:H y with
    | none=>rfl
    | some o=>rw[h4 y o e e2]at hy;cases hy
   refine CN.mk hi (ys:=ds.map V.ref) (by rw[upd_ne nyD];exact h1) (by rw[List.length_map];exact Nat.lt_of_le_of_lt (show ds.length<=4096 by omega) (by decide)) ⟨ds++[y],_,rfl,by rw[List.length_append,hl];rfl,?_,nd_snoc nd nin,?_,?_,?_⟩
   · rw[upd_same,List.map_append];rfl
   · intro z hz
     rcases List.mem_append.mp hz with hz | hz
     · obtain⟨a1,a2,a3⟩:=h2 z hz
       refine⟨?_,a2,a3⟩;rw[upd_ne a3,upd_ne (fun e:z=y=>nin (e ▸ hz))];exact a1
     rw[List.mem_singleton.mp hz];exact⟨by rw[upd_ne nyD.symm,upd_same],hy0,nyD.symm⟩
   · rw[upd_ne nxD,upd_ne (ne_of_none h3 hy)];exact h3
   intro b o nb e;rw[upd_ne (ne_of_none e hD0),upd_ne (ne_of_none (h4 b o nb e) hy)];exact h4 b o nb e
 rintro σ' H' ⟨ds,v,rfl,hl,h1,nd,h2,h3,h4⟩;walk_at "W";refine SW.iSFld h3 g.cl_Shelf g.n_Shelf_rows (by show 1 < 1000;decide) ?_
 walk_at "W";refine⟨x,C,dx,_,rfl,upd_same,g.cl_Shelf,g.n_Shelf_held,?_,?_⟩
 · have e1:=putF_len "rows" (V.ref D) (putF "mixer" (V.ref t) [])
   have e2:=putF_len "mixer" (V.ref t) [];have e3:([]:List (Str×V)).length=0:=rfl;omega
 have up:∀ b o o1 o2,b≠x->H' b=some o->upd (upd H' x o1) x o2 b=some o:=fun b o o1 o2 nb e=>by rw[upd_ne nb,upd_ne nb];exact e
 refine q _ (fun b=>b=x∨b=D∨b∈ds) ⟨t,D,ds,⟨⟨dx,?_⟩,up _ _ _ _ nxt.symm (h4 _ _ nxt.symm ht),bf,up _ _ _ _ nxD.symm h1,by rw[hl,List.length_replicate];rfl,nd,?_,?_,?_,?_⟩,fun b=>Iff.rfl⟩ ?_ ?_
 · rw[upd_same,sfl_mk,tot_rep];rfl
 · intro i y r e1 e2
   have hm:=List.mem_of_getElem? e1;have er:r=[]:=List.eq_of_mem_replicate (List.mem_of_getElem? e2);subst er;obtain⟨a1,a2,a3⟩:=h2 y hm;exact up _ _ _ _ (fun e=>by rw[e,hx]at a2;cases a2) a1
 · intro r hr
   rw[List.eq_of_mem_replicate hr];exact List.nodup_nil
 · rw[List.length_replicate];omega
 · rw[List.length_replicate];omega
 · intro b hb
   rcases hb with rfl | rfl | hb
   · exact .inl rfl
   · exact .inr hD0
   exact .inr (h2 b hb).2.1
 intro b o nb e;exact up _ _ _ _ nb (h4 b o nb e)
theorem q100_(d:Dm K C "place_with" "Shelf.place_with" z8_ ["self","key"])(g:Gs K mg C CT CD cS PS CR CE CP CZ CV)(q25_:Fn P w K mg base "mark_of" 1 ["key","mixer"] spMark)(q37_:Fn P w K mg base "place_of" 1 ["mark","size"] spPlace):Mt P w K mg base C "place_with" 2 ["self","key"] (spSPlace C):=by
 refine d.mt z70_ (fun vs H Q E h=>?_) (fun f cdv A outer s H vs Q E hr h=>?_)
 · obtain⟨p,k,f,m,R,F,rfl,_⟩:=h
   rfl
 obtain⟨p,k,f,m,R,F,rfl,⟨t,L,ds,X,hF⟩,q⟩:=h;obtain⟨dx,hp⟩:=X.ob;have hb:=X.pos;refine⟨_,(B.sone (B.ret (B.fn q37_ hr.up (B.cons (B.fn q25_ hr.up (B.cons (B.v 1) (B.cons (B.fld (B.v 0)) B.nil))) (B.cons (B.cB call_len_seq g.b_len SW.b_len (B.cons (B.fld (B.v 0)) B.nil)) B.nil))))),?_⟩;walk_at "W";refine SW.iFld hp g.cl_Shelf g.n_Shelf_mixer (sfl_mixer _ _ _) ?_;walk_at "W";refine wMark X.mx X.bm ?_;walk_at "W";refine SW.iFld hp g.cl_Shelf g.n_Shelf_rows (sfl_rows _ _ _) ?_;walk_at "W";refine SW.iLen (.inl (SqL.of X.rw)) ?_;walk_at "W";rw[List.length_map,X.len];refine wPlace (by omega) ?_
 rw[← plc_int hb];exact q
theorem q103_(d:Dm K C "row_with" "Shelf.row_with" z11_ ["self","key"])(g:Gs K mg C CT CD cS PS CR CE CP CZ CV)(q74_:Mt P w K mg base C "place_with" 2 ["self","key"] (spSPlace C)):Mt P w K mg base C "row_with" 3 ["self","key"] (spSRowW C):=by
 refine d.mt z73_ (fun vs H Q E h=>?_) (fun f cdv A outer s H vs Q E hr h=>?_)
 · obtain⟨p,k,f,m,R,t,L,ds,rfl,_⟩:=h
   rfl
 obtain⟨p,k,f,m,R,t,L,ds,rfl,X,q⟩:=h;obtain⟨dx,hp⟩:=X.ob;have hb:=X.pos;have S:Sh C H p f m R (fun b=>b=p∨b=L∨b∈ds):=⟨t,L,ds,X,fun b=>Iff.rfl⟩;obtain⟨y,hy,_⟩:=X.place k;refine⟨_,(B.sone (B.ret (B.ix ix_list (B.fld (B.v 0)) (B.meth (B.v 0) g.cl_Shelf q74_ hr.up (B.cons (B.v 1) B.nil))))),?_⟩;walk_at "W";refine SW.iFld hp g.cl_Shelf g.n_Shelf_rows (sfl_rows _ _ _) ?_;walk_at "W";refine wS S ⟨by decide +kernel,by decide +kernel,by decide +kernel⟩ ?_
 walk_at "W";refine wSPlace S ?_;refine wIxL X.rw (v:=.ref y) ?_ (q y hy);refine atI_nat ?_;rw[List.getElem?_map,hy]
 rfl
theorem q101_(d:Dm K C "put" "Shelf.put" z9_ ["self","key","worth"])(g:Gs K mg C CT CD cS PS CR CE CP CZ CV)(q77_:Mt P w K mg base C "row_with" 3 ["self","key"] (spSRowW C)):Mt P w K mg base C "put" 4 ["self","key","worth"] (spSPut C):=by
 refine d.mt z71_ (fun vs H Q E h=>?_) (fun f cdv A outer s H vs Q E hr h=>?_)
 · obtain⟨p,k,v,f,m,R,F,rfl,_⟩:=h
   rfl
 obtain⟨p,k,v,f,m,R,F,rfl,S,hl,q⟩:=h;obtain⟨t,L,ds,X,hF⟩:=id S;obtain⟨dx,hp⟩:=X.ob;obtain⟨y,hy,hr0⟩:=X.place k;have npy:p≠y:=ne_of hp hr0 (by intro z;cases z)
 have Fp:F p:=(hF p).mpr (.inl rfl);have Fy:F y:=(hF y).mpr (.inr (.inr (List.mem_of_getElem? hy)));have hlen:(kvs (sRow f m R k)).length < sizeLine:=by
  rw[kvs_len];exact Nat.lt_of_le_of_lt (Nat.le_trans (len_le_tot R _) hl) (by decide)
 have hok:ROk (rPut (sRow f m R k) k v):=rPut_ok (X.ok _ (List.mem_of_getElem? (getD_get (plc_lt X.pos))));have ht:=sPut_tot (f:=f) (m:=m) (k:=k) (v:=v) X.pos;refine⟨_,(B.scons (B.set 3 z71_.nd (B.meth (B.v 0) g.cl_Shelf q77_ hr.up (B.cons (B.v 1) B.nil)))
  (B.scons (B.set 4 z71_.nd (B.dget1 (hu_of hr) (B.v 3) (B.v 1) (m:=B.m1)))
  (B.scons (B.ifs (B.tcmp op_isN (B.v 4) B.non) (B.sone (B.faug in_add (B.v 0) B.int)) B.snil)
  (B.scons (B.dput (hu_of hr) (B.v 3) (B.v 1) (B.v 2))
  (B.sone (B.ret (B.v 4))))))),?_⟩
 walk_at "W";refine wS S ⟨by decide +kernel,by decide +kernel,by decide +kernel⟩ ?_
 walk_at "W";refine SW.wSRowW X fun y' hy'=>?_;obtain rfl:y=y':=Option.some.inj (hy.symm.trans hy');walk_at "W";refine⟨y,rfl,.inl ⟨_,.inl hr0⟩,?_⟩;walk_at "W";refine⟨_,DGet.k (k:=Sum.inl k) hr0,?_⟩;rw[oV_getD];walk_at "W";refine⟨rfl,?_⟩;walk_at "W";refine ite2 (fun hc=>?_) (fun hc=>?_)
 · have e:sLook f m R k=none:=by
    unfold sLook;cases e:rLook (sRow f m R k) k with
    | none=>rfl
    | some z=>rw[e]at hc;exact absurd (of_decide_eq_true hc) (by intro z;cases z)
   rw[e,if_pos rfl]at ht;walk_at "W";refine SW.iFld hp g.cl_Shelf g.n_Shelf_held (sfl_held _ _ _) ?_;walk_at "W";refine⟨_,_,rfl,rfl,dx,_,hp,by show 3 < 1000;decide,?_⟩
   rw[sfl_put];walk_at "W";refine⟨y,_,rfl,DPut.k (k:=Sum.inl k) (by rw[upd_ne npy.symm];exact hr0) hlen,?_⟩
   walk_at "W";rw[putK_kvs];refine q _ ⟨t,L,ds,X.set hy hok ⟨dx,?_⟩ upd_same fun b o n1 n2 e=>?_,hF⟩ fun b o nb e=>?_
   · rw[upd_ne npy,upd_same]
     show _=some (HO.ins C dx (sfl t L (tot (sPut f m R k v))));rw[ht]
     rfl
   · rw[upd_ne n2,upd_ne n1];exact e
   rw[upd_ne (fun z:b=y=>nb (z ▸ Fy)),upd_ne (fun z:b=p=>nb (z ▸ Fp))];exact e
 have e:¬ sLook f m R k=none:=fun e=>hc (by
  unfold sLook at e;rw[e];exact decide_eq_true rfl)
 rw[if_neg e]at ht;walk_at "W";refine⟨y,_,rfl,DPut.k (k:=Sum.inl k) hr0 hlen,?_⟩;walk_at "W";rw[putK_kvs];refine q _ ⟨t,L,ds,X.set hy hok ⟨dx,?_⟩ upd_same fun b o n1 n2 e=>?_,hF⟩ fun b o nb e=>?_
 · rw[upd_ne npy]
   show _=some (HO.ins C dx (sfl t L (tot (sPut f m R k v))));rw[ht];exact hp
 · rw[upd_ne n2];exact e
 rw[upd_ne (fun z:b=y=>nb (z ▸ Fy))];exact e
theorem q95_(d:Dm K C "cut" "Shelf.cut" z4_ ["self","key"])(g:Gs K mg C CT CD cS PS CR CE CP CZ CV)(q77_:Mt P w K mg base C "row_with" 3 ["self","key"] (spSRowW C)):Mt P w K mg base C "cut" 4 ["self","key"] (spSCut C):=by
 refine d.mt z66_ (fun vs H Q E h=>?_) (fun f cdv A outer s H vs Q E hr h=>?_)
 · obtain⟨p,k,f,m,R,F,rfl,_⟩:=h
   rfl
 obtain⟨p,k,f,m,R,F,rfl,S,q⟩:=h;obtain⟨t,L,ds,X,hF⟩:=id S;obtain⟨dx,hp⟩:=X.ob;obtain⟨y,hy,hr0⟩:=X.place k;have npy:p≠y:=ne_of hp hr0 (by intro z;cases z)
 have Fp:F p:=(hF p).mpr (.inl rfl);have Fy:F y:=(hF y).mpr (.inr (.inr (List.mem_of_getElem? hy)));have hok0:ROk (sRow f m R k):=X.ok _ (List.mem_of_getElem? (getD_get (plc_lt X.pos)));have ht:=sCut_tot (f:=f) (m:=m) (k:=k) X.pos X.ok;refine⟨_,(B.scons (B.set 2 z66_.nd (B.dpop2 (B.meth (B.v 0) g.cl_Shelf q77_ hr.up (B.cons (B.v 1) B.nil)) (B.v 1) B.non (m:=B.m2)))
  (B.scons (B.ifs (B.tcmp op_notN (B.v 2) B.non) (B.sone (B.faug in_sub (B.v 0) B.int)) B.snil)
  (B.sone (B.ret (B.v 2))))),?_⟩
 walk_at "W";refine wS S ⟨by decide +kernel,by decide +kernel,by decide +kernel⟩ ?_
 walk_at "W";refine SW.wSRowW X fun y' hy'=>?_;obtain rfl:y=y':=Option.some.inj (hy.symm.trans hy');refine⟨y,rfl,.inl ⟨_,.inl hr0⟩,?_⟩;walk_at "W";refine⟨_,Sum.inl k,hr0,rfl,fun v hv=>?_,fun hv=>?_⟩
 · rw[valV_kvs]at hv
   obtain⟨z,e,rfl⟩:=Option.map_eq_some_iff.mp hv;have e':sLook f m R k=some z:=e;rw[e',if_neg (by simp)]at ht
   rw[e']at q;rw[dropK_kvs];walk_at "W";refine⟨rfl,?_⟩;walk_at "W";refine iteT ?_;walk_at "W";refine⟨p,C,dx,_,_,rfl,by rw[upd_ne npy];exact hp,g.cl_Shelf,g.n_Shelf_held,sfl_held _ _ _,?_⟩
   walk_at "W";refine⟨_,_,rfl,rfl,dx,_,by rw[upd_ne npy];exact hp,by show 3 < 1000;decide,?_⟩
   rw[sfl_put];walk_at "W";refine q _ ⟨t,L,ds,X.set hy (rCut_ok hok0) ⟨dx,?_⟩ (by rw[upd_ne npy.symm,upd_same]) fun b o n1 n2 e=>?_,hF⟩ fun b o nb e=>?_
   · rw[upd_same]
     show _=some (HO.ins C dx (sfl t L (tot (sCut f m R k))));rw[← ht]
     congr 3
     omega
   · rw[upd_ne n1,upd_ne n2];exact e
   rw[upd_ne (fun z:b=p=>nb (z ▸ Fp)),upd_ne (fun z:b=y=>nb (z ▸ Fy))];exact e
 rw[valV_kvs]at hv;have e:rLook (sRow f m R k) k=none:=by
  cases e:rLook (sRow f m R k) k with
  | none=>rfl
  | some z=>rw[e]at hv;cases hv
 have e':sLook f m R k=none:=e;rw[e']at q;have es:sCut f m R k=R:=by
  unfold sCut;rw[rCut_no ((rLook_none_iff k).mp e)];unfold sRow;have lt:=plc_lt (f:=f) (m:=m) (k:=k) X.pos;rw[List.getD_eq_getElem?_getD,List.getElem?_eq_getElem lt];exact List.set_getElem_self lt
 rw[es]at q;walk_at "W";refine⟨rfl,?_⟩;walk_at "W";refine iteF ?_;walk_at "W";exact q H S (Fr.refl F H)
theorem q98_(d:Dm K C "look" "Shelf.look" z6_ ["self","key"])(q77_:Mt P w K mg base C "row_with" 3 ["self","key"] (spSRowW C))(g:Gs K mg C CT CD cS PS CR CE CP CZ CV):Mt P w K mg base C "look" 4 ["self","key"] (spSLook C):=by
 refine d.mt z68_ (fun vs H Q E h=>?_) (fun f cdv A outer s H vs Q E hr h=>?_)
 · obtain⟨p,k,f,m,R,F,rfl,_⟩:=h
   rfl
 obtain⟨p,k,f,m,R,F,rfl,S,q⟩:=h;obtain⟨t,L,ds,X,hF⟩:=id S;obtain⟨y,hy,hr0⟩:=X.place k;refine⟨_,(B.sone (B.ret (B.dget1 (hu_of hr) (B.meth (B.v 0) g.cl_Shelf q77_ hr.up (B.cons (B.v 1) B.nil)) (B.v 1) (m:=B.m1)))),?_⟩;walk_at "W";refine wS S ⟨by decide +kernel,by decide +kernel,by decide +kernel⟩ ?_
 walk_at "W";refine SW.wSRowW X fun y' hy'=>?_;obtain rfl:y=y':=Option.some.inj (hy.symm.trans hy');refine⟨y,rfl,.inl ⟨_,.inl hr0⟩,?_⟩;walk_at "W";refine⟨_,DGet.k (k:=Sum.inl k) hr0,?_⟩;rw[oV_getD];exact q
theorem q104_(d:Dm K C "size" "Shelf.size" z12_ ["self"])(g:Gs K mg C CT CD cS PS CR CE CP CZ CV):Mt P w K mg base C "size" 1 ["self"] (spSSize C):=by
 refine d.mt z74_ (fun vs H Q E h=>?_) (fun f cdv A outer s H vs Q E hr h=>?_)
 · obtain⟨p,f,m,R,F,rfl,_⟩:=h
   rfl
 obtain⟨p,f,m,R,F,rfl,⟨t,L,ds,X,hF⟩,q⟩:=h;obtain⟨dx,hp⟩:=X.ob;refine⟨_,(B.sone (B.ret (B.cB call_len_seq g.b_len SW.b_len (B.cons (B.fld (B.v 0)) B.nil)))),?_⟩;walk_at "W";refine SW.iFld hp g.cl_Shelf g.n_Shelf_rows (sfl_rows _ _ _) ?_;walk_at "W";refine SW.iLen (.inl (SqL.of X.rw)) ?_;rw[List.length_map,X.len];exact q
theorem q99_(d:Dm K C "many" "Shelf.many" z7_ ["self"])(g:Gs K mg C CT CD cS PS CR CE CP CZ CV):Mt P w K mg base C "many" 1 ["self"] (spSMany C):=by
 refine d.mt z69_ (fun vs H Q E h=>?_) (fun f cdv A outer s H vs Q E hr h=>?_)
 · obtain⟨p,f,m,R,F,rfl,_⟩:=h
   rfl
 obtain⟨p,f,m,R,F,rfl,⟨t,L,ds,X,hF⟩,q⟩:=h;obtain⟨dx,hp⟩:=X.ob;refine⟨_,(B.sone (B.ret (B.fld (B.v 0)))),?_⟩;walk_at "W";exact⟨p,C,dx,_,_,rfl,hp,g.cl_Shelf,g.n_Shelf_held,sfl_held _ _ _,q⟩
theorem q94_(d:Dm K C "check_place" "Shelf.check_place" z3_ ["self","place"])(g:Gs K mg C CT CD cS PS CR CE CP CZ CV)(q14_:Fn P w K mg base "is_whole" 1 ["thing"] spWhole):Mt P w K mg base C "check_place" 2 ["self","place"] (spSCheck C):=by
 refine d.mt z65_ (fun vs H Q E h=>?_) (fun f cdv A outer s H vs Q E hr h=>?_)
 · obtain⟨p,i,f,m,R,F,rfl,_⟩:=h
   rfl
 obtain⟨p,i,f,m,R,F,rfl,⟨t,L,ds,X,hF⟩,i0,i1,q⟩:=h;obtain⟨dx,hp⟩:=X.ob;refine⟨_,(B.sone (B.ifs (B.tw (B.wor (B.tnot (B.tval (B.fn q14_ hr.up (B.cons (B.v 1) B.nil)))) (B.wor1 (B.tnot (B.tchain op_le op_lt B.int (B.v 1) (B.cB call_len_seq g.b_len SW.b_len (B.cons (B.fld (B.v 0)) B.nil))))))) (B.sone B.never) B.snil)),?_⟩;walk_at "W";refine⟨i,rfl,?_⟩;walk_at "W";refine iteF ?_;walk_at "W";refine iteY i0 ?_;walk_at "W";refine SW.iFld hp g.cl_Shelf g.n_Shelf_rows (sfl_rows _ _ _) ?_;walk_at "W";refine SW.iLen (.inl (SqL.of X.rw)) ?_;walk_at "W";rw[List.length_map,X.len];refine iteNS i1 ?_;walk_at "W";exact q
theorem q102_(d:Dm K C "row" "Shelf.row" z10_ ["self","place"])(g:Gs K mg C CT CD cS PS CR CE CP CZ CV)(q69_:Mt P w K mg base C "check_place" 2 ["self","place"] (spSCheck C)):Mt P w K mg base C "row" 3 ["self","place"] (spSRow C):=by
 refine d.mt z72_ (fun vs H Q E h=>?_) (fun f cdv A outer s H vs Q E hr h=>?_)
 · obtain⟨p,i,f,m,R,F,rfl,_⟩:=h
   rfl
 obtain⟨p,i,f,m,R,F,rfl,S,hi,q⟩:=h;obtain⟨t,L,ds,X,hF⟩:=id S;obtain⟨dx,hp⟩:=X.ob;have hi':i < ds.length:=by rw[X.len];exact hi
 have hy:ds[i]?=some ds[i]:=List.getElem?_eq_getElem hi';have hr0:=X.at_ _ _ _ hy (getD_get hi);generalize ds[i]=y at hy hr0;refine⟨_,(B.scons (B.expr (B.meth (B.v 0) g.cl_Shelf q69_ hr.up (B.cons (B.v 1) B.nil)))
  (B.sone (B.ret (B.cT SW.call_list_items g.b_list SW.b_list (B.cons (B.items (B.ix ix_list (B.fld (B.v 0)) (B.v 1))) B.nil))))),?_⟩
 walk_at "W";refine wS S ⟨by decide +kernel,by decide +kernel,by decide +kernel⟩ ?_
 walk_at "W";refine⟨p,i,f,m,R,F,rfl,S,by omega,by omega,?_⟩
 walk_at "W";refine SW.iFld hp g.cl_Shelf g.n_Shelf_rows (sfl_rows _ _ _) ?_;walk_at "W";refine wIxL X.rw (v:=.ref y) ?_ ?_
 · refine atI_nat ?_
   rw[List.getElem?_map,hy]
   rfl
 refine⟨y,_,rfl,hr0,fun v hv=>?_⟩;walk_at "W";have s1:Same H (upd H v (ViewO v y)):=Same.new hv;refine⟨v,y,_,rfl,upd_same,s1 _ _ hr0,rfl,fun l as H' s2 hl hl' hlen hall=>?_⟩;refine q l _ H' (s1.trans s2) (s1.free hl) hl' (prs_of (by rw[hlen,kvs_len]) fun j a e=>?_)
 obtain⟨_,k,x,e1,e2⟩:=hall j a e;exact⟨k,x,e1,e2⟩
theorem q96_(d:Dm K C "empty" "Shelf.empty" z5_ ["self","place"])(g:Gs K mg C CT CD cS PS CR CE CP CZ CV)(q76_:Mt P w K mg base C "row" 3 ["self","place"] (spSRow C)):Mt P w K mg base C "empty" 4 ["self","place"] (spSEmpty C):=by
 refine d.mt z67_ (fun vs H Q E h=>?_) (fun f cdv A outer s H vs Q E hr h=>?_)
 · obtain⟨p,i,f,m,R,F,rfl,_⟩:=h
   rfl
 obtain⟨p,i,f,m,R,F,rfl,S,hi,q⟩:=h;refine⟨_,(B.scons (B.set 2 z67_.nd (B.meth (B.v 0) g.cl_Shelf q76_ hr.up (B.cons (B.v 1) B.nil)))
  (B.scons (B.asg B.dnew (B.gsub (B.fld (B.v 0)) (B.v 1) set_list))
  (B.scons (B.faug in_sub (B.v 0) (B.cB call_len_seq g.b_len SW.b_len (B.cons (B.v 2) B.nil)))
  (B.sone (B.ret (B.v 2)))))),?_⟩
 walk_at "W";refine wS S ⟨by decide +kernel,by decide +kernel,by decide +kernel⟩ ?_
 walk_at "W";refine wSRow S (by omega) (by omega) fun l xs H1 s1 nl hl pr=>?_
 have S1:=S.same s1;obtain⟨t,L,ds,X,hF⟩:=id S1;obtain⟨dx,hp⟩:=X.ob;have pr:Prs H1 xs (R.getD i []):=pr;walk_at "W";intro y hy;walk_at "W";have npy:p≠y:=ne_of_none hp hy;have nLy:L≠y:=ne_of_none X.rw hy;have nlp:l≠p:=ne_of hl hp (by intro z;cases z)
 have nlL:l≠L:=fun z=>S.fresh nl ((hF l).mpr (.inr (.inl z)));have nLp:L≠p:=ne_of X.rw hp (by intro z;cases z)
 have hlen:xs.length=(R.getD i []).length:=pr.len;have ht:=tot_set R i [] hi;have hpy:upd H1 y (.dK []) p=some (.ins C dx (sfl t L (tot R))):=by rw[upd_ne npy];exact hp
 refine SW.iFld hpy g.cl_Shelf g.n_Shelf_rows (sfl_rows _ _ _) ?_;walk_at "W";refine wSetL (j:=i) (by rw[upd_ne nLy];exact X.rw) (by
  unfold ixN;rw[List.length_map,X.len,if_pos (by omega),if_pos (by omega)]
  rfl) ?_
 rw[← List.map_set];have hp2:upd (upd H1 y (.dK [])) L (.lst ((ds.set i y).map V.ref)) p=some (.ins C dx (sfl t L (tot R))):=by rw[upd_ne nLp.symm];exact hpy
 have nly:l≠y:=ne_of_none hl hy;have hl2:upd (upd H1 y (.dK [])) L (.lst ((ds.set i y).map V.ref)) l=some (.lst xs):=by rw[upd_ne nlL,upd_ne nly];exact hl
 walk_at "W";refine SW.iFld hp2 g.cl_Shelf g.n_Shelf_held (sfl_held _ _ _) ?_;walk_at "W";refine SW.iLen (.inl (SqL.of hl2)) ?_;refine⟨_,_,rfl,rfl,dx,_,hp2,by show 3 < 1000;decide,?_⟩
 rw[sfl_put];walk_at "W";have keep:∀ b o,b≠p->b≠L->H1 b=some o->upd (upd (upd H1 y (.dK [])) L (.lst ((ds.set i y).map V.ref))) p (.ins C dx (sfl t L ((tot R:Nat) - (xs.length:Nat)))) b=some o:=fun b o n1 n2 e=>by
  rw[upd_ne n1,upd_ne n2,upd_ne (ne_of_none e hy)];exact e
 refine q l xs _ (fun b=>b=p∨b=L∨b∈ds.set i y) (fun b o nb e=>keep b o (fun z=>nb ((hF b).mpr (.inl z))) (fun z=>nb ((hF b).mpr (.inr (.inl z)))) (s1 _ _ e)) nl (fun z=>?_) (by rw[upd_ne nlp];exact hl2) (pr.keep fun a ys e=>keep a _ (ne_of e hp (by intro z;cases z)) (ne_of e X.rw (by intro z;cases z)) e) ⟨t,L,ds.set i y,X.emptied hi hy ⟨dx,?_⟩ ?_ ?_ keep,fun b=>Iff.rfl⟩ (fun b hb=>?_) fun b hb=>?_
 · rcases z with z | z | z
   · exact nlp z
   · exact nlL z
   rcases List.mem_or_eq_of_mem_set z with z | z
   · exact S.fresh nl ((hF l).mpr (.inr (.inr z)))
   exact nly z
 · rw[upd_same]
   have e0:([]:MRow).length=0:=rfl
   congr 3
   omega
 · rw[upd_ne npy.symm,upd_ne nLy.symm,upd_same]
 · rw[upd_ne nLp,upd_same]
 · rcases hb with z | z | z
   · exact .inl ((hF b).mpr (.inl z))
   · exact .inl ((hF b).mpr (.inr (.inl z)))
   rcases List.mem_or_eq_of_mem_set z with z | z
   · exact .inl ((hF b).mpr (.inr (.inr z)))
   exact .inr (by rw[z];exact s1.free hy)
 refine s1.free ?_;by_cases z1:b=p
 · rw[z1,upd_same]at hb;cases hb
 rw[upd_ne z1]at hb;by_cases z2:b=L
 · rw[z2,upd_same]at hb;cases hb
 rw[upd_ne z2]at hb;by_cases z3:b=y
 · rw[z3,upd_same]at hb;cases hb
 rw[upd_ne z3]at hb;exact hb
-- ThV LamH S67
theorem t_due{mv d:Nat}(h1:mv<=9000)(h2:d<=5000):(-(2 ^ 62)<=(mv:Int)/\(mv:Int) < 2 ^ 62 /\ -(2 ^ 62)<=(mv:Int)+(d:Int)/\(mv:Int)+(d:Int) < 2 ^ 62)/\(mv:Int)<=(mv:Int)+(d:Int)/\(mv:Int)+(d:Int) - (mv:Int)<=1000000:=by omega
theorem q107_(d:Dm K CT "due_places" "Table.due_places" z16_ ["self"])(g:Gs K mg C CT CD cS PS CR CE CP CZ CV)(q78_:Mt P w K mg base C "size" 1 ["self"] (spSSize C)):Mt P w K mg base CT "due_places" 2 ["self"] (spTDue C CT):=by
 refine d.mt z78_ (fun vs H Q E h=>?_) (fun f cdv A outer s H vs Q E hr h=>?_)
 · obtain⟨p,f,m,pc,M,tc,F,rfl,_⟩:=h
   rfl
 obtain⟨p,f,m,pc,M,tc,F,rfl,S,T,hpc,q⟩:=h;obtain⟨t,n,v,FN,FE,X,hF⟩:=id S;obtain⟨dx,hp⟩:=X.ob;have hel:=X.el;refine⟨_,(B.scons (B.ifs (B.tcmp op_isN (B.fld (B.v 0)) B.non) (B.sone (B.ret (B.lst B.nil))) B.snil)
  (B.sone (B.ret (B.cT SW.call_list_rng g.b_list SW.b_list (B.cons (B.cT SW.call_range2R g.b_range SW.b_range (B.cons (B.fld (B.v 0)) (B.cons (B.cB (call_min2 rfl) g.b_min SW.b_min (B.cons (B.op op_add (B.fld (B.v 0)) (B.fld (B.v 0))) (B.cons (B.meth0 (B.fld (B.v 0)) g.cl_Shelf q78_ hr.up) B.nil))) B.nil))) B.nil))))),?_⟩
 walk_at "W";refine SW.iFld hp g.cl_Table g.n_Table_elder (tfl_elder ..) ?_;walk_at "W";refine⟨rfl,?_⟩;walk_at "W";cases e:M.el with
 | none=>
   rw[e]at hel;obtain⟨rfl,_⟩:=hel;refine iteT ?_;walk_at "W";refine⟨by show(0:Nat)<=sizeLine;decide,fun l hl=>q l _ (Same.new hl) hl ?_⟩
   have:due pc M=0:=by unfold due;rw[e]
   rw[this];exact upd_same
 | some EE=>
   rw[e]at hel;obtain⟨ea,rfl,SE⟩:=hel;obtain⟨PE',sE,hm,_,_⟩:=T.el EE e;have bE:=sE.bounds;refine iteF ?_;walk_at "W";refine SW.iFld hp g.cl_Table g.n_Table_moved (tfl_moved ..) ?_;walk_at "W";refine SW.iFld hp g.cl_Table g.n_Table_moved (tfl_moved ..) ?_;walk_at "W";refine SW.iFld hp g.cl_Table g.n_Table_pace (tfl_pace ..) ?_;walk_at "W";refine SW.iFld hp g.cl_Table g.n_Table_elder (tfl_elder ..) ?_;walk_at "W";refine wS SE ⟨by decide +kernel,by decide +kernel,by decide +kernel⟩ ?_
   walk_at "W";refine wSSize SE ?_;walk_at "W";refine⟨_,_,rfl,?_⟩;walk_at "W";refine⟨_,_,rfl,fun r hr'=>?_⟩;walk_at "W";have hj:(if((EE.length:Nat):Int) < ((M.mv:Nat):Int)+((pc:Nat):Int)then((EE.length:Nat):Int)else((M.mv:Nat):Int)+((pc:Nat):Int))=(M.mv:Int)+(due pc M:Nat):=by
    unfold due;rw[e];show _=(M.mv:Int)+((min (M.mv+pc) EE.length - M.mv:Nat):Int);split <;> omega
   have hd:due pc M<=5000:=by
    have:=due_le (pc:=pc) e hm;omega
   rw[hj];have hz:=t_due (show M.mv<=9000 by omega) hd
   refine⟨r,_,_,rfl,upd_same,hz.1,hz.2.1,hz.2.2,rfl,fun l hl=>?_⟩;have s1:Same H (upd H r (.rng (M.mv:Int) ((M.mv:Int)+(due pc M:Nat)))):=Same.new hr';refine q l _ (s1.trans (Same.new hl)) (s1.free hl) ?_;rw[upd_same,show((M.mv:Int)+(due pc M:Nat) - (M.mv:Int)).toNat=due pc M by omega]
theorem q108_(d:Dm K CT "end_move" "Table.end_move" z17_ ["self"])(g:Gs K mg C CT CD cS PS CR CE CP CZ CV)(q78_:Mt P w K mg base C "size" 1 ["self"] (spSSize C)):Mt P w K mg base CT "end_move" 2 ["self"] (spTEnd C CT):=by
 refine d.mt z79_ (fun vs H Q E h=>?_) (fun f cdv A outer s H vs Q E hr h=>?_)
 · obtain⟨p,f,m,pc,M,tc,F,rfl,_⟩:=h
   rfl
 obtain⟨p,f,m,pc,M,tc,F,rfl,S,q⟩:=h;obtain⟨t,n,v,FN,FE,X,hF⟩:=id S;obtain⟨dx,hp⟩:=X.ob;have hel:=X.el;refine⟨_,(B.sone (B.ifs (B.tw (B.wand (B.tcmp op_notN (B.fld (B.v 0)) B.non) (B.wand1 (B.tcmp op_eq (B.fld (B.v 0)) (B.meth0 (B.fld (B.v 0)) g.cl_Shelf q78_ hr.up))))) (B.scons (B.sfld (B.v 0) B.non)
  (B.sone (B.sfld (B.v 0) B.int))) B.snil)),?_⟩
 walk_at "W";refine SW.iFld hp g.cl_Table g.n_Table_elder (tfl_elder ..) ?_;walk_at "W";refine⟨rfl,?_⟩;walk_at "W";cases e:M.el with
 | none=>
   rw[e]at hel;obtain⟨rfl,_⟩:=hel;refine iteF ?_;refine iteF ?_;walk_at "W";have:endM M=M:=by unfold endM;rw[e]
   rw[this]at q;exact q H F S (fun b hb=>.inl hb) (Fr.refl F H)
 | some EE=>
   rw[e]at hel;obtain⟨ea,rfl,SE⟩:=hel;refine iteT ?_;walk_at "W";refine SW.iFld hp g.cl_Table g.n_Table_moved (tfl_moved ..) ?_;walk_at "W";refine SW.iFld hp g.cl_Table g.n_Table_elder (tfl_elder ..) ?_;walk_at "W";refine wS SE ⟨by decide +kernel,by decide +kernel,by decide +kernel⟩ ?_
   walk_at "W";refine wSSize SE ?_;walk_at "W";refine ite2 (fun hc=>?_) (fun hc=>?_)
   · have hc:M.mv=EE.length:=by
      have:=vi.mp (of_decide_eq_true hc);omega
     walk_at "W";refine SW.iSFld hp g.cl_Table g.n_Table_elder (by show 6 < 1000;decide) ?_
     rw[put_elder];walk_at "W";refine SW.iSFld upd_same g.cl_Table g.n_Table_moved (by show 6 < 1000;decide) ?_
     rw[put_moved,upd_upd];have:endM M=⟨none,0,M.nw⟩:=by unfold endM;rw[e];exact if_pos hc
     rw[this]at q;have fr:SW.Fr (fun b=>b=p) H (upd H p (.ins CT dx (tfl t pc .non 0 n tc))):=fun b o nb e=>by rw[upd_ne nb];exact e
     have nt:∀ b xs,H b=some (.tup xs) -> ¬ b=p:=fun b xs e=>ne_of e hp (by intro z;cases z)
     refine q _ (fun b=>b=p∨FN b) ⟨t,n,.non,FN,fun _=>False,⟨⟨dx,upd_same⟩,fr _ _ (nt _ _ X.mx) X.mx,X.bm,X.nw.keep fr (fun b hb z=>X.np.1 (z ▸ hb)) nt,⟨rfl,fun _ z=>z⟩,fun _ z=>z.elim,⟨X.np.1,fun z=>z⟩⟩,fun b=>by simp⟩ (fun b hb=>.inl ((hF b).mpr (hb.elim .inl fun z=>.inr (.inl z)))) (fun b o nb e=>fr b o (fun z=>nb ((hF b).mpr (.inl z))) e)
   have hc:¬ M.mv=EE.length:=fun z=>hc (decide_eq_true (vi.mpr (by rw[z])))
   walk_at "W";have:endM M=M:=by unfold endM;rw[e];exact if_neg hc
   rw[this]at q;exact q H F S (fun b hb=>.inl hb) (Fr.refl F H)
theorem q116_(d:Dm K CT "stands_on_elder" "Table.stands_on_elder" z26_ ["self","key"])(g:Gs K mg C CT CD cS PS CR CE CP CZ CV)(q74_:Mt P w K mg base C "place_with" 2 ["self","key"] (spSPlace C)):Mt P w K mg base CT "stands_on_elder" 3 ["self","key"] (spTStands C CT):=by
 refine d.mt z88_ (fun vs H Q E h=>?_) (fun f cdv A outer s H vs Q E hr h=>?_)
 · obtain⟨p,k,f,m,pc,M,tc,F,rfl,_⟩:=h
   rfl
 obtain⟨p,k,f,m,pc,M,tc,F,rfl,S,q⟩:=h;obtain⟨t,n,v,FN,FE,X,hF⟩:=id S;obtain⟨dx,hp⟩:=X.ob;have hel:=X.el;refine⟨_,(B.sone (B.ret (B.and (B.cmp op_notN (B.fld (B.v 0)) B.non) (B.one (B.cmp op_ge (B.meth (B.fld (B.v 0)) g.cl_Shelf q74_ hr.up (B.cons (B.v 1) B.nil)) (B.fld (B.v 0))))))),?_⟩;walk_at "W";refine SW.iFld hp g.cl_Table g.n_Table_elder (tfl_elder ..) ?_;walk_at "W";refine⟨rfl,?_⟩;walk_at "W";cases e:M.el with
 | none=>
   rw[e]at hel;obtain⟨rfl,_⟩:=hel;refine iteF ?_;have:standsE f m M k=false:=by unfold standsE;rw[e]
   rw[this]at q;exact q
 | some EE=>
   rw[e]at hel;obtain⟨ea,rfl,SE⟩:=hel;refine iteT ?_;walk_at "W";refine SW.iFld hp g.cl_Table g.n_Table_elder (tfl_elder ..) ?_;walk_at "W";refine wS SE ⟨by decide +kernel,by decide +kernel,by decide +kernel⟩ ?_
   walk_at "W";refine wSPlace SE ?_;walk_at "W";refine SW.iFld hp g.cl_Table g.n_Table_moved (tfl_moved ..) ?_;walk_at "W";have:standsE f m M k=decide (((M.mv:Nat):Int)<=((plc f m EE.length k:Nat):Int)):=by
    unfold standsE;rw[e];show decide (M.mv<=plc f m EE.length k)=_;by_cases z:M.mv<=plc f m EE.length k
    · rw[decide_eq_true z,decide_eq_true (by omega)]
    rw[decide_eq_false z,decide_eq_false (by omega)]
   rw[this]at q;exact q
theorem q119_(d:Dm K CT "shelf_with" "Table.shelf_with" z23_ ["self","key"])(g:Gs K mg C CT CD cS PS CR CE CP CZ CV)(q72_:Mt P w K mg base C "look" 4 ["self","key"] (spSLook C)):Mt P w K mg base CT "shelf_with" 5 ["self","key"] (spTWith C CT):=by
 refine d.mt z85_ (fun vs H Q E h=>?_) (fun f cdv A outer s H vs Q E hr h=>?_)
 · obtain⟨p,k,f,m,pc,M,tc,t,n,v,FN,FE,rfl,_⟩:=h
   rfl
 obtain⟨p,k,f,m,pc,M,tc,t,n,v,FN,FE,rfl,X,q1,q2⟩:=h;obtain⟨dx,hp⟩:=X.ob;have hel:=X.el;refine⟨_,(B.scons (B.ifs (B.tw (B.wand (B.tcmp op_notN (B.fld (B.v 0)) B.non) (B.wand1 (B.tcmp op_notN (B.meth (B.fld (B.v 0)) g.cl_Shelf q72_ hr.up (B.cons (B.v 1) B.nil)) B.non)))) (B.sone (B.ret (B.fld (B.v 0)))) B.snil)
  (B.sone (B.ret (B.fld (B.v 0))))),?_⟩
 walk_at "W";refine SW.iFld hp g.cl_Table g.n_Table_elder (tfl_elder ..) ?_;walk_at "W";refine⟨rfl,?_⟩;walk_at "W";cases e:M.el with
 | none=>
   rw[e]at hel;obtain⟨rfl,_⟩:=hel;refine iteF ?_;refine iteF ?_;walk_at "W";refine SW.iFld hp g.cl_Table g.n_Table_newer (tfl_newer ..) ?_;exact q2 (by unfold onE;rw[e])
 | some EE=>
   rw[e]at hel;obtain⟨ea,rfl,SE⟩:=hel;refine iteT ?_;walk_at "W";refine SW.iFld hp g.cl_Table g.n_Table_elder (tfl_elder ..) ?_;walk_at "W";refine wS SE ⟨by decide +kernel,by decide +kernel,by decide +kernel⟩ ?_
   walk_at "W";refine wSLook SE ?_;walk_at "W";refine⟨rfl,?_⟩;walk_at "W";cases z:sLook f m EE k with
   | none=>
     refine iteF ?_;walk_at "W";refine SW.iFld hp g.cl_Table g.n_Table_newer (tfl_newer ..) ?_;exact q2 (by unfold onE;rw[e];exact z)
   | some y=>
     refine iteT ?_;walk_at "W";refine SW.iFld hp g.cl_Table g.n_Table_elder (tfl_elder ..) ?_;exact q1 EE e (by rw[z];exact fun h=>by cases h)
theorem q118_(d:Dm K CT "wanted_size" "Table.wanted_size" z29_ ["self"])(g:Gs K mg C CT CD cS PS CR CE CP CZ CV)(q78_:Mt P w K mg base C "size" 1 ["self"] (spSSize C))(q73_:Mt P w K mg base C "many" 1 ["self"] (spSMany C)):Mt P w K mg base CT "wanted_size" 2 ["self"] (spTWant C CT):=by
 refine d.mt z91_ (fun vs H Q E h=>?_) (fun f cdv A outer s H vs Q E hr h=>?_)
 · obtain⟨p,f,m,pc,M,tc,F,rfl,_⟩:=h
   rfl
 obtain⟨p,f,m,pc,M,tc,F,rfl,S,q⟩:=h;obtain⟨t,n,v,FN,FE,X,hF⟩:=id S;obtain⟨dx,hp⟩:=X.ob;obtain⟨aS,hS,tS⟩:=g.c_SIZES;have htop:=X.nw.top;refine⟨_,(B.scons (B.set 1 z91_.nd (B.meth0 (B.fld (B.v 0)) g.cl_Shelf q78_ hr.up))
  (B.scons (B.ifs (B.tcmp op_gt (B.meth0 (B.fld (B.v 0)) g.cl_Shelf q73_ hr.up) (B.v 1)) (B.sone (B.ret (B.cB (call_min2 rfl) g.b_min SW.b_min (B.cons (B.op op_mul (B.v 1) B.int) (B.cons (B.ix ix_tup (B.gref hS) (B.un un_neg B.int)) B.nil))))) B.snil)
  (B.scons (B.ifs (B.tcmp op_lt (B.op op_mul (B.meth0 (B.fld (B.v 0)) g.cl_Shelf q73_ hr.up) B.int) (B.v 1)) (B.sone (B.ret (B.cB (call_max2 rfl) g.b_max SW.b_max (B.cons (B.op op_fdivL (B.v 1) B.int) (B.cons (B.ix ix_tup (B.gref hS) B.int) B.nil))))) B.snil)
  (B.sone (B.ret (B.v 1)))))),?_⟩
 walk_at "W";refine SW.iFld hp g.cl_Table g.n_Table_newer (tfl_newer ..) ?_;walk_at "W";refine wS X.nw ⟨by decide +kernel,by decide +kernel,by decide +kernel⟩ ?_
 walk_at "W";refine wSSize X.nw ?_;walk_at "W";refine SW.iFld hp g.cl_Table g.n_Table_newer (tfl_newer ..) ?_;walk_at "W";refine wS X.nw ⟨by decide +kernel,by decide +kernel,by decide +kernel⟩ ?_
 walk_at "W";refine wSMany X.nw ?_;walk_at "W";refine ite2 (fun hc=>?_) (fun hc=>?_)
 · have hc:((M.nw.length:Nat):Int) < ((tot M.nw:Nat):Int):=of_decide_eq_true hc
   walk_at "W";refine⟨aS,_,_,_,rfl,rfl,tS _,rfl,?_⟩;walk_at "W";refine⟨_,_,rfl,?_⟩;have ew:(if(4096:Int) < ((M.nw.length:Nat):Int)*2 then(4096:Int)else((M.nw.length:Nat):Int)*2)=((want M.nw:Nat):Int):=by
    unfold want;rw[if_pos (show M.nw.length < tot M.nw by omega)]
    split <;> omega
   rw[ew];exact q
 have hc:¬ ((M.nw.length:Nat):Int) < ((tot M.nw:Nat):Int):=fun z=>hc (decide_eq_true z);walk_at "W";refine SW.iFld hp g.cl_Table g.n_Table_newer (tfl_newer ..) ?_;walk_at "W";refine wS X.nw ⟨by decide +kernel,by decide +kernel,by decide +kernel⟩ ?_
 walk_at "W";refine wSMany X.nw ?_;walk_at "W";refine ite2 (fun hc2=>?_) (fun hc2=>?_)
 · have hc2:((tot M.nw:Nat):Int)*8 < ((M.nw.length:Nat):Int):=of_decide_eq_true hc2
   walk_at "W";refine⟨aS,_,_,_,rfl,rfl,tS _,rfl,?_⟩;walk_at "W";refine⟨_,_,rfl,?_⟩;have ew:(if(4:Int) > ((M.nw.length:Nat):Int) / 2 then(4:Int)else((M.nw.length:Nat):Int) / 2)=((want M.nw:Nat):Int):=by
    unfold want;rw[if_neg (show ¬ M.nw.length < tot M.nw by omega),if_pos (show tot M.nw*8 < M.nw.length by omega)]
    split <;> omega
   rw[ew];exact q
 have hc2:¬ ((tot M.nw:Nat):Int)*8 < ((M.nw.length:Nat):Int):=fun z=>hc2 (decide_eq_true z);walk_at "W";have ew:want M.nw=M.nw.length:=by
  unfold want;rw[if_neg (show ¬ M.nw.length < tot M.nw by omega),if_neg (show ¬ tot M.nw*8 < M.nw.length by omega)]
 rw[ew]at q;exact q
theorem q105_(d:Dm K CT "begin_move" "Table.begin_move" z14_ ["self"])(g:Gs K mg C CT CD cS PS CR CE CP CZ CV)(q93_:Mt P w K mg base CT "wanted_size" 2 ["self"] (spTWant C CT))(q78_:Mt P w K mg base C "size" 1 ["self"] (spSSize C))(q66_:Mkr P w K mg base C "Shelf" 3 ["self","size","mixer"] (spSInit C)):Mt P w K mg base CT "begin_move" 5 ["self"] (spTBegin C CT):=by
 refine d.mt z76_ (fun vs H Q E h=>?_) (fun f cdv A outer s H vs Q E hr h=>?_)
 · obtain⟨p,f,m,pc,M,tc,F,rfl,_⟩:=h
   rfl
 obtain⟨p,f,m,pc,M,tc,F,rfl,S,hsz,q⟩:=h;obtain⟨t,n,v,FN,FE,X,hF⟩:=id S;obtain⟨dx,hp⟩:=X.ob;have hel:=X.el;refine⟨_,(B.scons (B.ifs (B.tcmp op_notN (B.fld (B.v 0)) B.non) (B.sone B.retN) B.snil)
  (B.scons (B.set 1 z76_.nd (B.meth0 (B.v 0) g.cl_Table q93_ hr.up))
  (B.sone (B.ifs (B.tcmp op_ne (B.v 1) (B.meth0 (B.fld (B.v 0)) g.cl_Shelf q78_ hr.up)) (B.scons (B.sfld (B.v 0) (B.fld (B.v 0)))
  (B.sone (B.sfld (B.v 0) (B.make q66_ hr.up (B.cons (B.v 1) (B.cons (B.fld (B.v 0)) B.nil)))))) B.snil)))),?_⟩
 walk_at "W";refine SW.iFld hp g.cl_Table g.n_Table_elder (tfl_elder ..) ?_;walk_at "W";refine⟨rfl,?_⟩;walk_at "W";cases e:M.el with
 | some EE=>
   rw[e]at hel;obtain⟨ea,rfl,SE⟩:=hel;refine iteT ?_;walk_at "W";have:beg M=M:=by unfold beg;rw[e]
   rw[this]at q;exact q H F S (fun b hb=>.inl hb) (Fr.refl F H)
 | none=>
   rw[e]at hel;obtain⟨rfl,nFE⟩:=hel;refine iteF ?_;walk_at "W";refine wT S nt_wanted_size ?_;walk_at "W";refine SW.wTWant S ?_;walk_at "W";refine SW.iFld hp g.cl_Table g.n_Table_newer (tfl_newer ..) ?_;walk_at "W";refine wS X.nw ⟨by decide +kernel,by decide +kernel,by decide +kernel⟩ ?_
   walk_at "W";refine wSSize X.nw ?_;walk_at "W";rw[decI];refine iteB (fun hc=>?_) (fun hc=>?_)
   · have hc:¬ want M.nw=M.nw.length:=fun z=>by
      rw[decide_eq_true (by rw[z])]at hc
      cases hc
     have hw:=want_size hsz;walk_at "W";refine SW.iFld hp g.cl_Table g.n_Table_newer (tfl_newer ..) ?_;walk_at "W";refine SW.iSFld hp g.cl_Table g.n_Table_elder (by show 6 < 1000;decide) ?_
     rw[put_elder];have fr:∀ o,SW.Fr (fun b=>b=p) H (upd H p o):=fun o b u nb e=>by rw[upd_ne nb];exact e
     have nt:∀ b xs,H b=some (.tup xs) -> ¬ b=p:=fun b xs e=>ne_of e hp (by intro z;cases z)
     walk_at "W";refine SW.iFld upd_same g.cl_Table g.n_Table_mixer (tfl_mixer ..) ?_;walk_at "W";refine wShelf (n:=((want M.nw:Nat):Int)) (fr _ _ _ (nt _ _ X.mx) X.mx) X.bm (by omega) (by simpa using hw) fun sn H2 FS S2 nS s2=>?_
     have S2:Sh C H2 sn f m (List.replicate (want M.nw) []) FS:=S2;walk_at "W";refine⟨p,CT,dx,_,rfl,s2 _ _ upd_same,g.cl_Table,g.n_Table_newer,by show 6 < 1000;decide,?_⟩
     rw[put_newer];have eg:beg M=⟨some M.nw,M.mv,List.replicate (want M.nw) []⟩:=by unfold beg;rw[e];exact if_neg hc
     rw[eg]at q;have fr2:∀ o,SW.Fr (fun b=>b=p) H (upd H2 p o):=fun o b u nb e=>by rw[upd_ne nb];exact s2 _ _ (fr _ b u nb e)
     have nS':∀ b,FS b->H b=none:=fun b hb=>by
      have h1:=nS b hb;by_cases z:b=p
      · subst z;rw[upd_same]at h1;cases h1
      rw[upd_ne z]at h1;exact h1
     have fr3:SW.Fr (fun b=>b=p) H2 (upd H2 p (.ins CT dx (tfl t pc (.ref n) M.mv sn tc))):=fun b u nb e=>by rw[upd_ne nb];exact e
     have nFp:¬ FS p:=fun z=>by rw[nS' p z]at hp;cases hp
     have nt2:∀ b xs,H2 b=some (.tup xs) -> ¬ b=p:=fun b xs e z=>by
      have h1:=s2 _ _ (upd_same (H:=H) (a:=p) (o:=.ins CT dx (tfl t pc (.ref n) M.mv n tc)));rw[z,h1]at e;cases e
     refine q _ (fun b=>b=p∨FS b∨FN b) ⟨t,sn,.ref n,FS,FN,⟨⟨dx,upd_same⟩,fr2 _ _ _ (nt _ _ X.mx) X.mx,X.bm,S2.keep fr3 (fun b hb z=>nFp (z ▸ hb)) nt2,⟨n,rfl,X.nw.keep (fr2 _) (fun b hb z=>X.np.1 (z ▸ hb)) nt⟩,fun b hb hz=>X.nw.fresh (nS' b hz) hb,⟨nFp,X.np.1⟩⟩,fun b=>Iff.rfl⟩ (fun b hb=>?_) (fun b o nb e=>fr2 _ b o (fun z=>nb ((hF b).mpr (.inl z))) e);rcases hb with z | z | z
     · exact .inl ((hF b).mpr (.inl z))
     · exact .inr (nS' b z)
     exact .inl ((hF b).mpr (.inr (.inl z)))
   have hc:want M.nw=M.nw.length:=by
    have:decide (((want M.nw:Nat):Int)=((M.nw.length:Nat):Int))=true:=by
     cases z:decide (((want M.nw:Nat):Int)=((M.nw.length:Nat):Int))with
     | true=>rfl
     | false=>rw[z]at hc;cases hc
    have:=of_decide_eq_true this;omega
   walk_at "W";have eg:beg M=M:=by unfold beg;rw[e];exact if_pos hc
   rw[eg]at q;exact q H F S (fun b hb=>.inl hb) (Fr.refl F H)
theorem q112_(d:Dm K CT "move_place" "Table.move_place" z21_ ["self","place"])(g:Gs K mg C CT CD cS PS CR CE CP CZ CV)(q71_:Mt P w K mg base C "empty" 4 ["self","place"] (spSEmpty C))(q75_:Mt P w K mg base C "put" 4 ["self","key","worth"] (spSPut C))(q74_:Mt P w K mg base C "place_with" 2 ["self","key"] (spSPlace C)):Mt P w K mg base CT "move_place" 5 ["self","place"] (spTMove C CT):=by
 refine d.mt z83_ (fun vs H Q E h=>?_) (fun f cdv A outer s H vs Q E hr h=>?_)
 · obtain⟨p,i,f,m,pc,E,N,mv,tc,F,rfl,_⟩:=h
   rfl
 obtain⟨p,i,f,m,pc,EE,N,mv,tc,F,rfl,S,hi,PP,htot,q⟩:=h;obtain⟨t,n,v,FN,FE,X,hF⟩:=id S;obtain⟨dx,hp⟩:=X.ob;have hel:∃ e,v=.ref e/\Sh C H e f m EE FE:=X.el;obtain⟨ea,rfl,SE⟩:=hel;have SN:Sh C H n f m N FN:=X.nw;refine⟨_,(B.scons (B.set 2 z83_.nd (B.meth (B.fld (B.v 0)) g.cl_Shelf q71_ hr.up (B.cons (B.v 1) B.nil)))
  (B.scons (B.fors (B.ilist (B.v 2)) (B.gtup (B.gcons (B.gname (i:=3) z83_.nd) (B.gcons (B.gname (i:=4) z83_.nd) B.gnil))) (B.sone (B.expr (B.meth (B.fld (B.v 0)) g.cl_Shelf q75_ hr.up (B.cons (B.v 3) (B.cons (B.v 4) B.nil))))))
  (B.sone (B.ret (SW.B.comp [0] ["pair","self"] (SW.CompScope.of rfl rfl (by decide +kernel) (by decide +kernel) rfl ⟨rfl,trivial⟩ rfl rfl rfl) (by decide +kernel) (B.ilist (B.v 2)) (fun _ _ _ _=>(B.meth (B.fldK K (B.v 1)) g.cl_Shelf q74_ hr.up (B.cons (B.ix (SW.ix_tupK K) (B.v 0) B.int) B.nil)))))))),?_⟩
 walk_at "W";refine SW.iFld hp g.cl_Table g.n_Table_elder (tfl_elder ..) ?_;walk_at "W";refine wS SE ⟨by decide +kernel,by decide +kernel,by decide +kernel⟩ ?_
 walk_at "W";refine wSEmpty SE (by omega) (by omega) fun l xs H1 FE' K1 nl nFl hl pr SE1 gr lv=>?_
 have pr:Prs H1 xs (EE.getD i []):=pr;have SE1:Sh C H1 ea f m (EE.set i []) FE':=SE1;have hp1:=K1 _ _ X.np.2 hp;have SN1:=SN.keep K1 (fun b hb z=>X.ne b z hb) fun b xs e=>SE.notup e;have mx1:=K1 _ _ (SE.notup X.mx) X.mx;have nEN:∀ b,FE' b -> ¬ FN b:=fun b hb hn=>by
  rcases gr b hb with z | z
  · exact X.ne b z hn
  exact SN.fresh z hn
 have nEp:¬ FE' p:=fun z=>by
  rcases gr p z with z | z
  · exact X.np.2 z
  rw[z]at hp;cases hp
 have nlN:¬ FN l:=SN.fresh nl;have lx:=pr.len;walk_at "W";refine⟨l,rfl,⟨_,SqL.of hl⟩,?_⟩;refine L2.for_list (xs:=xs) (fun j σ H'=>∃ v3 v4,σ=[some (.ref p),some (.int i),some (.ref l),v3,v4]/\Sh C H' n f m (putAll f m N ((EE.getD i []).take j)) FN/\SW.Fr FN H1 H') ⟨none,none,rfl,SN1,Fr.refl _ _⟩ (fun j σ H' _ ⟨_,_,_,_,k'⟩=>SqL.of (k' _ _ nlN hl)) ?_ ?_
 · rintro j x σ H' hx ⟨v3,v4,rfl,S',k'⟩
   have hj:j < (EE.getD i []).length:=by
    have:=(List.getElem?_eq_some_iff.mp hx).1;omega
   obtain⟨a,e1,e2⟩:=pr.get (List.getElem?_eq_getElem hj);obtain rfl:V.ref a=x:=Option.some.inj (e1.symm.trans hx);have e2':=k' _ _ (SN1.notup e2) e2;have hp':=k' _ _ X.np.1 hp1;refine⟨a,_,rfl,SqT.of e2',rfl,_,_,rfl,_,_,rfl,rfl,?_⟩;walk_at "W";refine SW.iFld hp' g.cl_Table g.n_Table_newer (tfl_newer ..) ?_;walk_at "W";refine wS S' ⟨by decide +kernel,by decide +kernel,by decide +kernel⟩ ?_
   walk_at "W";refine wSPut S' ?_ fun H2 S2 K2=>?_
   · have h1:=tot_putAll_le (f:=f) (m:=m) (r:=(EE.getD i []).take j) SN.pos
     have h2:((EE.getD i []).take j).length<=(EE.getD i []).length:=by rw[List.length_take];exact Nat.min_le_right _ _
     have h3:=len_le_tot EE i;omega
   walk_at "W";refine⟨_,_,rfl,?_,k'.trans K2⟩;rw[putAll_take (List.getElem?_eq_getElem hj)];exact S2
 rintro σ H2 ⟨v3,v4,rfl,S2,k2⟩;rw[List.take_of_length_le (by omega)]at S2
 have hl2:=k2 _ _ nlN hl;have hp2:=k2 _ _ X.np.1 hp1;have pr2:=pr.keep fun a ys e=>k2 _ _ (SN1.notup e) e;walk_at "W";refine⟨l,rfl,⟨_,SqL.of hl2⟩,fun D hD=>?_⟩;refine comp_listU (xs:=xs) (fun j σ' H'=>Same H2 H'/\(∃ v,σ'=[v,some (.ref p)])/\H' D=some (.lst ((((EE.getD i []).take j).map fun q=>((plc f m N.length q.1:Nat):Int)).map V.int))) ⟨Same.new hD,⟨none,rfl⟩,upd_same⟩ (fun j σ' H' _ ⟨s',_⟩=>SqL.of (s' _ _ hl2)) ?_ ?_
 · rintro j x σ' H' hx hjx ⟨s',⟨v,rfl⟩,hD'⟩
   have hj:j < (EE.getD i []).length:=by omega
   obtain⟨a,e1,e2⟩:=pr2.get (List.getElem?_eq_getElem hj);obtain rfl:V.ref a=x:=Option.some.inj (e1.symm.trans hx);have e2':=s' _ _ e2;have S3:=S2.same s';walk_at "W";refine⟨p,CT,dx,_,_,rfl,s' _ _ hp2,g.cl_Table,g.n_Table_newer,tfl_newer ..,?_⟩;walk_at "W";refine wS S3 ⟨by decide +kernel,by decide +kernel,by decide +kernel⟩ ?_
   walk_at "W";refine wSPlace S3 ?_;rw[putAll_len];have hr90:(EE.getD i []).length<=90000:=Nat.le_trans (len_le_tot EE i) (by omega)
   refine CN.mk hjx hD' (by
    rw[List.length_map,List.length_map,List.length_take];have:sizeLine=16777216:=sizeLine_eq
    omega) ⟨fun b o e=>?_,⟨_,rfl⟩,?_⟩
   · rw[upd_ne (ne_of_none e hD)];exact s' _ _ e
   rw[upd_same,List.take_add_one,List.getElem?_eq_getElem hj,List.map_append,List.map_append]
   rfl
 rintro σ' H3 ⟨s3,⟨v,rfl⟩,hD3⟩;rw[List.take_of_length_le (by omega)]at hD3
 have X3:TbX C CT H3 p f m pc ⟨some (EE.set i []),mv,putAll f m N (EE.getD i [])⟩ tc t n (.ref ea) FN FE':=
  ⟨⟨dx,s3 _ _ hp2⟩,s3 _ _ (k2 _ _ (SN1.notup mx1) mx1),X.bm,S2.same s3,⟨ea,rfl,(SE1.keep k2 nEN fun b xs e=>SN1.notup e).same s3⟩,nEN,⟨X.np.1,nEp⟩⟩
 have fr:SW.Fr F H H3:=fun b o nb e=>s3 _ _ (k2 _ _ (fun z=>nb ((hF b).mpr (.inr (.inl z)))) (K1 _ _ (fun z=>nb ((hF b).mpr (.inr (.inr z)))) e));have nD:H D=none:=lv D (by
  cases e:H1 D with
  | none=>rfl
  | some o=>
    exfalso
    by_cases zN:FN D
    · obtain⟨o',e',_⟩:=S2.live zN
      rw[hD]at e';cases e'
    rw[k2 _ _ zN e]at hD;cases hD)
 refine q D H3 _ X3.tb (fun b hb=>?_) fr nD (fun z=>?_) hD3
 · rcases hb with z | z | z
   · exact .inl ((hF b).mpr (.inl z))
   · exact .inl ((hF b).mpr (.inr (.inl z)))
   rcases gr b z with z | z
   · exact .inl ((hF b).mpr (.inr (.inr z)))
   exact .inr z
 rcases z with z | z | z
 · rw[z,hp2]at hD;cases hD
 · obtain⟨o',e',_⟩:=S2.live z
   rw[hD]at e';cases e'
 obtain⟨o',e',_⟩:=(SE1.keep k2 nEN fun b xs e=>SN1.notup e).live z;rw[hD]at e';cases e'
theorem T_go(d:Dm K CT "go_on" "Table.go_on" z18_ ["self","key"])(g:Gs K mg C CT CD cS PS CR CE CP CZ CV)(q81_:Mt P w K mg base CT "due_places" 2 ["self"] (spTDue C CT))(q86_:Mt P w K mg base CT "move_place" 5 ["self","place"] (spTMove C CT))(q82_:Mt P w K mg base CT "end_move" 2 ["self"] (spTEnd C CT))
 (q91_:Mt P w K mg base CT "stands_on_elder" 3 ["self","key"] (spTStands C CT)) (q74_:Mt P w K mg base C "place_with" 2 ["self","key"] (spSPlace C)):Mt P w K mg base CT "go_on" 6 ["self","key"] (spTGo C CT):=by
 refine d.mt z80_ (fun vs H Q E h=>?_) (fun f cdv A outer s H vs Q E hr h=>?_)
 · obtain⟨p,k,f,m,pc,M,tc,F,rfl,_⟩:=h
   rfl
 obtain⟨p,k,f,m,pc,M,tc,F,rfl,S,T,hpc,hcnt,q⟩:=h;have hdue:due pc M<=5000:=by
  unfold due;cases e:M.el with
  | none=>exact Nat.zero_le _
  | some EE=>
    have:=(T.el EE e).2.1.bounds;show min (M.mv+pc) EE.length - M.mv<=5000;omega
 refine⟨_,(B.scons (B.set 2 z80_.nd (B.meth0 (B.v 0) g.cl_Table q81_ hr.up))
  (B.scons (B.set 3 z80_.nd (B.lst (B.cons (B.meth (B.fld (B.v 0)) g.cl_Shelf q74_ hr.up (B.cons (B.v 1) B.nil)) B.nil)))
  (B.scons (B.fors (B.ilist (B.v 2)) (B.gname (i:=4) z80_.nd) (B.sone (B.expr (B.m PySem.F.plainAttrs_list PySem.F.slot_list_extend PySem.F.type_list_extend mt_extend (B.v 3) (B.cons (B.meth (B.v 0) g.cl_Table q86_ hr.up (B.cons (B.v 4) B.nil)) B.nil)))))
  (B.scons (B.faug in_add (B.v 0) (B.cB call_len_seq g.b_len SW.b_len (B.cons (B.v 2) B.nil)))
  (B.scons (B.expr (B.meth0 (B.v 0) g.cl_Table q82_ hr.up))
  (B.scons (B.set 5 z80_.nd (B.ifx (B.tval (B.meth (B.v 0) g.cl_Table q91_ hr.up (B.cons (B.v 1) B.nil))) B.int B.int))
  (B.sone (B.sfld (B.v 0) (B.op op_add (B.op op_add (B.cB call_len_seq g.b_len SW.b_len (B.cons (B.v 2) B.nil)) (B.cB SW.call_lenS g.b_len SW.b_len (B.cons (B.cT SW.call_setL g.b_set SW.b_set (B.cons (B.v 3) B.nil)) B.nil))) (B.v 5)))))))))),?_⟩
 walk_at "W";refine wT S nt_due_places ?_;walk_at "W";refine SW.wTDue S T hpc fun ld H1 s1 nld hld=>?_;have S1:=S.same s1;obtain⟨t,n,v,FN,FE,X,hF⟩:=id S1;obtain⟨dx,hp⟩:=X.ob;walk_at "W";refine SW.iFld hp g.cl_Table g.n_Table_newer (tfl_newer ..) ?_;walk_at "W";refine wS X.nw ⟨by decide +kernel,by decide +kernel,by decide +kernel⟩ ?_
 walk_at "W";refine wSPlace X.nw ?_;walk_at "W";refine⟨by show(1:Nat)<=sizeLine;decide,fun lr hlr=>?_⟩
 have s2:Same H1 (upd H1 lr (.lst [.int (plc f m M.nw.length k:Nat)])):=Same.new hlr;have S2:=S1.same s2;have hld2:=s2 _ _ hld;have hlr2:upd H1 lr (.lst [.int (plc f m M.nw.length k:Nat)]) lr=some (.lst [.int (plc f m M.nw.length k:Nat)]):=upd_same;have nrd:lr≠ld:=(ne_of_none hld hlr).symm;have nFd:¬ F ld:=S.fresh nld;have nFr:¬ F lr:=S1.fresh hlr;generalize upd H1 lr (.lst [.int (plc f m M.nw.length k:Nat)])=H2 at *;have lrn:H lr=none:=s1.free hlr;walk_at "W";refine⟨ld,rfl,⟨_,SqL.of hld2⟩,?_⟩;have lseq:((seqI M.mv (due pc M)).map V.int).length=due pc M:=by unfold seqI;simp
 refine SW.forListC (xs:=(seqI M.mv (due pc M)).map V.int) (fun j σ H'=>∃ F' v4,σ=[some (.ref p),some (.int k),some (.ref ld),some (.ref lr),v4,none]/\Tb C CT H' p f m pc (mid f m M j) tc F'/\Gr H2 F F'/\SW.Fr (fun b=>F b∨b=lr) H2 H' /\ ¬ F' lr /\ ¬ F' ld /\
  H' lr=some (.lst ((((plc f m M.nw.length k:Nat):Int)::rch f m M j).map V.int))) ?_ (fun j σ H' _ z=>z.elim fun _ z=>z.elim fun _ z=>SqL.of (z.2.2.2.1 _ _ (fun z=>z.elim nFd fun z=>nrd z.symm) hld2)) ?_ ?_
 · refine⟨F,none,rfl,?_,fun b hb=>.inl hb,fun b o _ e=>e,nFr,nFd,?_⟩
   · have:mid f m M 0=M:=by
      unfold mid;cases e:M.el with
      | none=>rfl
      | some EE=>cases M;simp at e;subst e;rfl
     rw[this];exact S2
   have:rch f m M 0=[]:=by unfold rch;cases M.el <;> rfl
   rw[this];exact hlr2
 · rintro j x σ H' hx ⟨F',v4,rfl,S',g',k',nlr,nld',hlr'⟩
   have hj:j < due pc M:=by
    have:=(List.getElem?_eq_some_iff.mp hx).1;omega
   obtain rfl:V.int ((M.mv:Int)+(j:Int))=x:=by
    unfold seqI at hx;rw[List.getElem?_map,List.getElem?_map,List.getElem?_range hj]at hx;exact Option.some.inj hx
   cases e:M.el with
   | none=>
     have:due pc M=0:=by unfold due;rw[e]
     omega
   | some EE=>
     obtain⟨PE',sE,hm,_,_⟩:=T.el EE e;have hdl:=due_le (pc:=pc) e hm;obtain⟨PJ,l1,l2,_,tj⟩:=moves_ok j (T.pair e) (by omega)
     have em:mid f m M j=⟨some (moves f m EE M.nw M.mv j).1,M.mv,(moves f m EE M.nw M.mv j).2⟩:=by unfold mid;rw[e]
     have em1:mid f m M (j+1)=⟨some ((moves f m EE M.nw M.mv j).1.set (M.mv+j) []),M.mv,putAll f m (moves f m EE M.nw M.mv j).2 ((moves f m EE M.nw M.mv j).1.getD (M.mv+j) [])⟩:=by unfold mid;rw[e];simp only[moves_snoc]
     have er:rch f m M (j+1)=rch f m M j++(EE.getD (M.mv+j) []).map fun p=>((plc f m M.nw.length p.1:Nat):Int):=by unfold rch;rw[e];simp only[reach_snoc]
     have ec:cnt M=tot EE+tot M.nw:=by unfold SW.cnt;rw[e]
     have hcnt:=hcnt.resolve_right (fun z=>by rw[e]at z;cases z)
     have hrl:(rch f m M j).length<=4000:=by
      have:=reach_tot (f:=f) (m:=m) (n:=M.nw.length) j EE M.nw M.mv (by omega)
      have e2:rch f m M j=reach f m M.nw.length EE M.mv j:=by unfold rch;rw[e]
      rw[e2];omega
     rw[em]at S';walk_at "W";refine wBM ?_;walk_at "W";refine⟨.inl ⟨rfl,_,SqL.of hlr'⟩,?_⟩;walk_at "W";refine wT S' nt_move_place ?_;walk_at "W";refine⟨p,M.mv+j,f,m,pc,_,_,M.mv,tc,F',rfl,S',by rw[l1];omega,PJ,by omega,fun l3 H3 F3 S3 g3 k3 nl3 nF3 hl3=>?_⟩
     have hlr3:=k3 _ _ nlr hlr';rw[moves_getD j EE M.nw M.mv (M.mv+j) (Nat.le_refl _) (by omega),l2]at hl3
     walk_at "W";refine⟨lr,l3,_,_,rfl,rfl,hlr3,hl3,?_,?_⟩
     · rw[List.length_map,List.length_map,List.length_map,List.length_cons]
       have h1:=len_le_tot EE (M.mv+j);have:sizeLine=16777216:=sizeLine_eq;omega
     have fr4:∀ o,SW.Fr (fun b=>b=lr) H3 (upd H3 lr o):=fun o b u nb e=>by rw[upd_ne nb];exact e
     have nlr3:¬ F3 lr:=fun z=>by
      rcases g3 lr z with z | z
      · exact nlr z
      rw[z]at hlr';cases hlr'
     have nld3:¬ F3 ld:=fun z=>by
      rcases g3 ld z with z | z
      · exact nld' z
      rw[k' _ _ (fun z=>z.elim nFd fun z=>nrd z.symm) hld2]at z;cases z
     walk_at "W";refine⟨F3,_,rfl,?_,?_,?_,nlr3,nld3,?_⟩
     · rw[em1]
       exact S3.keep (fr4 _) (fun b hb z=>nlr3 (z ▸ hb)) fun b xs e z=>by rw[z,hlr3]at e;cases e
     · intro b hb
       rcases g3 b hb with z | z
       · exact g' b z
       by_cases hFb:F b
       · exact .inl hFb
       by_cases hb2:b=lr
       · rw[hb2,hlr']at z;cases z
       cases eb:H2 b with
       | none=>exact .inr rfl
       | some o=>rw[k' _ _ (fun y=>y.elim hFb hb2) eb]at z;cases z
     · intro b o nb eb
       have h1:=k' b o nb eb;have nF'b:¬ F' b:=fun z=>by
        rcases g' b z with z | z
        · exact nb (.inl z)
        rw[z]at eb;cases eb
       rw[upd_ne (fun z=>nb (.inr z))];exact k3 b o nF'b h1
     rw[upd_same,er];rw[← List.map_append]
     rfl
 rintro σ H' ⟨F',v4,rfl,S',g',k',nlr,nld',hlr'⟩;rw[lseq]at S' hlr';have hld':=k' _ _ (fun z=>z.elim nFd fun z=>nrd z.symm) hld2;obtain⟨t',n',v',FN',FE',X',hF'⟩:=id S';obtain⟨dx',hp'⟩:=X'.ob;walk_at "W";refine SW.iFld hp' g.cl_Table g.n_Table_moved (tfl_moved ..) ?_;walk_at "W";refine SW.iLen (.inl (SqL.of hld')) ?_;rw[lseq];refine⟨_,_,rfl,rfl,dx',_,hp',by show 6 < 1000;decide,?_⟩
 rw[put_moved];have emv:(mid f m M (due pc M)).mv=M.mv:=by unfold mid;cases M.el <;> rfl
 have fr5:∀ o,SW.Fr (fun b=>b=p) H' (upd H' p o):=fun o b u nb e=>by rw[upd_ne nb];exact e
 have nt5:∀ b xs,H' b=some (.tup xs) -> ¬ b=p:=fun b xs e=>ne_of e hp' (by intro z;cases z)
 have X5:TbX C CT (upd H' p (.ins CT dx' (tfl t' pc v' (((mid f m M (due pc M)).mv:Int)+(due pc M:Nat)) n' tc))) p f m pc { mid f m M (due pc M)with mv:=M.mv+due pc M } tc t' n' v' FN' FE':=
  ⟨⟨dx',by rw[upd_same,emv];rfl⟩,fr5 _ _ _ (nt5 _ _ X'.mx) X'.mx,X'.bm,X'.nw.keep (fr5 _) (fun b hb z=>X'.np.1 (z ▸ hb)) nt5,X'.el.keep (fr5 _) (fun b hb z=>X'.np.2 (z ▸ hb)) nt5,X'.ne,X'.np⟩
 have S5:Tb C CT (upd H' p (.ins CT dx' (tfl t' pc v' (((mid f m M (due pc M)).mv:Int)+(due pc M:Nat)) n' tc))) p f m pc { mid f m M (due pc M)with mv:=M.mv+due pc M } tc F':=⟨t',n',v',FN',FE',X5,hF'⟩;have npl:lr≠p:=fun z=>nlr (z ▸ S'.self);have npd:ld≠p:=fun z=>nld' (z ▸ S'.self);have hlr5:=fr5 (.ins CT dx' (tfl t' pc v' (((mid f m M (due pc M)).mv:Int)+(due pc M:Nat)) n' tc)) _ _ npl hlr';have hld5:=fr5 (.ins CT dx' (tfl t' pc v' (((mid f m M (due pc M)).mv:Int)+(due pc M:Nat)) n' tc)) _ _ npd hld';have fr05:SW.Fr F' H' (upd H' p (.ins CT dx' (tfl t' pc v' (((mid f m M (due pc M)).mv:Int)+(due pc M:Nat)) n' tc))):=fun b o nb e=>fr5 _ b o (fun z=>nb (z ▸ S'.self)) e;generalize upd H' p (.ins CT dx' (tfl t' pc v' (((mid f m M (due pc M)).mv:Int)+(due pc M:Nat)) n' tc))=H5 at *;walk_at "W";refine wT S5 nt_end_move ?_;walk_at "W";refine SW.wTEnd S5 fun H6 F6 S6 g6 k6=>?_;rw[endM_go]at S6;have hlr6:=k6 _ _ nlr hlr5;have hld6:=k6 _ _ nld' hld5;walk_at "W";refine wT S6 nt_stands_on_elder ?_;walk_at "W";refine SW.wTStands S6 ?_;walk_at "W";have hrl:(rch f m M (due pc M)).length<=4000:=by
  unfold rch;cases e:M.el with
  | none=>exact Nat.zero_le _
  | some EE=>
    obtain⟨PE',sE,hm,_,_⟩:=T.el EE e;have hdl:=due_le (pc:=pc) e hm;have:=reach_tot (f:=f) (m:=m) (n:=M.nw.length) (due pc M) EE M.nw M.mv hdl;have ec:cnt M=tot EE+tot M.nw:=by unfold SW.cnt;rw[e]
    have hcnt:=hcnt.resolve_right (fun z=>by rw[e]at z;cases z)
    show(reach f m M.nw.length EE M.mv (due pc M)).length<=4000;omega
 -- the last row,whatever is asked
 have last:∀ z:Int,z=(if standsE f m (goOn f m pc M) k=true then 1 else 0) ->
  sFld K (tVar 0) (tOp (rI0 fun i j=>V.int (i+j)) (tOp (rI0 fun i j=>V.int (i+j)) (tCB (fun xs H Q=>∃ p ys,xs=[V.ref p]/\(SqL K H p ys∨SqT K H p ys)/\Q (.int ys.length) H) (tCons (tVar 2) tNil))
   (tCB (fun xs H Q=>∃ a S n,xs=[V.ref a]/\H a=some (.set S n)/\Q (.int (n:Nat)) H) (tCons (tCB (fun xs H Q=>∃ l ns,xs=[V.ref l]/\SqL K H l (List.map V.int ns)/\List.length ns+1 < 4096/\true=true /\ ∀ a S,H a=none->Q (.ref a) (upd H a (.set S (nDist ns)))) (tCons (tVar 3) tNil)) tNil))) (tVar 5)) "touches"
  { nx:=fun _ H'=>Q .non H',rt:=Q } [some (.ref p),some (.int k),some (.ref ld),some (.ref lr),v4,some (.int z)] H6:=fun z hz=>by
  walk_at "W";refine SW.iLen (.inl (SqL.of hld6)) ?_;rw[lseq];walk_at "W";refine⟨lr,_,rfl,SqL.of hlr6,by rw[List.length_cons];omega,rfl,fun a SS ha=>?_⟩
  walk_at "W";refine⟨a,_,_,rfl,upd_same,?_⟩;walk_at "W";have s7:Same H6 (upd H6 a (.set SS (nDist (((plc f m M.nw.length k:Nat):Int)::rch f m M (due pc M))))):=Same.new ha;have S7:=S6.same s7;obtain⟨t7,n7,v7,FN7,FE7,X7,hF7⟩:=id S7;obtain⟨dx7,hp7⟩:=X7.ob;refine SW.iSFld hp7 g.cl_Table g.n_Table_touches (by show 6 < 1000;decide) ?_
  rw[put_touches];have fr8:∀ o,SW.Fr (fun b=>b=p) (upd H6 a (.set SS (nDist (((plc f m M.nw.length k:Nat):Int)::rch f m M (due pc M))))) (upd (upd H6 a (.set SS (nDist (((plc f m M.nw.length k:Nat):Int)::rch f m M (due pc M))))) p o):=fun o b u nb e=>by rw[upd_ne nb];exact e
  have nt8:∀ b xs,upd H6 a (.set SS (nDist (((plc f m M.nw.length k:Nat):Int)::rch f m M (due pc M)))) b=some (.tup xs) -> ¬ b=p:=fun b xs e=>ne_of e hp7 (by intro z;cases z)
  have e8:((due pc M:Nat):Int)+((nDist (((plc f m M.nw.length k:Nat):Int)::rch f m M (due pc M)):Nat):Int)+z=((tch f m pc M k:Nat):Int):=by
   rw[tch_eq,hz];split <;> simp <;> omega
  refine q _ F6 ⟨t7,n7,v7,FN7,FE7,⟨⟨dx7,by rw[upd_same];exact congrArg (fun w=>some (HO.ins CT dx7 (tfl t7 pc v7 (goOn f m pc M).mv n7 w))) e8⟩,fr8 _ _ _ (nt8 _ _ X7.mx) X7.mx,X7.bm,X7.nw.keep (fr8 _) (fun b hb z=>X7.np.1 (z ▸ hb)) nt8,X7.el.keep (fr8 _) (fun b hb z=>X7.np.2 (z ▸ hb)) nt8,X7.ne,X7.np⟩,hF7⟩ ?_ ?_
  · intro b hb
    have tr:∀ b,H2 b=none->H b=none:=fun b hb=>s1.free (s2.free hb);rcases g6 b hb with z | z
    · rcases g' b z with z | z
      · exact .inl z
      exact .inr (tr b z)
    by_cases hFb:F b
    · exact .inl hFb
    refine .inr (tr b ?_);by_cases hb2:b=lr
    · rw[hb2,hlr5]at z;cases z
    cases eb:H2 b with
    | none=>rfl
    | some o=>
      have nF'b:¬ F' b:=fun y=>by
       rcases g' b y with y | y
       · exact hFb y
       rw[y]at eb;cases eb
      rw[fr05 _ _ nF'b (k' _ _ (fun y=>y.elim hFb hb2) eb)]at z;cases z
  intro b o nb eb;have e2:=s2 _ _ (s1 _ _ eb);have nblr:b≠lr:=fun z=>by rw[z,lrn]at eb;cases eb
  have nF'b:¬ F' b:=fun y=>by
   rcases g' b y with y | y
   · exact nb y
   rw[y]at e2;cases e2
  have nF6b:¬ F6 b:=fun y=>by
   rcases g6 b y with y | y
   · exact nF'b y
   rw[fr05 _ _ nF'b (k' _ _ (fun y=>y.elim nb nblr) e2)]at y;cases y
  exact fr8 _ _ _ (fun z=>nF6b (z ▸ S6.self)) (s7 _ _ (k6 _ _ nF'b (fr05 _ _ nF'b (k' _ _ (fun y=>y.elim nb nblr) e2))))
 cases es:standsE f m (goOn f m pc M) k with
 | true=>
   refine iteT ?_;walk_at "W1";exact last 1 (by rw[es];rfl)
 | false=>
   refine iteF ?_;walk_at "W1";exact last 0 (by rw[es];rfl)
theorem q113_(d:Dm K CT "put" "Table.put" z22_ ["self","key","worth"])(g:Gs K mg C CT CD cS PS CR CE CP CZ CV)(q83_:Mt P w K mg base CT "go_on" 6 ["self","key"] (spTGo C CT))(q88_:Mt P w K mg base CT "shelf_with" 5 ["self","key"] (spTWith C CT))(q79_:Mt P w K mg base CT "begin_move" 5 ["self"] (spTBegin C CT))(q75_:Mt P w K mg base C "put" 4 ["self","key","worth"] (spSPut C)):Mt P w K mg base CT "put" 7 ["self","key","worth"] (spTPut C CT):=by
 refine d.mt z84_ (fun vs H Q E h=>?_) (fun f cdv A outer s H vs Q E hr h=>?_)
 · obtain⟨p,k,y,f,m,pc,M,tc,F,rfl,_⟩:=h
   rfl
 obtain⟨p,k,y,f,m,pc,M,tc,F,rfl,S,T,hpc,hcnt,hcN,q⟩:=h;obtain⟨T1,lk,ct⟩:=goOn_ok (pc:=pc) T;obtain⟨T2,_,_⟩:=putAt_ok (k:=k) (v:=y) T1;rw[← lk k]at q;refine⟨_,(B.scons (B.expr (B.meth (B.v 0) g.cl_Table q83_ hr.up (B.cons (B.v 1) B.nil)))
  (B.scons (B.set 3 z84_.nd (B.meth (B.meth (B.v 0) g.cl_Table q88_ hr.up (B.cons (B.v 1) B.nil)) g.cl_Shelf q75_ hr.up (B.cons (B.v 1) (B.cons (B.v 2) B.nil))))
  (B.scons (B.expr (B.meth0 (B.v 0) g.cl_Table q79_ hr.up))
  (B.sone (B.ret (B.v 3)))))),?_⟩
 walk_at "W";refine wT S nt_go_on ?_;walk_at "W";refine SW.wTGo S T hpc hcN fun H1 F1 S1 g1 k1=>?_;obtain⟨t,n,v,FN,FE,X,hF⟩:=id S1;obtain⟨dx,hp⟩:=X.ob
 -- behind the put on either shelf
 have hcn:tot (goOn f m pc M).nw<=4900:=by
  have:SW.cnt (goOn f m pc M)<=4900:=by rw[ct];exact hcnt
  unfold SW.cnt at this;omega
 have fin:∀(o:Option Int) H2,Tb C CT H2 p f m pc (putAt f m (goOn f m pc M) k y) (tch f m pc M k) F1->SW.Fr F1 H1 H2->o=tLook f m (goOn f m pc M) k ->
  tSeq (tDrop (tMeth CT "begin_move" (spTBegin C CT) [] E0 (tVar 0) tNil)) (tRet (tVar 3)) { nx:=fun _ H'=>Q .non H',rt:=Q } [some (.ref p),some (.int k),some (.int y),some (oV o)] H2:=fun o H2 S2 k2 ho=>by
  walk_at "W";refine wT S2 nt_begin_move ?_;walk_at "W";refine SW.wTBegin S2 T2.sz fun H3 F3 S3 g3 k3=>?_;walk_at "W";rw[ho];have fr2:SW.Fr F H H2:=fun b u nb e=>k2 _ _ (fun z=>(g1 b z).elim nb fun z=>by rw[z]at e;cases e) (k1 _ _ nb e)
  refine q H3 F3 S3 (Gr.trans g1 fr2 g3) fun b u nb e=>?_;have h2:=fr2 b u nb e;exact k3 _ _ (fun z=>by
   rcases g1 b z with z | z
   · exact nb z
   rw[z]at e;cases e) h2
 walk_at "W";refine wT S1 nt_shelf_with ?_;walk_at "W";refine SW.wTWith X (fun EE e hne=>?_) (fun hno=>?_)
 · have hel:=X.el
   rw[e]at hel;obtain⟨ea,rfl,SE⟩:=hel;have hcE:tot EE<=4900:=by
    have:SW.cnt (goOn f m pc M)<=4900:=by rw[ct];exact hcnt
    unfold SW.cnt at this;rw[e]at this;have h2:tot EE+tot (goOn f m pc M).nw<=4900:=this;omega
   refine wS SE ⟨by decide +kernel,by decide +kernel,by decide +kernel⟩ ?_
   walk_at "W0";refine wSPut SE (by omega) fun H2 SE2 K2=>?_
   walk_at "W1";have ep:=putAt_el (v:=y) e hne;refine fin _ H2 (by rw[ep];exact⟨t,n,_,FN,FE,X.setE e SE2 K2,hF⟩) (fun b u nb e=>K2 _ _ (fun z=>nb ((hF b).mpr (.inr (.inr z)))) e) ?_
   exact tLook_el e hne
 refine wS X.nw ⟨by decide +kernel,by decide +kernel,by decide +kernel⟩ ?_
 walk_at "W0";refine wSPut X.nw (by omega) fun H2 SN2 K2=>?_
 walk_at "W1";have ep:=putAt_nw (v:=y) hno;refine fin _ H2 (by rw[ep];exact⟨t,n,_,FN,FE,X.setN SN2 K2,hF⟩) (fun b u nb e=>K2 _ _ (fun z=>nb ((hF b).mpr (.inr (.inl z)))) e) ?_
 exact tLook_nw hno
theorem q106_(d:Dm K CT "cut" "Table.cut" z15_ ["self","key"])(g:Gs K mg C CT CD cS PS CR CE CP CZ CV)(q83_:Mt P w K mg base CT "go_on" 6 ["self","key"] (spTGo C CT))(q88_:Mt P w K mg base CT "shelf_with" 5 ["self","key"] (spTWith C CT))(q79_:Mt P w K mg base CT "begin_move" 5 ["self"] (spTBegin C CT))(q70_:Mt P w K mg base C "cut" 4 ["self","key"] (spSCut C)):Mt P w K mg base CT "cut" 7 ["self","key"] (spTCut C CT):=by
 refine d.mt z77_ (fun vs H Q E h=>?_) (fun f cdv A outer s H vs Q E hr h=>?_)
 · obtain⟨p,k,f,m,pc,M,tc,F,rfl,_⟩:=h
   rfl
 obtain⟨p,k,f,m,pc,M,tc,F,rfl,S,T,hpc,hcnt,q⟩:=h;obtain⟨T1,lk,ct⟩:=goOn_ok (pc:=pc) T;obtain⟨T2,_,_⟩:=cutAt_ok (k:=k) T1;rw[← lk k]at q;refine⟨_,(B.scons (B.expr (B.meth (B.v 0) g.cl_Table q83_ hr.up (B.cons (B.v 1) B.nil)))
  (B.scons (B.set 2 z77_.nd (B.meth (B.meth (B.v 0) g.cl_Table q88_ hr.up (B.cons (B.v 1) B.nil)) g.cl_Shelf q70_ hr.up (B.cons (B.v 1) B.nil)))
  (B.scons (B.expr (B.meth0 (B.v 0) g.cl_Table q79_ hr.up))
  (B.sone (B.ret (B.v 2)))))),?_⟩
 walk_at "W";refine wT S nt_go_on ?_;walk_at "W";refine SW.wTGo S T hpc (.inl hcnt) fun H1 F1 S1 g1 k1=>?_;obtain⟨t,n,v,FN,FE,X,hF⟩:=id S1;obtain⟨dx,hp⟩:=X.ob;have fin:∀(o:Option Int) H2,Tb C CT H2 p f m pc (cutAt f m (goOn f m pc M) k) (tch f m pc M k) F1->SW.Fr F1 H1 H2->o=tLook f m (goOn f m pc M) k ->
  tSeq (tDrop (tMeth CT "begin_move" (spTBegin C CT) [] E0 (tVar 0) tNil)) (tRet (tVar 2)) { nx:=fun _ H'=>Q .non H',rt:=Q } [some (.ref p),some (.int k),some (oV o)] H2:=fun o H2 S2 k2 ho=>by
  walk_at "W";refine wT S2 nt_begin_move ?_;walk_at "W";refine SW.wTBegin S2 T2.sz fun H3 F3 S3 g3 k3=>?_;walk_at "W";rw[ho];have fr2:SW.Fr F H H2:=fun b u nb e=>k2 _ _ (fun z=>(g1 b z).elim nb fun z=>by rw[z]at e;cases e) (k1 _ _ nb e)
  refine q H3 F3 S3 (Gr.trans g1 fr2 g3) fun b u nb e=>?_;have h2:=fr2 b u nb e;exact k3 _ _ (fun z=>by
   rcases g1 b z with z | z
   · exact nb z
   rw[z]at e;cases e) h2
 walk_at "W";refine wT S1 nt_shelf_with ?_;walk_at "W";refine SW.wTWith X (fun EE e hne=>?_) (fun hno=>?_)
 · have hel:=X.el
   rw[e]at hel;obtain⟨ea,rfl,SE⟩:=hel;refine wS SE ⟨by decide +kernel,by decide +kernel,by decide +kernel⟩ ?_
   walk_at "W0";refine wSCut SE fun H2 SE2 K2=>?_;walk_at "W1";have ep:=cutAt_el e hne;refine fin _ H2 (by rw[ep];exact⟨t,n,_,FN,FE,X.setE e SE2 K2,hF⟩) (fun b u nb e=>K2 _ _ (fun z=>nb ((hF b).mpr (.inr (.inr z)))) e) ?_
   exact tLook_el e hne
 refine wS X.nw ⟨by decide +kernel,by decide +kernel,by decide +kernel⟩ ?_
 walk_at "W0";refine wSCut X.nw fun H2 SN2 K2=>?_;walk_at "W1";have ep:=cutAt_nw hno;refine fin _ H2 (by rw[ep];exact⟨t,n,_,FN,FE,X.setN SN2 K2,hF⟩) (fun b u nb e=>K2 _ _ (fun z=>nb ((hF b).mpr (.inr (.inl z)))) e) ?_
 exact tLook_nw hno
theorem q110_(d:Dm K CT "look" "Table.look" z19_ ["self","key"])(g:Gs K mg C CT CD cS PS CR CE CP CZ CV)(q83_:Mt P w K mg base CT "go_on" 6 ["self","key"] (spTGo C CT))(q88_:Mt P w K mg base CT "shelf_with" 5 ["self","key"] (spTWith C CT))(q79_:Mt P w K mg base CT "begin_move" 5 ["self"] (spTBegin C CT))(q72_:Mt P w K mg base C "look" 4 ["self","key"] (spSLook C)):Mt P w K mg base CT "look" 7 ["self","key"] (spTLook C CT):=by
 refine d.mt z81_ (fun vs H Q E h=>?_) (fun f cdv A outer s H vs Q E hr h=>?_)
 · obtain⟨p,k,f,m,pc,M,tc,F,rfl,_⟩:=h
   rfl
 obtain⟨p,k,f,m,pc,M,tc,F,rfl,S,T,hpc,hcnt,q⟩:=h;obtain⟨T1,lk,ct⟩:=goOn_ok (pc:=pc) T;rw[← lk k]at q;refine⟨_,(B.scons (B.expr (B.meth (B.v 0) g.cl_Table q83_ hr.up (B.cons (B.v 1) B.nil)))
  (B.scons (B.set 2 z81_.nd (B.meth (B.meth (B.v 0) g.cl_Table q88_ hr.up (B.cons (B.v 1) B.nil)) g.cl_Shelf q72_ hr.up (B.cons (B.v 1) B.nil)))
  (B.scons (B.expr (B.meth0 (B.v 0) g.cl_Table q79_ hr.up))
  (B.sone (B.ret (B.v 2)))))),?_⟩
 walk_at "W";refine wT S nt_go_on ?_;walk_at "W";refine SW.wTGo S T hpc (.inl hcnt) fun H1 F1 S1 g1 k1=>?_;obtain⟨t,n,v,FN,FE,X,hF⟩:=id S1;obtain⟨dx,hp⟩:=X.ob;have fin:∀(o:Option Int),o=tLook f m (goOn f m pc M) k ->
  tSeq (tDrop (tMeth CT "begin_move" (spTBegin C CT) [] E0 (tVar 0) tNil)) (tRet (tVar 2)) { nx:=fun _ H'=>Q .non H',rt:=Q } [some (.ref p),some (.int k),some (oV o)] H1:=fun o ho=>by
  walk_at "W";refine wT S1 nt_begin_move ?_;walk_at "W";refine SW.wTBegin S1 T1.sz fun H3 F3 S3 g3 k3=>?_;walk_at "W";rw[ho];refine q H3 F3 S3 (Gr.trans g1 k1 g3) fun b u nb e=>?_;have h2:=k1 b u nb e;exact k3 _ _ (fun z=>by
   rcases g1 b z with z | z
   · exact nb z
   rw[z]at e;cases e) h2
 walk_at "W";refine wT S1 nt_shelf_with ?_;walk_at "W";refine SW.wTWith X (fun EE e hne=>?_) (fun hno=>?_)
 · have hel:=X.el
   rw[e]at hel;obtain⟨ea,rfl,SE⟩:=hel;refine wS SE ⟨by decide +kernel,by decide +kernel,by decide +kernel⟩ ?_
   walk_at "W0";refine wSLook SE ?_;walk_at "W1";refine fin _ ?_;exact tLook_el e hne
 refine wS X.nw ⟨by decide +kernel,by decide +kernel,by decide +kernel⟩ ?_
 walk_at "W0";refine wSLook X.nw ?_;walk_at "W1";refine fin _ ?_;exact tLook_nw hno
theorem q114_(d:Dm K CT "shelves" "Table.shelves" z24_ ["self"])(g:Gs K mg C CT CD cS PS CR CE CP CZ CV):Mt P w K mg base CT "shelves" 1 ["self"] (spTShelves C CT):=by
 refine d.mt z86_ (fun vs H Q E h=>?_) (fun f cdv A outer s H vs Q E hr h=>?_)
 · obtain⟨p,f,m,pc,M,tc,t,n,v,FN,FE,rfl,_⟩:=h
   rfl
 obtain⟨p,f,m,pc,M,tc,t,n,v,FN,FE,rfl,X,q⟩:=h;obtain⟨dx,hp⟩:=X.ob;have hel:=X.el;refine⟨_,(B.sone (B.ret (B.ifx (B.tcmp op_isN (B.fld (B.v 0)) B.non) (B.lst (B.cons (B.fld (B.v 0)) B.nil)) (B.lst (B.cons (B.fld (B.v 0)) (B.cons (B.fld (B.v 0)) B.nil)))))),?_⟩;walk_at "W";refine SW.iFld hp g.cl_Table g.n_Table_elder (tfl_elder ..) ?_;walk_at "W";refine⟨rfl,?_⟩;walk_at "W";cases e:M.el with
 | none=>
   rw[e]at hel q;obtain⟨rfl,_⟩:=hel;refine iteT ?_;walk_at "W";refine SW.iFld hp g.cl_Table g.n_Table_newer (tfl_newer ..) ?_;walk_at "W";exact⟨by show(1:Nat)<=sizeLine;decide,fun l hl=>q l hl⟩
 | some EE=>
   rw[e]at hel q;obtain⟨ea,rfl,SE⟩:=hel;refine iteF ?_;walk_at "W";refine SW.iFld hp g.cl_Table g.n_Table_elder (tfl_elder ..) ?_;walk_at "W";refine SW.iFld hp g.cl_Table g.n_Table_newer (tfl_newer ..) ?_;walk_at "W";exact⟨by show(2:Nat)<=sizeLine;decide,fun l hl=>q l hl⟩
theorem q111_(d:Dm K CT "many" "Table.many" z20_ ["self"])(g:Gs K mg C CT CD cS PS CR CE CP CZ CV)(q89_:Mt P w K mg base CT "shelves" 1 ["self"] (spTShelves C CT))(q73_:Mt P w K mg base C "many" 1 ["self"] (spSMany C)):Mt P w K mg base CT "many" 2 ["self"] (spTMany C CT):=by
 refine d.mt z82_ (fun vs H Q E h=>?_) (fun f cdv A outer s H vs Q E hr h=>?_)
 · obtain⟨p,f,m,pc,M,tc,F,rfl,_⟩:=h
   rfl
 obtain⟨p,f,m,pc,M,tc,F,rfl,S,q⟩:=h;obtain⟨t,n,v,FN,FE,X,hF⟩:=id S;have hel:=X.el;refine⟨_,(B.sone (B.ret (B.cB SW.call_sum g.b_sum SW.b_sum (B.cons (SW.B.comp [] ["shelf"] (SW.CompScope.of rfl rfl (by decide +kernel) (by decide +kernel) rfl trivial rfl rfl rfl) (by decide +kernel) (B.ilist (B.meth0 (B.v 0) g.cl_Table q89_ hr.up)) (fun _ _ _ _=>(B.meth0 (B.v 0) g.cl_Shelf q73_ hr.up))) B.nil)))),?_⟩
 walk_at "W";refine wT S nt_shelves ?_;walk_at "W";refine SW.wTShelves X fun l hl=>?_;have s1:Same H (upd H l (.lst (match M.el with | none=>[.ref n] | some _=>[v,.ref n]))):=Same.new hl;refine⟨l,rfl,⟨_,SqL.of upd_same⟩,fun D hD=>?_⟩;have nlD:l≠D:=ne_of_none upd_same hD;have SN1:=X.nw.same s1;have cntE:∀(ns:List Int),ns=(match M.el with | none=>[((tot M.nw:Nat):Int)] | some EE=>[((tot EE:Nat):Int),((tot M.nw:Nat):Int)])->ns.sum=((SW.cnt M:Nat):Int):=fun ns h=>by
  rw[h];unfold SW.cnt;cases M.el with
  | none=>simp
  | some EE=>simp
 refine comp_listU (xs:=match M.el with | none=>[.ref n] | some _=>[v,.ref n]) (fun j σ' H'=>Same (upd H l (.lst (match M.el with | none=>[.ref n] | some _=>[v,.ref n]))) H'/\(∃ v,σ'=[v]) /\
  H' D=some (.lst (((match M.el with | none=>[((tot M.nw:Nat):Int)] | some EE=>[((tot EE:Nat):Int),((tot M.nw:Nat):Int)]).take j).map V.int))) ⟨Same.new hD,⟨none,rfl⟩,upd_same⟩ (fun j σ' H' _ ⟨s',_⟩=>SqL.of (s' _ _ upd_same)) ?_ ?_
 · rintro j x σ' H' hx hj ⟨s',⟨v0,rfl⟩,hD'⟩
   have key:∃ a f m R F',x=.ref a/\Sh C H' a f m R F'/\(match M.el with | none=>[((tot M.nw:Nat):Int)] | some EE=>[((tot EE:Nat):Int),((tot M.nw:Nat):Int)])[j]?=some ((tot R:Nat):Int):=by
    cases e:M.el with
    | none=>
      rw[e]at hx hj
      match j,hx with
      | 0,hx=>exact⟨n,f,m,M.nw,FN,(Option.some.inj hx).symm,SN1.same s',rfl⟩
      | j+1,hx=>simp at hx
    | some EE=>
      rw[e]at hx hj hel;obtain⟨ea,rfl,SE⟩:=hel
      match j,hx with
      | 0,hx=>exact⟨ea,f,m,EE,FE,(Option.some.inj hx).symm,(SE.same s1).same s',rfl⟩
      | 1,hx=>exact⟨n,f,m,M.nw,FN,(Option.some.inj hx).symm,SN1.same s',rfl⟩
      | j+2,hx=>simp at hx
   obtain⟨a,f',m',R,F',rfl,SR,hn⟩:=key;walk_at "W";refine wS SR ⟨by decide +kernel,by decide +kernel,by decide +kernel⟩ ?_
   walk_at "W";refine wSMany SR ?_;refine CN.mk hj hD' (by
    rw[List.length_map,List.length_take];have:sizeLine=16777216:=sizeLine_eq;have h2:(match M.el with | none=>[((tot M.nw:Nat):Int)] | some EE=>[((tot EE:Nat):Int),((tot M.nw:Nat):Int)]).length<=2:=by cases M.el <;> simp
    omega) ⟨fun b o e=>?_,⟨_,rfl⟩,?_⟩
   · rw[upd_ne (ne_of_none e hD)];exact s' _ _ e
   rw[upd_same,List.take_add_one,hn,List.map_append]
   rfl
 rintro σ' H' ⟨s',⟨v0,rfl⟩,hD'⟩;walk_at "W";rw[List.take_of_length_le (by cases M.el <;> simp)]at hD'
 refine⟨D,_,rfl,SqL.of hD',rfl,?_⟩;rw[cntE _ rfl];exact q H' (s1.trans s')
theorem q46_(d:Dfn K mg "shelf_of" z56_ ["rows","mixer"])(g:Gs K mg C CT CD cS PS CR CE CP CZ CV)(q66_:Mkr P w K mg base C "Shelf" 3 ["self","size","mixer"] (spSInit C))(q75_:Mt P w K mg base C "put" 4 ["self","key","worth"] (spSPut C)):Fn P w K mg base "shelf_of" 5 ["rows","mixer"] (spShelfOf K C):=by
 refine d.fn z118_ (fun vs H Q E h=>?_) (fun f cdv A outer s H vs Q E hr h=>?_)
 · obtain⟨a,t,f,m,R,rfl,_⟩:=h
   rfl
 obtain⟨a,t,f,m,R,rfl,⟨xs,hx,px⟩,hs,htot,ht,bf,q⟩:=h;have lx:xs.length=R.length:=Paired.length px;refine⟨_,(B.scons (B.set 2 z118_.nd (B.make q66_ hr.up (B.cons (B.cB call_len_seq g.b_len SW.b_len (B.cons (B.v 0) B.nil)) (B.cons (B.v 1) B.nil))))
  (B.scons (B.fors (B.itup (B.v 0)) (B.gname (i:=3) z118_.nd) (B.sone (B.fors (B.itup (B.v 3)) (B.gtup (B.gcons (B.gname (i:=4) z118_.nd) (B.gcons (B.gname (i:=5) z118_.nd) B.gnil))) (B.sone (B.expr (B.meth (B.v 2) g.cl_Shelf q75_ hr.up (B.cons (B.v 4) (B.cons (B.v 5) B.nil))))))))
  (B.sone (B.ret (B.v 2))))),?_⟩
 walk_at "W";refine SW.iLen (.inr hx) ?_;walk_at "W";rw[lx];refine wShelf (n:=((R.length:Nat):Int)) ht bf (by omega) (by simpa using hs) fun p H1 F1 S1 n1 s1=>?_
 have S1:Sh C H1 p f m (List.replicate R.length []) F1:=S1;have keepT:∀{H':Hp}{b:Addr}{ys:List V},(∀ c o,H c=some o->H' c=some o)->SqT K H b ys->SqT K H' b ys:=fun k hb=>by
  rcases hb with (z | ⟨o,z⟩) | z
  · exact .inl (.inl (k _ _ z))
  · exact .inl (.inr ⟨o,k _ _ z⟩)
  exact .inr z
 have old:∀{H':Hp},SW.Fr F1 H1 H' -> ∀ c o,H c=some o->H' c=some o:=fun k c o e=>k c o (fun z=>by rw[n1 c z]at e;cases e) (s1 c o e)
 walk_at "W";refine⟨a,rfl,⟨_,keepT s1 hx⟩,?_⟩;refine for_tup (xs:=xs) (fun i σ H'=>∃ v3 v4 v5,σ=[some (.ref a),some (.ref t),some (.ref p),v3,v4,v5]/\Sh C H' p f m ((R.take i).foldl (fun N r=>putAll f m N r) (List.replicate R.length [])) F1/\SW.Fr F1 H1 H'/\tot ((R.take i).foldl (fun N r=>putAll f m N r) (List.replicate R.length []))<=tot (R.take i)) ?_ (fun i σ H' _ z=>z.elim fun _ z=>z.elim fun _ z=>z.elim fun _ z=>keepT (old z.2.2.1) hx) ?_ ?_
 · exact⟨none,none,none,rfl,S1,Fr.refl _ _,by rw[List.take_zero];show tot (List.replicate R.length [])<=0;rw[tot_rep];exact Nat.le_refl _⟩
 · rintro i x σ H' hxi ⟨v3,v4,v5,rfl,S',k',ht'⟩
   have hi:i < R.length:=by
    have:=(List.getElem?_eq_some_iff.mp hxi).1;omega
   obtain⟨b,ys,rfl,hb,pb⟩:RowT K H x R[i]:=by
    have key:∀{xs:List V}{R:MRows}{i:Nat}{x:V} (hi:i < R.length),Paired (RowT K H) xs R->xs[i]?=some x->RowT K H x R[i]:=by
     intro xs R i x hi pp
     induction pp generalizing i with
     | nil=>intro h;simp at h
     | cons h t ih=>
       intro e;cases i with
       | zero=>simp at e;subst e;exact h
       | succ i=>exact ih (by simpa using hi) (by simpa using e)
    exact key hi px hxi
   have ly:ys.length=R[i].length:=Paired.length pb;have etk:R.take (i+1)=R.take i++[R[i]]:=by rw[List.take_add_one,List.getElem?_eq_getElem hi];rfl
   have ett:tot (R.take (i+1))=tot (R.take i)+R[i].length:=by
    rw[etk];unfold tot;rw[List.map_append,List.sum_append];simp
   have tle:tot (R.take (i+1))<=tot R:=by
    have:∀(l:MRows) (j:Nat),tot (l.take j)<=tot l:=by
     intro l
     induction l with
     | nil=>intro j;rw[List.take_nil];exact Nat.le_refl _
     | cons a l ih=>
       intro j;cases j with
       | zero=>exact Nat.zero_le _
       | succ j=>
         show a.length+tot (l.take j)<=a.length+tot l;have:=ih j;omega
    exact this R (i+1)
   walk_at "W";refine⟨b,rfl,⟨_,keepT (old k') hb⟩,?_⟩;refine for_tup (xs:=ys) (fun j σ H''=>∃ v4 v5,σ=[some (.ref a),some (.ref t),some (.ref p),some (.ref b),v4,v5]/\Sh C H'' p f m (putAll f m ((R.take i).foldl (fun N r=>putAll f m N r) (List.replicate R.length [])) (R[i].take j)) F1/\SW.Fr F1 H1 H'') ⟨v4,v5,rfl,S',k'⟩ (fun j σ H'' _ ⟨_,_,_,_,k''⟩=>keepT (old k'') hb) ?_ ?_
   · rintro j y σ H'' hyj ⟨v4,v5,rfl,S'',k''⟩
     have hj:j < R[i].length:=by
      have:=(List.getElem?_eq_some_iff.mp hyj).1;omega
     obtain⟨c,rfl,hc⟩:PrT K H y R[i][j]:=by
      have key:∀{xs:List V}{R:MRow}{i:Nat}{x:V} (hi:i < R.length),Paired (PrT K H) xs R->xs[i]?=some x->PrT K H x R[i]:=by
       intro xs R i x hi pp
       induction pp generalizing i with
       | nil=>intro h;simp at h
       | cons h t ih=>
         intro e;cases i with
         | zero=>simp at e;subst e;exact h
         | succ i=>exact ih (by simpa using hi) (by simpa using e)
      exact key hj pb hyj
     refine⟨c,_,rfl,keepT (old k'') hc,rfl,_,_,rfl,_,_,rfl,rfl,?_⟩;walk_at "W";refine wS S'' ⟨by decide +kernel,by decide +kernel,by decide +kernel⟩ ?_
     walk_at "W";refine wSPut S'' ?_ fun H3 S3 K3=>?_
     · have h1:=tot_putAll_le (f:=f) (m:=m) (r:=R[i].take j) S'.pos
       have h2:(R[i].take j).length<=R[i].length:=by rw[List.length_take];exact Nat.min_le_right _ _
       omega
     walk_at "W";refine⟨_,_,rfl,?_,k''.trans K3⟩;rw[putAll_take (List.getElem?_eq_getElem hj)];exact S3
   rintro σ H'' ⟨v4,v5,rfl,S'',k''⟩;have e9:R[i].take ys.length=R[i]:=List.take_of_length_le (by omega)
   rw[e9]at S'';have ef:(R.take (i+1)).foldl (fun N r=>putAll f m N r) (List.replicate R.length [])=putAll f m ((R.take i).foldl (fun N r=>putAll f m N r) (List.replicate R.length [])) R[i]:=by rw[etk,List.foldl_append];rfl
   refine⟨_,_,_,rfl,by rw[ef];exact S'',k'',?_⟩
   rw[ef];have h1:=tot_putAll_le (f:=f) (m:=m) (r:=R[i]) S'.pos;omega
 rintro σ H' ⟨v3,v4,v5,rfl,S',k',_⟩;rw[List.take_of_length_le (by omega)]at S'
 walk_at "W";exact q p H' F1 S' n1 (old k')
theorem q109_(d:Dk K mg CT "Table" "Table.__init__" z13_ ["self","mixer","pace","state"])(g:Gs K mg C CT CD cS PS CR CE CP CZ CV)(q46_:Fn P w K mg base "shelf_of" 5 ["rows","mixer"] (spShelfOf K C)):Mkr P w K mg base CT "Table" 6 ["self","mixer","pace","state"] (spTInit C CT):=by
 refine d.mk' z75_ (fun vs H Q E h=>?_) (fun f cdv A outer s H vs Q E hr h=>?_)
 · obtain⟨x,t,dx,f,m,pc,v,M,rfl,_⟩:=h
   rfl
 obtain⟨x,t,dx,f,m,pc,v,M,rfl,hx,ht,bf,T,hcnt,hv,q⟩:=h;obtain⟨aE,bE,hE,tE,rE⟩:=g.c_EMPTY;have ntx:t≠x:=ne_of ht hx (by intro z;cases z)
 refine⟨_,(B.scons (B.set 4 z75_.nd (B.ifx (B.tcmp op_isN (B.v 3) B.non) (B.gref hE) (B.v 3)))
  (B.scons (B.sfld (B.v 0) (B.v 1))
  (B.scons (B.sfld (B.v 0) (B.v 2))
  (B.scons (B.sfld (B.v 0) (B.ifx (B.tcmp op_isN (B.ix ix_tup (B.v 4) B.int) B.non) B.non (B.fn q46_ hr.up (B.cons (B.ix ix_tup (B.v 4) B.int) (B.cons (B.v 1) B.nil)))))
  (B.scons (B.sfld (B.v 0) (B.ix ix_tup (B.v 4) B.int))
  (B.scons (B.sfld (B.v 0) (B.fn q46_ hr.up (B.cons (B.ix ix_tup (B.v 4) B.int) (B.cons (B.v 1) B.nil))))
  (B.sone (B.sfld (B.v 0) B.int)))))))),?_⟩
 walk_at "W";refine⟨rfl,?_⟩;walk_at "W";have key:∀ Q':VK,(∀(aL:Addr) (e:V) (b:Addr),SqT K H aL [e,.int (M.mv:Nat),.ref b]->ElT K H e M.el->RowsT K H b M.nw->Q' (.ref aL) H) ->
  (if decide (v=.non)=true then tC (.ref aE) [some (.ref x),some (.ref t),some (.int pc),some v,none] H Q' else tVar 3 [some (.ref x),some (.ref t),some (.int pc),some v,none] H Q'):=fun Q' h=>by
  rcases hv with ⟨rfl,rfl⟩ | ⟨a,e,w',rfl,ha,he,hw⟩
  · exact iteT (h aE .non bE (tE _) rfl (rE _))
  obtain⟨b,rfl,hb⟩:=hw.rowsT (K:=K);exact iteF (SW.wVar rfl (h a e b (SqT.of ha) he.elT hb))
 refine key _ fun aL e b hL hEl hN=>?_;clear key;have L0:(putF "mixer" (V.ref t) []).length<=1:=putF_len ..;have L1:(putF "pace" (V.int pc) (putF "mixer" (V.ref t) [])).length<=2:=Nat.le_trans (putF_len ..) (Nat.succ_le_succ L0);have L2:∀ ve,(putF "elder" ve (putF "pace" (V.int pc) (putF "mixer" (V.ref t) []))).length<=3:=fun ve=>Nat.le_trans (putF_len ..) (Nat.succ_le_succ L1);have L3:∀ ve z,(putF "moved" z (putF "elder" ve (putF "pace" (V.int pc) (putF "mixer" (V.ref t) [])))).length<=4:=fun ve z=>Nat.le_trans (putF_len ..) (Nat.succ_le_succ (L2 ve));have L4:∀ ve z y,(putF "newer" y (putF "moved" z (putF "elder" ve (putF "pace" (V.int pc) (putF "mixer" (V.ref t) []))))).length<=5:=fun ve z y=>Nat.le_trans (putF_len ..) (Nat.succ_le_succ (L3 ve z));walk_at "W";refine SW.iSFld hx g.cl_Table g.n_Table_mixer (by show 0 < 1000;decide) ?_
 walk_at "W";refine SW.iSFld upd_same g.cl_Table g.n_Table_pace (by omega) ?_
 rw[upd_upd];have fr0:∀ o b u,b≠x->H b=some u->upd H x o b=some u:=fun o b u nb e=>by rw[upd_ne nb];exact e
 walk_at "W";refine⟨aL,_,_,_,rfl,rfl,hL.but hx (fr0 _),rfl,?_⟩;walk_at "W";refine⟨rfl,?_⟩;walk_at "W";have totN:tot M.nw<=5000:=by unfold SW.cnt at hcnt;omega
 have key2:∀ Q':VK,(∀(ve:V) (H1:Hp) (FE:Addr->Prop),ElAt C H1 f m ve M.el FE->(∀ b,FE b->H b=none/\b≠x)->H1 x=some (.ins CT dx (putF "pace" (.int pc) (putF "mixer" (.ref t) [])))->(∀ b o,b≠x->H b=some o->H1 b=some o)->Q' ve H1) ->
  (if decide (e=.non)=true then tC .non [some (.ref x),some (.ref t),some (.int pc),some v,some (.ref aL)] (upd H x (.ins CT dx (putF "pace" (.int pc) (putF "mixer" (.ref t) [])))) Q'
   else tCall (spShelfOf K C) [] E0 (tCons (tOp (rIxT K) (tVar 4) (tC (.int 0))) (tCons (tVar 1) tNil)) [some (.ref x),some (.ref t),some (.int pc),some v,some (.ref aL)] (upd H x (.ins CT dx (putF "pace" (.int pc) (putF "mixer" (.ref t) [])))) Q'):=fun Q' h=>by
  cases z:M.el with
  | none=>
    rw[z]at hEl h;obtain rfl:e=.non:=hEl;exact iteT (h .non _ (fun _=>False) ⟨rfl,fun _ z=>z⟩ (fun _ z=>z.elim) upd_same (fr0 _))
  | some EE=>
    obtain⟨PE',sE,_,_,_⟩:=T.el EE z;have totE:tot EE<=5000:=by unfold SW.cnt at hcnt;rw[z]at hcnt;have h2:tot EE+tot M.nw<=5000:=hcnt;omega
    rw[z]at hEl h;obtain⟨ea,rfl,hr'⟩:=hEl;refine iteF ?_;walk_at "W";refine⟨aL,_,_,_,rfl,rfl,hL.but hx (fr0 _),rfl,?_⟩;walk_at "W";refine⟨ea,t,f,m,EE,rfl,hr'.but hx (fr0 _),sE,totE,fr0 _ _ _ ntx ht,bf,fun sp H1 F1 S1 n1 s1=>?_⟩;rw[laid_eq PE']at S1;refine h (.ref sp) H1 F1 ⟨sp,rfl,S1⟩ (fun b hb=>?_) (s1 _ _ upd_same) fun b o nb e=>s1 _ _ (fr0 _ _ _ nb e);have h1:=n1 b hb;by_cases z:b=x
    · subst z;rw[upd_same]at h1;cases h1
    rw[upd_ne z]at h1;exact⟨h1,z⟩
 refine key2 _ fun ve H1 FE hE1 nFE hx1 fr1=>?_;clear key2;have fr2:∀ o b u,b≠x->H b=some u->upd H1 x o b=some u:=fun o b u nb e=>by rw[upd_ne nb];exact fr1 b u nb e
 walk_at "W";refine SW.iSFld hx1 g.cl_Table g.n_Table_elder (by omega) ?_
 walk_at "W";refine⟨aL,_,_,_,rfl,rfl,hL.but hx (fr2 _),rfl,?_⟩;walk_at "W";refine SW.iSFld upd_same g.cl_Table g.n_Table_moved (by have:=L2 ve;omega) ?_
 rw[upd_upd];walk_at "W";refine⟨aL,_,_,_,rfl,rfl,hL.but hx (fr2 _),rfl,?_⟩;walk_at "W";refine⟨b,t,f,m,M.nw,rfl,hN.but hx (fr2 _),T.sz,totN,fr2 _ _ _ ntx ht,bf,fun sp H2 F2 S2 n2 s2=>?_⟩;rw[laid_eq T.nw]at S2;have hx2:=s2 _ _ (upd_same (H:=H1) (a:=x) (o:=.ins CT dx (putF "moved" (.int (M.mv:Nat)) (putF "elder" ve (putF "pace" (.int pc) (putF "mixer" (.ref t) []))))));have n2':∀ b,F2 b->H1 b=none/\b≠x:=fun b hb=>by
  have h1:=n2 b hb;by_cases z:b=x
  · subst z;rw[upd_same]at h1;cases h1
  rw[upd_ne z]at h1;exact⟨h1,z⟩
 have n2'':∀ b,F2 b->H b=none:=fun b hb=>by
  obtain⟨h1,nb⟩:=n2' b hb;cases e:H b with
  | none=>rfl
  | some o=>rw[fr1 b o nb e]at h1;cases h1
 walk_at "W";refine SW.iSFld hx2 g.cl_Table g.n_Table_newer (by have:=L3 ve (.int (M.mv:Nat));omega) ?_
 walk_at "W";refine SW.iSFld upd_same g.cl_Table g.n_Table_touches (by have:=L4 ve (.int (M.mv:Nat)) (.ref sp);omega) ?_
 rw[upd_upd,tfl_mk];have fr3:∀ o,SW.Fr (fun b=>b=x) H2 (upd H2 x o):=fun o b u nb e=>by rw[upd_ne nb];exact e
 have nt3:∀ b xs,H2 b=some (.tup xs) -> ¬ b=x:=fun b xs e=>ne_of e hx2 (by intro z;cases z)
 have fr4:∀ o,SW.Fr (fun b=>b=x) H1 (upd H2 x o):=fun o b u nb e=>by rw[upd_ne nb];exact s2 _ _ (by rw[upd_ne nb];exact e)
 have nt4:∀ b xs,H1 b=some (.tup xs) -> ¬ b=x:=fun b xs e=>ne_of e hx1 (by intro z;cases z)
 have fr5:∀ o b u,b≠x->H b=some u->upd H2 x o b=some u:=fun o b u nb e=>fr4 o b u nb (fr1 b u nb e);refine q _ (fun b=>b=x∨F2 b∨FE b) ⟨t,sp,ve,F2,FE,⟨⟨dx,upd_same⟩,fr5 _ _ _ ntx ht,bf,S2.keep (fr3 _) (fun b hb=>(n2' b hb).2) nt3,hE1.keep (fr4 _) (fun b hb=>(nFE b hb).2) nt4,fun b hb hf=>?_,⟨fun z=>(n2' x z).2 rfl,fun z=>(nFE x z).2 rfl⟩⟩,fun b=>Iff.rfl⟩ (fun b hb=>?_) (fr5 _)
 · obtain⟨o',e',_⟩:=hE1.live hb
   rw[(n2' b hf).1]at e';cases e'
 rcases hb with z | z | z
 · exact .inl z
 · exact .inr (n2'' b z)
 exact .inr (nFE b z).1
theorem q115_(d:Dm K CT "sizes" "Table.sizes" z25_ ["self"])(g:Gs K mg C CT CD cS PS CR CE CP CZ CV)(q78_:Mt P w K mg base C "size" 1 ["self"] (spSSize C)):Mt P w K mg base CT "sizes" 2 ["self"] (spTSizes C CT):=by
 refine d.mt z87_ (fun vs H Q E h=>?_) (fun f cdv A outer s H vs Q E hr h=>?_)
 · obtain⟨p,f,m,pc,M,tc,F,rfl,_⟩:=h
   rfl
 obtain⟨p,f,m,pc,M,tc,F,rfl,S,q⟩:=h;obtain⟨t,n,v,FN,FE,X,hF⟩:=id S;obtain⟨dx,hp⟩:=X.ob;have hel:=X.el;refine⟨_,(B.sone (B.ret (B.tup (B.cons (B.ifx (B.tcmp op_isN (B.fld (B.v 0)) B.non) B.non (B.meth0 (B.fld (B.v 0)) g.cl_Shelf q78_ hr.up)) (B.cons (B.meth0 (B.fld (B.v 0)) g.cl_Shelf q78_ hr.up) B.nil))))),?_⟩;walk_at "W";refine SW.iFld hp g.cl_Table g.n_Table_elder (tfl_elder ..) ?_;walk_at "W";refine⟨rfl,?_⟩;walk_at "W";have two:(2:Nat)<=sizeLine:=by decide
 cases e:M.el with
 | none=>
   rw[e]at hel q;obtain⟨rfl,_⟩:=hel;refine iteT ?_;walk_at "W";refine SW.iFld hp g.cl_Table g.n_Table_newer (tfl_newer ..) ?_;walk_at "W";refine wS X.nw ⟨by decide +kernel,by decide +kernel,by decide +kernel⟩ ?_
   walk_at "W";refine wSSize X.nw ?_;walk_at "W";exact⟨two,fun a ha=>q a ha⟩
 | some EE=>
   rw[e]at hel q;obtain⟨ea,rfl,SE⟩:=hel;refine iteF ?_;walk_at "W";refine SW.iFld hp g.cl_Table g.n_Table_elder (tfl_elder ..) ?_;walk_at "W";refine wS SE ⟨by decide +kernel,by decide +kernel,by decide +kernel⟩ ?_
   walk_at "W";refine wSSize SE ?_;walk_at "W";refine SW.iFld hp g.cl_Table g.n_Table_newer (tfl_newer ..) ?_;walk_at "W";refine wS X.nw ⟨by decide +kernel,by decide +kernel,by decide +kernel⟩ ?_
   walk_at "W";refine wSSize X.nw ?_;walk_at "W";exact⟨two,fun a ha=>q a ha⟩
theorem q117_(d:Dm K CT "touched" "Table.touched" z28_ ["self"])(g:Gs K mg C CT CD cS PS CR CE CP CZ CV):Mt P w K mg base CT "touched" 1 ["self"] (spTTouched C CT):=by
 refine d.mt z90_ (fun vs H Q E h=>?_) (fun f cdv A outer s H vs Q E hr h=>?_)
 · obtain⟨p,f,m,pc,M,tc,F,rfl,_⟩:=h
   rfl
 obtain⟨p,f,m,pc,M,tc,F,rfl,S,q⟩:=h;obtain⟨t,n,v,FN,FE,X,hF⟩:=id S;obtain⟨dx,hp⟩:=X.ob;refine⟨_,(B.sone (B.ret (B.fld (B.v 0)))),?_⟩;walk_at "W";exact⟨p,CT,dx,_,_,rfl,hp,g.cl_Table,g.n_Table_touches,tfl_touches ..,q⟩
def lamP:Pos:=⟨212,42,212,68⟩
def lamQ:Str:=("step":Str) ++ ".<locals>." ++ "<lambda>"
theorem q36_(d:Dfn K mg "place_at" z51_ ["cursor","size"])(g:Gs K mg C CT CD cS PS CR CE CP CZ CV)(q42_:Fn P w K mg base "point_of" 1 ["mark"] spPoint)(q37_:Fn P w K mg base "place_of" 1 ["mark","size"] spPlace):Fn P w K mg base "place_at" 2 ["cursor","size"] spPlaceAt:=by
 refine d.fn z113_ (fun vs H Q E h=>?_) (fun f cdv A outer s H vs Q E hr h=>?_)
 · obtain⟨c,n,rfl,_⟩:=h
   rfl
 obtain⟨c,n,rfl,hn,q⟩:=h;refine⟨_,(B.sone (B.ret (B.fn q37_ hr.up (B.cons (B.fn q42_ hr.up (B.cons (B.v 0) B.nil)) (B.cons (B.v 1) B.nil))))),?_⟩;walk_at "W";refine wPoint ?_;walk_at "W";refine wPlace (by omega) ?_
 walk_at "W";exact q
theorem q3_(d:Dfn K mg "point_behind" z53_ ["place","size"])(g:Gs K mg C CT CD cS PS CR CE CP CZ CV)(q51_:Fn P w K mg base "stretch_of" 2 ["place","size"] spStretch):Fn P w K mg base "point_behind" 3 ["place","size"] spBehind:=by
 refine d.fn z115_ (fun vs H Q E h=>?_) (fun f cdv A outer s H vs Q E hr h=>?_)
 · obtain⟨p,z,rfl,_⟩:=h
   rfl
 obtain⟨p,z,rfl,hz,q⟩:=h;refine⟨_,(B.sone (B.ret (B.op op_mod (B.op op_add (B.ix ix_tup (B.fn q51_ hr.up (B.cons (B.v 0) (B.cons (B.v 1) B.nil))) B.int) B.int) (B.gint g.c_MARKS)))),?_⟩;walk_at "W";refine wStretch ⟨hz.1,by omega⟩ fun t ht=>?_
 walk_at "W";exact q _ (Same.new ht)
theorem q33_(d:Dfn K mg "parts_left" z50_ ["place","size","cursor"])(g:Gs K mg C CT CD cS PS CR CE CP CZ CV)(q51_:Fn P w K mg base "stretch_of" 2 ["place","size"] spStretch):Fn P w K mg base "parts_left" 3 ["place","size","cursor"] spParts:=by
 refine d.fn z112_ (fun vs H Q E h=>?_) (fun f cdv A outer s H vs Q E hr h=>?_)
 · obtain⟨p,z,c,rfl,_⟩:=h
   rfl
 obtain⟨p,z,c,rfl,hz,q⟩:=h;have lim:sizeLine=16777216:=sizeLine_eq;refine⟨_,(B.sone (B.ret (SW.B.compIf [1,2] ["part","size","cursor"] (SW.CompScope.of rfl rfl (by decide +kernel) (by decide +kernel) rfl ⟨rfl,rfl,trivial⟩ rfl rfl rfl) (by decide +kernel) (B.itup (B.tup (B.cons (B.v 0) (B.cons (B.op op_add (B.v 0) (B.v 1)) B.nil)))) (fun _ _ _ _=>(B.tcmp op_ge (B.ix (SW.ix_tupK K) (B.fn q51_ hr.up (B.cons (B.v 0) (B.cons (B.op op_mul (B.v 1) B.int) B.nil))) B.int) (B.v 2))) (fun _ _ _ _=>(B.v 0))))),?_⟩
 walk_at "W";refine⟨by show(2:Nat)<=sizeLine;decide,fun t ht=>?_⟩
 refine⟨t,rfl,⟨_,SqT.of upd_same⟩,fun D hD=>?_⟩;have s1:Same H (upd H t (.tup [.int p,.int (p+z)])):=Same.new ht;have hDn:∀ b o,H b=some o->b≠D:=fun b o e=>ne_of_none e (s1.free hD);have et:upd H t (.tup [.int p,.int (p+z)]) t=some (.tup [.int p,.int (p+z)]):=upd_same;have htD:t≠D:=ne_of_none et hD;have hD0:=s1.free hD;generalize upd H t (.tup [.int p,.int (p+z)])=H1 at *;refine comp_tup (xs:=[p,p+z].map V.int) (fun i σ' H'=>(∃ v:Option V,σ'=[v,some (.int z),some (.int c)])/\Same H1 H'/\H' D=some (.lst ((([p,p+z].take i).filter fun x=>decide (c<=pt x 16+65536 / (z*2) - 1)).map V.int))) ⟨⟨none,rfl⟩,Same.new hD,upd_same⟩ (fun i σ' H' _ ⟨_,s',_⟩=>SqT.of (s' _ _ et)) ?_ ?_
 · rintro i x σ' H' hx hi ⟨⟨v,rfl⟩,s',hD'⟩
   obtain⟨y,rfl⟩:=getInt hx;have hy:[p,p+z][i]?=some y:=by
    rw[List.getElem?_map]at hx;obtain⟨y',e1,e2⟩:=Option.map_eq_some_iff.mp hx;cases e2;exact e1
   have hDn1:∀ b o,H1 b=some o->b≠D:=fun b o e=>ne_of_none e hD;walk_at "W";refine wStretch ⟨by omega,by omega⟩ fun u hu=>?_
   have s2:=Same.new (o:=.tup [.int (pt y 16),.int (pt y 16+65536 / (z*2) - 1)]) hu;walk_at "W";refine ite2 (fun hc=>?_) (fun hc=>?_)
   · walk_at "W"
     refine CN.mk hi (s2 _ _ hD') (by rw[List.length_map];exact Nat.lt_of_le_of_lt (Nat.le_trans (List.length_filter_le ..) (List.length_take_le ..)) (by have:i < 2:=hi;omega)) ⟨⟨_,rfl⟩,fun b o e=>by rw[upd_ne (hDn1 b o e)];exact s2 _ _ (s' _ _ e),?_⟩
     rw[upd_same,take_snocF hy,List.filter_append,List.filter_cons_of_pos (by simpa using hc),List.map_append]
     rfl
   refine CO.mk hi ⟨⟨_,rfl⟩,s'.trans s2,?_⟩;rw[s2 _ _ hD',take_snocF hy,List.filter_append,List.filter_cons_of_neg (by simpa using hc),List.filter_nil,List.append_nil]
 rintro σ' H' ⟨_,s',hD'⟩;walk_at "W";exact q D H' (s1.trans s') hD0 hD'
theorem q49_(d:DfnC K mg "step" z57_ ["table","cursor"] cS)(g:Gs K mg C CT CD cS PS CR CE CP CZ CV)(q89_:Mt P w K mg base CT "shelves" 1 ["self"] (spTShelves C CT))(q78_:Mt P w K mg base C "size" 1 ["self"] (spSSize C))(q76_:Mt P w K mg base C "row" 3 ["self","place"] (spSRow C))
 (q36_:Fn P w K mg base "place_at" 2 ["cursor","size"] spPlaceAt) (q34_:Fn P w K mg base "parts_left" 3 ["place","size","cursor"] spParts) (q41_:Fn P w K mg base "point_behind" 3 ["place","size"] spBehind):Fn P w K mg base "step" 5 ["table","cursor"] (spStep C CT PS lamP lamQ):=by
 refine d.fn z119_ (fun vs H Q E h=>?_) (fun f A outer s H vs Q E hr h=>?_)
 · obtain⟨p,cur,f,m,pc,M,tc,F,rfl,_⟩:=h
   rfl
 obtain⟨p,cur,f,m,pc,M,tc,F,rfl,S,T,R,hcn,L,q⟩:=h;have lim:sizeLine=16777216:=sizeLine_eq;have hz:=lessR_size T;have hzb:=hz.bounds;obtain⟨pl0,pl1⟩:=placeA_lt hz.pos cur;have r0le:((lessR M).getD (placeA (lessR M).length cur).toNat []).length<=100000:=Nat.le_trans (Nat.le_trans (len_le_tot _ _) lessR_le) hcn;refine⟨_,(B.scons (B.set 2 z119_.nd (SW.B.sortK (x:="shelf") (k:=1) g.b_sorted g.lam (hr.mono (by decide)) SW.fs (B.meth0 (B.v 0) g.cl_Table q89_ (hr.mono (by decide))) (fun _ _ _ _ _ _ _ hr2=>(B.meth0 (B.v 0) g.cl_Shelf q78_ (hr2.mono (by decide))))))
  (B.scons (B.set 3 z119_.nd (B.meth0 (B.ix ix_list (B.v 2) B.int) g.cl_Shelf q78_ hr.up))
  (B.scons (B.set 4 z119_.nd (B.fn q36_ hr.up (B.cons (B.v 1) (B.cons (B.v 3) B.nil))))
  (B.scons (B.set 5 z119_.nd (B.meth (B.ix ix_list (B.v 2) B.int) g.cl_Shelf q76_ hr.up (B.cons (B.v 4) B.nil)))
  (B.scons (B.fors (B.ilist (B.slice sl_list (B.v 2) (B.part B.int) B.nopart)) (B.gname (i:=6) z119_.nd) (B.sone (B.fors (B.ilist (B.fn q34_ hr.up (B.cons (B.v 4) (B.cons (B.v 3) (B.cons (B.v 1) B.nil))))) (B.gname (i:=7) z119_.nd) (B.sone (B.expr (B.m PySem.F.plainAttrs_list PySem.F.slot_list_extend PySem.F.type_list_extend mt_extend (B.v 5) (B.cons (B.meth (B.v 6) g.cl_Shelf q76_ hr.up (B.cons (B.v 7) B.nil)) B.nil)))))))
  (B.sone (B.ret (B.tup (B.cons (B.fn q41_ hr.up (B.cons (B.v 4) (B.cons (B.v 3) B.nil))) (B.cons (B.v 5) B.nil)))))))))),?_⟩
 walk_at "W";rename_i N hN;have rest:∀(D a:Addr) (gs:List Addr) (FA:Addr->Prop) (H3:Hp),H3 D=some (.lst (.ref a::gs.map V.ref))->Sh C H3 a f m (lessR M) FA->(gs=[]/\moreR M=none ∨ ∃ b G FB,gs=[b]/\moreR M=some G/\Sh C H3 b f m G FB/\G.length=2*(lessR M).length) ->
  LamH lamP lamQ H3 PS->KeepBut PS H H3->(∀ b,H3 b=none->H b=none)->N [some (.ref p),some (.int cur),some (.ref D),none,none,none,none,none] H3:=by
  intro D a gs FA H3 hD SA hg L3 k3 fr3;refine wGo hN ?_;clear hN;have hat:atI (V.ref a::gs.map V.ref) 0=some (V.ref a):=by unfold atI ixN;rw[if_pos (by decide),if_pos (by simp)];rfl
  walk_at "W";refine wIxL hD hat ?_;refine wS SA ⟨by decide +kernel,by decide +kernel,by decide +kernel⟩ ?_
  walk_at "W";refine wSSize SA ?_;walk_at "W";refine wPlaceAt ⟨by omega,by omega⟩ ?_
  walk_at "W";refine wIxL hD hat ?_;refine wS SA ⟨by decide +kernel,by decide +kernel,by decide +kernel⟩ ?_
  walk_at "W";refine wSRow SA pl0 pl1 fun lp xs0 H4 s4 hlp elp ps4=>?_;walk_at "W";refine⟨1,rfl,D,_,rfl,SqL.of (s4 _ _ hD),fun l2 hl2=>?_⟩;have ecut:cutV (V.ref a::gs.map V.ref) (some 1) none=gs.map V.ref:=by
   rcases hg with ⟨rfl,_⟩ | ⟨b,G,FB,rfl,_⟩ <;> rfl
  rw[ecut];have s5:=Same.new (o:=.lst (gs.map V.ref)) hl2;have e5:upd H4 l2 (.lst (gs.map V.ref)) l2=some (.lst (gs.map V.ref)):=upd_same;have nlp2:lp≠l2:=ne_of_none elp hl2;have elp5:=s5 _ _ elp;have s35:=s4.trans s5;have ps5:=ps4.keep fun a xs e=>s5 _ _ e;generalize upd H4 l2 (.lst (gs.map V.ref))=H5 at *;generalize er0:(lessR M).getD (placeA (lessR M).length cur).toNat []=r0 at *;refine⟨l2,rfl,⟨_,SqL.of e5⟩,?_⟩;refine SW.forListC (xs:=gs.map V.ref) (fun i σ H'=>∃(v6 v7:Option V) (xs:List V),σ=[some (.ref p),some (.int cur),some (.ref D),some (.int ((lessR M).length:Nat)),some (.int (placeA (lessR M).length cur)),some (.ref lp),v6,v7]/\KeepBut lp H5 H'/\H' lp=some (.lst xs) /\
   Prs H' xs (r0++(if i=0 then[]else((moreR M).map fun G=>(partsL (placeA (lessR M).length cur) (lessR M).length cur).flatMap fun x=>G.getD x.toNat []).getD []))) ⟨none,none,xs0,rfl,KeepBut.refl _ _,elp5,by rw[if_pos rfl,List.append_nil];exact ps5⟩ ?_ ?_ ?_
  · rintro i σ H' _ ⟨v6,v7,xs,rfl,k',_⟩
    exact SqL.of (k' _ _ nlp2.symm e5)
  · rintro i x σ H6 hx ⟨v6,v7,xs,rfl,k6,elp6,ps6⟩
    rcases hg with ⟨rfl,_⟩ | ⟨b,G,FB,rfl,eG,SB,lG⟩
    · simp at hx
    obtain rfl:i=0:=by
     have:=(List.getElem?_eq_some_iff.mp hx).1;simp at this;exact this
    obtain rfl:V.ref b=x:=by simpa using hx
    have gle:∀ j:Nat,(G.getD j []).length<=100000:=fun j=>Nat.le_trans (Nat.le_trans (len_le_tot _ _) (moreR_le eG)) hcn;rw[if_pos rfl,List.append_nil]at ps6;have np:∀ b,Own3 H3 b->b≠lp:=fun b z y=>by
     subst y;rcases z with ⟨_,_,_,e⟩ | ⟨_,e⟩ | ⟨_,e⟩ <;> rw[hlp]at e <;> cases e
    have SB6:Sh C H6 b f m G FB:=(SB.same s35).keep k6.fr' (fun c hc z=>np c (SB.own3 hc) z) fun c xs e z=>by rw[z,elp5]at e;cases e
    walk_at "W";refine wParts ⟨by omega,by omega⟩ fun l7 H7 s7 hl7 el7=>?_
    have nlp7:lp≠l7:=ne_of_none elp6 hl7;have SB7:=SB6.same s7;have elp7:=s7 _ _ elp6;have ps7:=ps6.keep fun a xs e=>s7 _ _ e;have k7:KeepBut lp H5 H7:=k6.trans (Same.but s7);walk_at "W";refine⟨l7,rfl,⟨_,SqL.of el7⟩,?_⟩;refine SW.forListC (xs:=(partsL (placeA (lessR M).length cur) (lessR M).length cur).map V.int) (fun j σ H'=>∃(v7:Option V) (ys:List V),σ=[some (.ref p),some (.int cur),some (.ref D),some (.int ((lessR M).length:Nat)),some (.int (placeA (lessR M).length cur)),some (.ref lp),some (.ref b),v7]/\KeepBut lp H7 H'/\H' lp=some (.lst ys) /\
     Prs H' ys (r0++((partsL (placeA (lessR M).length cur) (lessR M).length cur).take j).flatMap fun x=>G.getD x.toNat [])/\ys.length<=100000*(1+j)) ⟨_,xs,rfl,KeepBut.refl _ _,elp7,by simpa using ps7,by rw[ps7.len];omega⟩ ?_ ?_ ?_
    · rintro j σ H' _ ⟨v7,ys,rfl,k',_⟩
      exact SqL.of (k' _ _ nlp7.symm el7)
    · rintro j y σ H8 hy ⟨v7,ys,rfl,k8,elp8,ps8,ly⟩
      obtain⟨z,rfl⟩:=getInt hy;have hz8:(partsL (placeA (lessR M).length cur) (lessR M).length cur)[j]?=some z:=by
       rw[List.getElem?_map]at hy;obtain⟨y',e1,e2⟩:=Option.map_eq_some_iff.mp hy;cases e2;exact e1
      have hzm:=partsL_mem (List.mem_of_getElem? hz8);have hj2:j < 2:=Nat.lt_of_lt_of_le (List.getElem?_eq_some_iff.mp hz8).1 (partsL_len _ _ _);have z0:0<=z:=by omega
      have z1:z < G.length:=by omega
      have SB8:Sh C H8 b f m G FB:=SB7.keep k8.fr' (fun c hc y=>np c (SB.own3 hc) y) fun c xs e y=>by rw[y,elp7]at e;cases e
      walk_at "W";refine wBM ?_;walk_at "W";refine⟨.inl ⟨rfl,_,SqL.of elp8⟩,?_⟩;walk_at "W";refine wS SB8 ⟨by decide +kernel,by decide +kernel,by decide +kernel⟩ ?_
      walk_at "W";refine wSRow SB8 z0 z1 fun l9 zs H9 s9 hl9 el9 ps9=>?_;have elp9:=s9 _ _ elp8;have gl:=gle z.toNat;have lz:=ps9.len;walk_at "W";refine⟨lp,l9,ys,zs,rfl,rfl,elp9,el9,by omega,?_⟩
      have ktp:∀ c xs,H9 c=some (.tup xs)->upd H9 lp (.lst (ys++zs)) c=some (.tup xs):=fun c xs e=>by
       rw[upd_ne (fun y=>by rw[y,elp9]at e;cases e)];exact e
      walk_at "W";refine⟨_,ys++zs,rfl,(k8.trans (Same.but s9)).trans KeepBut.at,upd_same,?_,by rw[List.length_append];omega⟩
      rw[flat_snoc hz8,← List.append_assoc];exact paired_append (ps9.keep ktp) ((ps8.keep fun a xs e=>s9 _ _ e).keep ktp)
    rintro σ H8 ⟨v7,ys,rfl,k8,elp8,ps8,ly⟩;walk_at "W";refine⟨_,_,ys,rfl,k7.trans k8,elp8,?_⟩;rw[if_neg (by omega),eG]
    rw[List.length_map,List.take_of_length_le (Nat.le_refl _)]at ps8;exact ps8
  rintro σ H6 ⟨v6,v7,xs,rfl,k6,elp6,ps6⟩;have hfin:r0++(if gs.length=0 then[]else((moreR M).map fun G=>(partsL (placeA (lessR M).length cur) (lessR M).length cur).flatMap fun x=>G.getD x.toNat []).getD [])=r0++((moreR M).map fun G=>(partsL (placeA (lessR M).length cur) (lessR M).length cur).flatMap fun x=>G.getD x.toNat []).getD []:=by
   rcases hg with ⟨rfl,e⟩ | ⟨b,G,FB,rfl,_⟩
   · rw[e];rfl
   rfl
  rw[List.length_map,hfin]at ps6;walk_at "W";refine wBehind ⟨by omega,by omega⟩ fun H7 s7=>?_
  walk_at "W";refine⟨by show(2:Nat)<=sizeLine;decide,fun t ht=>?_⟩
  have s8:=Same.new (o:=.tup [.int (behindA (placeA (lessR M).length cur) (lessR M).length),.ref lp]) ht;have s78:=s7.trans s8;have h6t:=s7.free ht;have h5t:H5 t=none:=by
   cases e:H5 t with
   | none=>rfl
   | some o=>
     by_cases y:t=lp
     · rw[y,elp6]at h6t;cases h6t
     rw[k6 _ _ y e]at h6t;cases h6t
  exact q t lp xs _ (((L3.same s35).but elp5 k6).same s78) (fun b o n e=>s78 _ _ (k6 b o (ne_of_none (k3 b o n e) hlp) (s35 _ _ (k3 b o n e)))) (fr3 _ hlp) (fr3 _ (s35.free h5t)) upd_same (s78 _ _ elp6) (by unfold stepR;rw[er0];exact ps6.keep fun a xs e=>s78 _ _ e)
 clear hN;have fr:∀ H3:Hp,LamH lamP lamQ H3 PS->KeepBut PS H H3 -> ∀ b,H3 b=none->H b=none:=fun H3 L3 k3 b hb=>by
  cases e:H b with
  | none=>rfl
  | some o=>
    by_cases y:b=PS
    · exact absurd (y ▸ hb) L3.live
    rw[k3 b o y e]at hb;cases hb
 obtain⟨t0,n,v,FN,FE,X,hF⟩:=id S;have hel:=X.el;refine wSortK ?_;walk_at "W";refine wT S nt_shelves ?_;walk_at "W";refine wTShelves X fun l hl=>?_;cases e:M.el with
 | none=>
   have e1:lessR M=M.nw:=by unfold lessR;rw[e]
   have e2:moreR M=none:=by unfold moreR;rw[e];rfl
   have s1:=Same.new (o:=.lst [.ref n]) hl;have L1:=L.same s1;refine⟨l,[.ref n],[((M.nw.length:Nat):Int)],rfl,upd_same,rfl,by show(1:Nat) < 64;decide,L1,fun H2 L2 k2=>?_⟩
   have SN2:=(X.nw.same s1).lam L1 k2;refine⟨fun i u k hu hk=>?_,fun D out hD hs=>?_⟩
   · match i,hu,hk with
     | 0,hu,hk=>
       obtain rfl:V.ref n=u:=Option.some.inj hu;obtain rfl:((M.nw.length:Nat):Int)=k:=Option.some.inj hk;walk_at "W";refine wS SN2 ⟨by decide +kernel,by decide +kernel,by decide +kernel⟩ ?_
       walk_at "W";exact wSSize SN2 ⟨rfl,rfl⟩
   obtain rfl:=hs.one;have s3:=Same.new (o:=.lst [.ref n]) hD;have L3:=L2.same s3;have k3:KeepBut PS H _:=fun b o nb eb=>s3 _ _ (k2 b o nb (s1 _ _ eb));walk_at "W";exact rest D n [] FN _ upd_same (e1 ▸ SN2.same s3) (.inl ⟨rfl,e2⟩) L3 k3 (fr _ L3 k3)
 | some E=>
   rw[e]at hel;obtain⟨a,rfl,SE⟩:=hel;have hE:=Rat.two T R e;have s1:=Same.new (o:=.lst [.ref a,.ref n]) hl;have L1:=L.same s1;refine⟨l,[.ref a,.ref n],[((E.length:Nat):Int),((M.nw.length:Nat):Int)],rfl,upd_same,rfl,by show(2:Nat) < 64;decide,L1,fun H2 L2 k2=>?_⟩
   have SN2:=(X.nw.same s1).lam L1 k2;have SE2:=(SE.same s1).lam L1 k2;refine⟨fun i u k hu hk=>?_,fun D out hD hs=>?_⟩
   · match i,hu,hk with
     | 0,hu,hk=>
       obtain rfl:V.ref a=u:=Option.some.inj hu;obtain rfl:((E.length:Nat):Int)=k:=Option.some.inj hk;walk_at "W";refine wS SE2 ⟨by decide +kernel,by decide +kernel,by decide +kernel⟩ ?_
       walk_at "W";exact wSSize SE2 ⟨rfl,rfl⟩
     | 1,hu,hk=>
       obtain rfl:V.ref n=u:=Option.some.inj hu;obtain rfl:((M.nw.length:Nat):Int)=k:=Option.some.inj hk;walk_at "W";refine wS SN2 ⟨by decide +kernel,by decide +kernel,by decide +kernel⟩ ?_
       walk_at "W";exact wSSize SN2 ⟨rfl,rfl⟩
   rcases hE with ⟨h1,h2,h3,h4⟩ | ⟨h1,h2,h3,h4⟩
   · rcases hs.two (by omega)with ⟨y,rfl⟩ | ⟨y,rfl⟩
     · have s3:=Same.new (o:=.lst [.ref a,.ref n]) hD
       have L3:=L2.same s3;have k3:KeepBut PS H _:=fun b o nb eb=>s3 _ _ (k2 b o nb (s1 _ _ eb));walk_at "W";exact rest D a [n] FE _ upd_same (h2 ▸ SE2.same s3) (.inr ⟨n,M.nw,FN,rfl,h3,SN2.same s3,by rw[h2];exact h4⟩) L3 k3 (fr _ L3 k3)
     omega
   rcases hs.two (by omega)with ⟨y,rfl⟩ | ⟨y,rfl⟩
   · omega
   have s3:=Same.new (o:=.lst [.ref n,.ref a]) hD;have L3:=L2.same s3;have k3:KeepBut PS H _:=fun b o nb eb=>s3 _ _ (k2 b o nb (s1 _ _ eb));walk_at "W";exact rest D n [a] FN _ upd_same (h2 ▸ SN2.same s3) (.inr ⟨a,E,FE,rfl,h3,SE2.same s3,by rw[h2];exact h4⟩) L3 k3 (fr _ L3 k3)
def spFigs:Sp:=fun vs H Q _=>∃ m:Nat,vs=[.str (fg m)]/\m < 10 ^ 10 /\ ∀ H',Same H H'->Q (.bl true) H'
theorem wFigs{m:Nat}{H:Hp}{Q:VK}{E:XK}(h:m < 10 ^ 10)(k:∀ H',Same H H'->Q (.bl true) H'):spFigs ([.str (fg m)]++[]) H Q E:=⟨m,rfl,h,k⟩
def spNumber:Sp:=fun vs H Q _=>∃ i:Int,vs=[.str (tx i)]/\i.natAbs < 10 ^ 10 /\ ∀ H',Same H H'->Q (.int i) H'
theorem wNumber{i:Int}{H:Hp}{Q:VK}{E:XK}(h:i.natAbs < 10 ^ 10)(k:∀ H',Same H H'->Q (.int i) H'):spNumber ([.str (tx i)]++[]) H Q E:=⟨i,rfl,h,k⟩
def spIn44(lo hi:Int):Sp:=fun vs H Q _=>∃ i:Int,vs=[.int i]/\lo<=i/\i<=hi/\Q (.bl true) H
theorem wIn44{lo hi i:Int}{H:Hp}{Q:VK}{E:XK}(h0:lo<=i)(h1:i<=hi)(k:Q (.bl true) H):spIn44 lo hi ([.int i]++[]) H Q E:=⟨i,rfl,h0,h1,k⟩
theorem q6_(d:Dfn K mg "are_figures" z31_ ["text"])(g:Gs K mg C CT CD cS PS CR CE CP CZ CV):Fn P w K mg base "are_figures" 1 ["text"] spFigs:=by
 refine d.fn z93_ (fun vs H Q E h=>?_) (fun f' cdv A outer st H vs Q E hr h=>?_)
 · obtain⟨m,rfl,_⟩:=h
   rfl
 obtain⟨m,rfl,hm,k⟩:=h;have lim:sizeLine=16777216:=sizeLine_eq;obtain⟨l1,l2⟩:=fg_len hm;refine⟨_,(B.scons (B.ifs (B.tw (B.wor (B.tnot (B.tchain op_le op_le B.int (B.cB call_len_str g.b_len SW.b_len (B.cons (B.v 0) B.nil)) (B.gint g.c_MOST_FIGURES))) (B.wor1 (B.tnot (B.tval (B.cB SW.call_allL g.b_all SW.b_all (B.cons (SW.B.comp [] ["sign"] (SW.CompScope.of rfl rfl (by decide +kernel) (by decide +kernel) rfl trivial rfl rfl rfl) (by decide +kernel) (SW.B.istr (B.v 0)) (fun _ _ _ _=>(B.cmpI op_in_str (B.v 0) (SW.B.gstr g.c_FIGURES)))) B.nil))))))) (B.sone (B.ret B.bl)) B.snil)
  (B.sone (B.ret (B.or (B.cmp op_eq (B.v 0) B.str) (B.one (B.not (B.m PySem.F.plainAttrs_str PySem.F.slot_str_startswith PySem.F.type_str_startswith SW.mt_startswith (B.v 0) (B.cons B.str B.nil)))))))),?_⟩
 walk_at "W";refine⟨_,rfl,by omega,?_⟩
 walk_at "W";refine iteY (by omega) ?_
 walk_at "W";refine iteNS (by omega) ?_
 walk_at "W";refine wIStr ?_;walk_at "W";refine⟨_,rfl,fg_ascii m,fun D hD=>?_⟩;have hsz:(fg m).cps.size=(fg m).length:=rfl;refine comp_strU (fun i σ' H'=>∃ v:Option V,σ'=[v]/\Same H H'/\H' D=some (.lst ((List.replicate i true).map V.bl))) ⟨none,rfl,Same.new hD,upd_same⟩ ?_ ?_
 · rintro i σ' H' hi ⟨v,rfl,s',hD'⟩
   walk_at "W";refine⟨_,_,rfl,rfl,?_⟩;rw[fg_sign hi];refine CN.mk hi hD' (by rw[List.length_map,List.length_replicate];omega) ⟨_,rfl,fun b o e=>by rw[upd_ne (ne_of_none e hD)];exact s' _ _ e,?_⟩
   rw[upd_same,List.replicate_succ',List.map_append]
   rfl
 rintro σ' H' ⟨v,rfl,s',hD'⟩;walk_at "W";refine⟨D,_,rfl,SqL.of hD',rfl,?_⟩;have ha:(List.replicate (fg m).cps.size true).all id=true:=List.all_eq_true.mpr fun b hb=>by rw[List.eq_of_mem_replicate hb];rfl
 rw[ha];walk_at "W";refine iteF ?_;walk_at "W";refine⟨rfl,?_⟩;refine⟨_,rfl,?_⟩;by_cases h0:fg m=Str.ofString "0"
 · exact iteY (by rw[h0]) (k H' s')
 refine iteNo (fun z=>h0 (by injection z)) ?_
 walk_at "W";refine wBM ?_;walk_at "W";refine⟨rfl,?_⟩;walk_at "W";refine⟨_,_,rfl,rfl,?_⟩;rw[(fg_nought m).resolve_left h0];walk_at "W";exact k H' s'
theorem q28_(d:Dfn K mg "number_of" z49_ ["word"])(g:Gs K mg C CT CD cS PS CR CE CP CZ CV)(q2_:Fn P w K mg base "are_figures" 1 ["text"] spFigs):Fn P w K mg base "number_of" 2 ["word"] spNumber:=by
 refine d.fn z111_ (fun vs H Q E h=>?_) (fun f' cdv A outer st H vs Q E hr h=>?_)
 · obtain⟨i,rfl,_⟩:=h
   rfl
 obtain⟨i,rfl,hi,k⟩:=h;have lim:sizeLine=16777216:=sizeLine_eq;refine⟨_,(B.scons (B.set 1 z111_.nd (B.ifx (B.tval (B.m PySem.F.plainAttrs_str PySem.F.slot_str_startswith PySem.F.type_str_startswith SW.mt_startswith (B.v 0) (B.cons B.str B.nil))) (B.slice SW.sl_str (B.v 0) (B.part B.int) B.nopart) (B.v 0)))
  (B.scons (B.ifs (B.tw (B.wor (B.tnot (B.tval (B.fn q2_ hr.up (B.cons (B.v 1) B.nil)))) (B.wor1 (B.tcmp op_eq (B.v 0) B.str)))) (B.sone (B.ret B.non)) B.snil)
  (B.sone (B.ret (B.cT SW.call_intT g.b_int SW.b_int (B.cons (B.v 0) B.nil)))))),?_⟩
 walk_at "W";rename_i N hN;have rest:N [some (.str (tx i)),some (.str (fg i.natAbs))] H:=by
  refine SW.wGo hN ?_;walk_at "W";refine wFigs hi fun H1 s1=>?_;walk_at "W";refine iteF ?_;walk_at "W";refine⟨rfl,?_⟩;walk_at "W";refine iteNo (fun z=>tx_ne_m0 i (by injection z)) ?_
  walk_at "W";refine⟨_,i,rfl,Nat.le_trans (tx_len hi) (by decide),tx_reads hi,?_⟩
  walk_at "W";exact k H1 s1
 clear hN;refine wBM ?_;walk_at "W";refine⟨rfl,?_⟩;walk_at "W";refine⟨_,_,rfl,rfl,?_⟩;rw[tx_minus];walk_at "W";by_cases hneg:i < 0
 · refine iteY hneg ?_
   walk_at "W";refine⟨1,rfl,?_⟩;walk_at "W";refine⟨_,rfl,?_,?_⟩
   · rw[tx_cut hneg]
     have:=(fg_len hi).2;omega
   rw[tx_cut hneg];walk_at "W";exact rest
 refine iteNo hneg ?_;walk_at "W";rw[← tx_pos (by omega)]at rest
 exact rest
theorem q16_(d:Dfn K mg "is_key" z33_ ["thing"])(g:Gs K mg C CT CD cS PS CR CE CP CZ CV)(q14_:Fn P w K mg base "is_whole" 1 ["thing"] spWhole):Fn P w K mg base "is_key" 2 ["thing"] (spIn44 0 1000000000):=by
 refine d.fn z95_ (fun vs H Q E h=>?_) (fun f' cdv A outer st H vs Q E hr h=>?_)
 · obtain⟨i,rfl,_⟩:=h
   rfl
 obtain⟨i,rfl,h0,h1,k⟩:=h;refine⟨_,(B.sone (B.ret (B.and (B.fn q14_ hr.up (B.cons (B.v 0) B.nil)) (B.one (B.chain op_le op_le B.int (B.v 0) (B.gint g.c_GREATEST)))))),?_⟩;walk_at "W";refine⟨i,rfl,?_⟩;walk_at "W";refine iteT ?_;walk_at "W";refine iteY (by omega) ?_
 walk_at "W";rw[decide_eq_true (by omega)]
 exact k
theorem q63_(d:Dfn K mg "is_worth" z40_ ["thing"])(g:Gs K mg C CT CD cS PS CR CE CP CZ CV)(q14_:Fn P w K mg base "is_whole" 1 ["thing"] spWhole):Fn P w K mg base "is_worth" 2 ["thing"] (spIn44 (-1000000000) 1000000000):=by
 refine d.fn z102_ (fun vs H Q E h=>?_) (fun f' cdv A outer st H vs Q E hr h=>?_)
 · obtain⟨i,rfl,_⟩:=h
   rfl
 obtain⟨i,rfl,h0,h1,k⟩:=h;refine⟨_,(B.sone (B.ret (B.and (B.fn q14_ hr.up (B.cons (B.v 0) B.nil)) (B.one (B.chain op_le op_le (B.un un_neg (B.gint g.c_GREATEST)) (B.v 0) (B.gint g.c_GREATEST)))))),?_⟩;walk_at "W";refine⟨i,rfl,?_⟩;walk_at "W";refine iteT ?_;walk_at "W";refine iteY (by omega) ?_
 walk_at "W";rw[decide_eq_true (by omega)]
 exact k
theorem q26_(d:Dfn K mg "is_mixer_part" z34_ ["thing"])(g:Gs K mg C CT CD cS PS CR CE CP CZ CV)(q14_:Fn P w K mg base "is_whole" 1 ["thing"] spWhole):Fn P w K mg base "is_mixer_part" 2 ["thing"] (spIn44 0 65535):=by
 refine d.fn z96_ (fun vs H Q E h=>?_) (fun f' cdv A outer st H vs Q E hr h=>?_)
 · obtain⟨i,rfl,_⟩:=h
   rfl
 obtain⟨i,rfl,h0,h1,k⟩:=h;refine⟨_,(B.sone (B.ret (B.and (B.fn q14_ hr.up (B.cons (B.v 0) B.nil)) (B.one (B.chain op_le op_le B.int (B.v 0) (B.gint g.c_GREATEST_MIXER_PART)))))),?_⟩;walk_at "W";refine⟨i,rfl,?_⟩;walk_at "W";refine iteT ?_;walk_at "W";refine iteY (by omega) ?_
 walk_at "W";rw[decide_eq_true (by omega)]
 exact k
theorem q31_(d:Dfn K mg "is_pace" z35_ ["thing"])(g:Gs K mg C CT CD cS PS CR CE CP CZ CV)(q14_:Fn P w K mg base "is_whole" 1 ["thing"] spWhole):Fn P w K mg base "is_pace" 2 ["thing"] (spIn44 1 8):=by
 refine d.fn z97_ (fun vs H Q E h=>?_) (fun f' cdv A outer st H vs Q E hr h=>?_)
 · obtain⟨i,rfl,_⟩:=h
   rfl
 obtain⟨i,rfl,h0,h1,k⟩:=h;refine⟨_,(B.sone (B.ret (B.and (B.fn q14_ hr.up (B.cons (B.v 0) B.nil)) (B.one (B.chain op_le op_le B.int (B.v 0) (B.gint g.c_GREATEST_PACE)))))),?_⟩;walk_at "W";refine⟨i,rfl,?_⟩;walk_at "W";refine iteT ?_;walk_at "W";refine iteY (by omega) ?_
 walk_at "W";rw[decide_eq_true (by omega)]
 exact k
theorem q39_(d:Dfn K mg "is_point" z36_ ["thing"])(g:Gs K mg C CT CD cS PS CR CE CP CZ CV)(q14_:Fn P w K mg base "is_whole" 1 ["thing"] spWhole):Fn P w K mg base "is_point" 2 ["thing"] (spIn44 0 65535):=by
 refine d.fn z98_ (fun vs H Q E h=>?_) (fun f' cdv A outer st H vs Q E hr h=>?_)
 · obtain⟨i,rfl,_⟩:=h
   rfl
 obtain⟨i,rfl,h0,h1,k⟩:=h;refine⟨_,(B.sone (B.ret (B.and (B.fn q14_ hr.up (B.cons (B.v 0) B.nil)) (B.one (B.chain op_le op_le B.int (B.v 0) (B.gint g.c_LAST_POINT)))))),?_⟩;walk_at "W";refine⟨i,rfl,?_⟩;walk_at "W";refine iteT ?_;walk_at "W";refine iteY (by omega) ?_
 walk_at "W";rw[decide_eq_true (by omega)]
 exact k
theorem ok_lawX(a:True):True:=by
 have:=@q6_;have:=@q28_;have:=@q16_;have:=@q63_;have:=@q26_;have:=@q31_;have:=@q39_
 trivial
inductive Such:PySem.Str->List Int->Prop
 | table {a b p:Int} (h1:0<=a) (h2:a<=65535) (h3:0<=b) (h4:b<=65535) (h5:1<=p) (h6:p<=8):Such "table" [a,b,p]
 | put {k v:Int} (h1:0<=k) (h2:k<=1000000000) (h3:-1000000000<=v) (h4:v<=1000000000):Such "put" [k,v]
 | look {k:Int} (h1:0<=k) (h2:k<=1000000000):Such "look" [k]
 | cut {k:Int} (h1:0<=k) (h2:k<=1000000000):Such "cut" [k]
 | step {c:Int} (h1:0<=c) (h2:c<=65535):Such "step" [c]
 | keys:Such "keys" []
 | places:Such "places" []
 | touched:Such "touched" []
def spSuch:Sp:=fun vs H Q _=>∃(wd:PySem.Str) (l:Addr) (ns:List Int),vs=[.str wd,.ref l]/\Such wd ns/\H l=some (.lst (ns.map V.int)) /\ ∀ H',Same H H'->Q (.bl true) H'
theorem wSuch{wd:PySem.Str}{l:Addr}{ns:List Int}{H:Hp}{Q:VK}{E:XK}(h1:Such wd ns)(h2:H l=some (.lst (ns.map V.int)))(k:∀ H',Same H H'->Q (.bl true) H'):spSuch ([.str wd,.ref l]++[]) H Q E:=⟨wd,l,ns,rfl,h1,h2,k⟩
theorem sne{a b:String}(h:(PySem.Str.ofString a == PySem.Str.ofString b)=false):¬ V.str (PySem.Str.ofString a)=V.str (PySem.Str.ofString b):=fun z=>by
 injection z with z;rw[z,beq_self_eq_true]at h;cases h
theorem log_small{v:Int}(h:v.natAbs < 10 ^ 10):v.natAbs.log2 < 1920:=by
 by_cases z:v.natAbs=0
 · rw[z];decide
 exact Nat.lt_trans ((Nat.log2_lt z).mpr (show v.natAbs < 2 ^ 40 from Nat.lt_trans h (by decide))) (by decide)
def spTxWorth:Sp:=fun vs H Q _=>∃ o:Option Int,vs=[oV o]/\(∀ v,o=some v->v.natAbs < 10 ^ 10)/\Q (.str (wTx o)) H
theorem wTxWorth{o:Option Int}{H:Hp}{Q:VK}{E:XK}(h:∀ v,o=some v->v.natAbs < 10 ^ 10)(k:Q (.str (wTx o)) H):spTxWorth ([oV o]++[]) H Q E:=⟨o,rfl,h,k⟩
def spTxSizes:Sp:=fun vs H Q _=>∃(a:Addr) (e:Option Nat) (n:Nat),vs=[.ref a]/\H a=some (.tup [oN e,.int (n:Nat)])/\(∀ x,e=some x->x<=4096)/\n<=4096 /\ ∀ H',Same H H'->Q (.str (szTx e n)) H'
def szW(e:Option Nat)(n:Nat):Nat->List PySem.Str
 | 0=>[]
 | 1=>match e with | none=>[] | some x=>[tx (x:Int)]
 | _+2=>(match e with | none=>[] | some x=>[tx (x:Int)])++[tx (n:Int)]
theorem wTxSizes{a:Addr}{e:Option Nat}{n:Nat}{H:Hp}{Q:VK}{E:XK}(h1:H a=some (.tup [oN e,.int (n:Nat)]))(h2:∀ x,e=some x->x<=4096)(h3:n<=4096)(k:∀ H',Same H H'->Q (.str (szTx e n)) H'):spTxSizes ([.ref a]++[]) H Q E:=⟨a,e,n,rfl,h1,h2,h3,k⟩
def spTxStep:Sp:=fun vs H Q _=>∃(a l:Addr) (b:Int) (xs:List V) (ps:MRow),vs=[.ref a]/\H a=some (.tup [.int b,.ref l])/\H l=some (.lst xs)/\Prs H xs ps/\b.natAbs < 10 ^ 10/\(∀ p∈ps,p.1.natAbs < 10 ^ 10/\p.2.natAbs < 10 ^ 10)/\ps.length<=5000 /\ ∀ H',Same H H'->Q (.str (stTx b ps)) H'
theorem wTxStep{a l:Addr}{b:Int}{xs:List V}{ps:MRow}{H:Hp}{Q:VK}{E:XK}(h1:H a=some (.tup [.int b,.ref l]))(h2:H l=some (.lst xs))(h3:Prs H xs ps)(h4:b.natAbs < 10 ^ 10)(h5:∀ p∈ps,p.1.natAbs < 10 ^ 10/\p.2.natAbs < 10 ^ 10)(h6:ps.length<=5000)(k:∀ H',Same H H'->Q (.str (stTx b ps)) H'):spTxStep ([.ref a]++[]) H Q E:=⟨a,l,b,xs,ps,rfl,h1,h2,h3,h4,h5,h6,k⟩
theorem q52_(d:Dfn K mg "is_such_row" z38_ ["word","numbers"])(g:Gs K mg C CT CD cS PS CR CE CP CZ CV)(q8_:Fn P w K mg base "is_key" 2 ["thing"] (spIn44 0 1000000000))(q15_:Fn P w K mg base "is_worth" 2 ["thing"] (spIn44 (-1000000000) 1000000000))(q9_:Fn P w K mg base "is_mixer_part" 2 ["thing"] (spIn44 0 65535))(q10_:Fn P w K mg base "is_pace" 2 ["thing"] (spIn44 1 8))(q11_:Fn P w K mg base "is_point" 2 ["thing"] (spIn44 0 65535)):Fn P w K mg base "is_such_row" 3 ["word","numbers"] spSuch:=by
 refine d.fn z100_ (fun vs H Q E h=>?_) (fun f' cdv A outer st H vs Q E hr h=>?_)
 · obtain⟨wd,l,ns,rfl,_⟩:=h
   rfl
 obtain⟨wd,l,ns,rfl,hs,hl,k⟩:=h;refine⟨_,(B.scons (B.ifs (B.tcmp op_eq (B.v 0) B.str) (B.sone (B.ret (B.and (B.cmp op_eq (B.cB call_len_seq g.b_len SW.b_len (B.cons (B.v 1) B.nil)) B.int) (B.and (B.cB SW.call_allL g.b_all SW.b_all (B.cons (SW.B.comp [] ["part"] (SW.CompScope.of rfl rfl (by decide +kernel) (by decide +kernel) rfl trivial rfl rfl rfl) (by decide +kernel) (B.ilist (B.slice sl_list (B.v 1) B.nopart (B.part B.int))) (fun _ _ _ _=>(B.fn q9_ hr.up (B.cons (B.v 0) B.nil)))) B.nil)) (B.one (B.fn q10_ hr.up (B.cons (B.ix ix_list (B.v 1) B.int) B.nil))))))) B.snil)
  (B.scons (B.ifs (B.tcmp op_eq (B.v 0) B.str) (B.sone (B.ret (B.and (B.cmp op_eq (B.cB call_len_seq g.b_len SW.b_len (B.cons (B.v 1) B.nil)) B.int) (B.and (B.fn q8_ hr.up (B.cons (B.ix ix_list (B.v 1) B.int) B.nil)) (B.one (B.fn q15_ hr.up (B.cons (B.ix ix_list (B.v 1) B.int) B.nil))))))) B.snil)
  (B.scons (B.ifs (B.tcmpI op_in_seq (B.v 0) (B.tup (B.cons B.str (B.cons B.str B.nil)))) (B.sone (B.ret (B.and (B.cmp op_eq (B.cB call_len_seq g.b_len SW.b_len (B.cons (B.v 1) B.nil)) B.int) (B.one (B.fn q8_ hr.up (B.cons (B.ix ix_list (B.v 1) B.int) B.nil)))))) B.snil)
  (B.scons (B.ifs (B.tcmp op_eq (B.v 0) B.str) (B.sone (B.ret (B.and (B.cmp op_eq (B.cB call_len_seq g.b_len SW.b_len (B.cons (B.v 1) B.nil)) B.int) (B.one (B.fn q11_ hr.up (B.cons (B.ix ix_list (B.v 1) B.int) B.nil)))))) B.snil)
  (B.sone (B.ret (B.and (B.cmpI op_in_seq (B.v 0) (B.tup (B.cons B.str (B.cons B.str (B.cons B.str B.nil))))) (B.one (B.cmp op_eq (B.cB call_len_seq g.b_len SW.b_len (B.cons (B.v 1) B.nil)) B.int))))))))),?_⟩
 cases hs with
 | @table a b p h1 h2 h3 h4 h5 h6=>
   walk_at "W";refine⟨rfl,?_⟩;walk_at "W";refine iteY rfl ?_;walk_at "W";refine SW.iLen (.inl (SqL.of hl)) ?_;walk_at "W";refine iteY rfl ?_;walk_at "W";refine⟨2,rfl,l,_,rfl,SqL.of hl,fun l1 hl1=>?_⟩;have ec:cutV ([a,b,p].map V.int) none (some 2)=[V.int a,V.int b]:=rfl;rw[ec];have s1:=Same.new (o:=.lst [V.int a,V.int b]) hl1;have el1:upd H l1 (.lst [V.int a,V.int b]) l1=some (.lst [V.int a,V.int b]):=upd_same;generalize upd H l1 (.lst [V.int a,V.int b])=H1 at *;refine⟨l1,rfl,⟨_,SqL.of el1⟩,fun D hD=>?_⟩;refine comp_listU (xs:=[V.int a,V.int b]) (fun i σ' H'=>∃ v:Option V,σ'=[v]/\Same H1 H'/\H' D=some (.lst ((List.replicate i true).map V.bl))) ⟨none,rfl,Same.new hD,upd_same⟩ (fun i σ' H' _ ⟨v,_,s',_⟩=>SqL.of (s' _ _ el1)) ?_ ?_
   · rintro i x σ' H' hx hi ⟨v,rfl,s',hD'⟩
     obtain⟨z,rfl,z0,z1⟩:∃ z:Int,x=V.int z/\0<=z/\z<=65535:=by
      match i,hx with
      | 0,hx=>cases hx;exact⟨a,rfl,h1,h2⟩
      | 1,hx=>cases hx;exact⟨b,rfl,h3,h4⟩
     walk_at "W";refine wIn44 z0 z1 ?_;refine CN.mk hi hD' (by rw[List.length_map,List.length_replicate];have:i < 2:=hi;have:sizeLine=16777216:=sizeLine_eq;omega) ⟨_,rfl,fun b o e=>by rw[upd_ne (ne_of_none e hD)];exact s' _ _ e,?_⟩
     rw[upd_same,List.replicate_succ',List.map_append]
     rfl
   rintro σ' H' ⟨v,rfl,s',hD'⟩;walk_at "W";refine⟨D,_,rfl,SqL.of hD',rfl,?_⟩;rw[show(List.replicate [V.int a,V.int b].length true).all id=true from rfl];refine⟨_,rfl,?_⟩;refine iteT ?_;have hl':=(s1.trans s') _ _ hl;walk_at "W";exact wIn44 h5 h6 (k H' (s1.trans s'))
 | put h1 h2 h3 h4=>
   walk_at "W";refine⟨rfl,?_⟩;walk_at "W";refine iteNo (sne (by decide)) ?_
   walk_at "W";refine⟨rfl,?_⟩;walk_at "W";refine iteY rfl ?_;walk_at "W";refine SW.iLen (.inl (SqL.of hl)) ?_;walk_at "W";refine iteY rfl ?_;walk_at "W";refine wIn44 h1 h2 ?_;walk_at "W";refine iteT ?_;walk_at "W";exact wIn44 h3 h4 (k H (fun _ _ e=>e))
 | look h1 h2=>
   walk_at "W";refine⟨rfl,?_⟩;walk_at "W";refine iteNo (sne (by decide)) ?_
   walk_at "W";refine⟨rfl,?_⟩;walk_at "W";refine iteNo (sne (by decide)) ?_
   walk_at "W";refine⟨by show(2:Nat)<=sizeLine;decide,fun q1 hq1=>?_⟩
   have s1:=Same.new (o:=.tup [.str "look",.str "cut"]) hq1;walk_at "W";refine⟨q1,_,rfl,.inr (SqT.of upd_same),rfl,rfl,?_⟩;rw[show inV (V.str (Str.ofString "look")) [V.str (Str.ofString "look"),V.str (Str.ofString "cut")]=true by decide]
   generalize upd H q1 (.tup [.str "look",.str "cut"])=H1 at *;have hl1:=s1 _ _ hl;walk_at "W";refine iteT ?_;walk_at "W";refine SW.iLen (.inl (SqL.of hl1)) ?_;walk_at "W";refine iteY rfl ?_;walk_at "W";exact wIn44 h1 h2 (k H1 s1)
 | cut h1 h2=>
   walk_at "W";refine⟨rfl,?_⟩;walk_at "W";refine iteNo (sne (by decide)) ?_
   walk_at "W";refine⟨rfl,?_⟩;walk_at "W";refine iteNo (sne (by decide)) ?_
   walk_at "W";refine⟨by show(2:Nat)<=sizeLine;decide,fun q1 hq1=>?_⟩
   have s1:=Same.new (o:=.tup [.str "look",.str "cut"]) hq1;walk_at "W";refine⟨q1,_,rfl,.inr (SqT.of upd_same),rfl,rfl,?_⟩;rw[show inV (V.str (Str.ofString "cut")) [V.str (Str.ofString "look"),V.str (Str.ofString "cut")]=true by decide]
   generalize upd H q1 (.tup [.str "look",.str "cut"])=H1 at *;have hl1:=s1 _ _ hl;walk_at "W";refine iteT ?_;walk_at "W";refine SW.iLen (.inl (SqL.of hl1)) ?_;walk_at "W";refine iteY rfl ?_;walk_at "W";exact wIn44 h1 h2 (k H1 s1)
 | step h1 h2=>
   walk_at "W";refine⟨rfl,?_⟩;walk_at "W";refine iteNo (sne (by decide)) ?_
   walk_at "W";refine⟨rfl,?_⟩;walk_at "W";refine iteNo (sne (by decide)) ?_
   walk_at "W";refine⟨by show(2:Nat)<=sizeLine;decide,fun q1 hq1=>?_⟩
   have s1:=Same.new (o:=.tup [.str "look",.str "cut"]) hq1;walk_at "W";refine⟨q1,_,rfl,.inr (SqT.of upd_same),rfl,rfl,?_⟩;rw[show inV (V.str (Str.ofString "step")) [V.str (Str.ofString "look"),V.str (Str.ofString "cut")]=false by decide]
   generalize upd H q1 (.tup [.str "look",.str "cut"])=H1 at *;have hl1:=s1 _ _ hl;walk_at "W";refine iteF ?_;walk_at "W";refine⟨rfl,?_⟩;walk_at "W";refine iteY rfl ?_;walk_at "W";refine SW.iLen (.inl (SqL.of hl1)) ?_;walk_at "W";refine iteY rfl ?_;walk_at "W";exact wIn44 h1 h2 (k H1 s1)
 | keys=>
   walk_at "W";refine⟨rfl,?_⟩;walk_at "W";refine iteNo (sne (by decide)) ?_
   walk_at "W";refine⟨rfl,?_⟩;walk_at "W";refine iteNo (sne (by decide)) ?_
   walk_at "W";refine⟨by show(2:Nat)<=sizeLine;decide,fun q1 hq1=>?_⟩
   have s1:=Same.new (o:=.tup [.str "look",.str "cut"]) hq1;walk_at "W";refine⟨q1,_,rfl,.inr (SqT.of upd_same),rfl,rfl,?_⟩;rw[show inV (V.str (Str.ofString "keys")) [V.str (Str.ofString "look"),V.str (Str.ofString "cut")]=false by decide]
   generalize upd H q1 (.tup [.str "look",.str "cut"])=H1 at *;have hl1:=s1 _ _ hl;walk_at "W";refine iteF ?_;walk_at "W";refine⟨rfl,?_⟩;walk_at "W";refine iteNo (sne (by decide)) ?_
   walk_at "W";refine⟨by show(3:Nat)<=sizeLine;decide,fun q2 hq2=>?_⟩
   have s2:=Same.new (o:=.tup [.str "keys",.str "places",.str "touched"]) hq2;walk_at "W";refine⟨q2,_,rfl,.inr (SqT.of upd_same),rfl,rfl,?_⟩;rw[show inV (V.str (Str.ofString "keys")) [V.str (Str.ofString "keys"),V.str (Str.ofString "places"),V.str (Str.ofString "touched")]=true by decide]
   generalize upd H1 q2 (.tup [.str "keys",.str "places",.str "touched"])=H2 at *;refine⟨_,rfl,?_⟩;refine iteT ?_;walk_at "W";refine SW.iLen (.inl (SqL.of (s2 _ _ hl1))) ?_;walk_at "W";exact k H2 (s1.trans s2)
 | places=>
   walk_at "W";refine⟨rfl,?_⟩;walk_at "W";refine iteNo (sne (by decide)) ?_
   walk_at "W";refine⟨rfl,?_⟩;walk_at "W";refine iteNo (sne (by decide)) ?_
   walk_at "W";refine⟨by show(2:Nat)<=sizeLine;decide,fun q1 hq1=>?_⟩
   have s1:=Same.new (o:=.tup [.str "look",.str "cut"]) hq1;walk_at "W";refine⟨q1,_,rfl,.inr (SqT.of upd_same),rfl,rfl,?_⟩;rw[show inV (V.str (Str.ofString "places")) [V.str (Str.ofString "look"),V.str (Str.ofString "cut")]=false by decide]
   generalize upd H q1 (.tup [.str "look",.str "cut"])=H1 at *;have hl1:=s1 _ _ hl;walk_at "W";refine iteF ?_;walk_at "W";refine⟨rfl,?_⟩;walk_at "W";refine iteNo (sne (by decide)) ?_
   walk_at "W";refine⟨by show(3:Nat)<=sizeLine;decide,fun q2 hq2=>?_⟩
   have s2:=Same.new (o:=.tup [.str "keys",.str "places",.str "touched"]) hq2;walk_at "W";refine⟨q2,_,rfl,.inr (SqT.of upd_same),rfl,rfl,?_⟩;rw[show inV (V.str (Str.ofString "places")) [V.str (Str.ofString "keys"),V.str (Str.ofString "places"),V.str (Str.ofString "touched")]=true by decide]
   generalize upd H1 q2 (.tup [.str "keys",.str "places",.str "touched"])=H2 at *;refine⟨_,rfl,?_⟩;refine iteT ?_;walk_at "W";refine SW.iLen (.inl (SqL.of (s2 _ _ hl1))) ?_;walk_at "W";exact k H2 (s1.trans s2)
 | touched=>
   walk_at "W";refine⟨rfl,?_⟩;walk_at "W";refine iteNo (sne (by decide)) ?_
   walk_at "W";refine⟨rfl,?_⟩;walk_at "W";refine iteNo (sne (by decide)) ?_
   walk_at "W";refine⟨by show(2:Nat)<=sizeLine;decide,fun q1 hq1=>?_⟩
   have s1:=Same.new (o:=.tup [.str "look",.str "cut"]) hq1;walk_at "W";refine⟨q1,_,rfl,.inr (SqT.of upd_same),rfl,rfl,?_⟩;rw[show inV (V.str (Str.ofString "touched")) [V.str (Str.ofString "look"),V.str (Str.ofString "cut")]=false by decide]
   generalize upd H q1 (.tup [.str "look",.str "cut"])=H1 at *;have hl1:=s1 _ _ hl;walk_at "W";refine iteF ?_;walk_at "W";refine⟨rfl,?_⟩;walk_at "W";refine iteNo (sne (by decide)) ?_
   walk_at "W";refine⟨by show(3:Nat)<=sizeLine;decide,fun q2 hq2=>?_⟩
   have s2:=Same.new (o:=.tup [.str "keys",.str "places",.str "touched"]) hq2;walk_at "W";refine⟨q2,_,rfl,.inr (SqT.of upd_same),rfl,rfl,?_⟩;rw[show inV (V.str (Str.ofString "touched")) [V.str (Str.ofString "keys"),V.str (Str.ofString "places"),V.str (Str.ofString "touched")]=true by decide]
   generalize upd H1 q2 (.tup [.str "keys",.str "places",.str "touched"])=H2 at *;refine⟨_,rfl,?_⟩;refine iteT ?_;walk_at "W";refine SW.iLen (.inl (SqL.of (s2 _ _ hl1))) ?_;walk_at "W";exact k H2 (s1.trans s2)
theorem q60_(d:Dfn K mg "text_of_worth" z61_ ["worth"])(g:Gs K mg C CT CD cS PS CR CE CP CZ CV):Fn P w K mg base "text_of_worth" 1 ["worth"] spTxWorth:=by
 refine d.fn z123_ (fun vs H Q E h=>?_) (fun f' cdv A outer st H vs Q E hr h=>?_)
 · obtain⟨o,rfl,_⟩:=h
   rfl
 obtain⟨o,rfl,hb,k⟩:=h;refine⟨_,(B.sone (B.ret (B.ifx (B.tcmp op_isN (B.v 0) B.non) B.str (B.cT call_str_int g.b_str SW.b_str (B.cons (B.v 0) B.nil))))),?_⟩;cases o with
 | none=>
   walk_at "W";refine⟨rfl,?_⟩;walk_at "W";refine iteY rfl ?_;walk_at "W";exact k
 | some v=>
   walk_at "W";refine⟨rfl,?_⟩;walk_at "W";refine iteNo (fun z=>nomatch z) ?_;walk_at "W";refine⟨v,rfl,log_small (hb v rfl),?_⟩;exact k
theorem q58_(d:Dfn K mg "text_of_sizes" z59_ ["sizes"])(g:Gs K mg C CT CD cS PS CR CE CP CZ CV):Fn P w K mg base "text_of_sizes" 1 ["sizes"] spTxSizes:=by
 refine d.fn z121_ (fun vs H Q E h=>?_) (fun f' cdv A outer st H vs Q E hr h=>?_)
 · obtain⟨a,e,n,rfl,_⟩:=h
   rfl
 obtain⟨a,e,n,rfl,ha,he,hn,k⟩:=h;refine⟨_,(B.sone (B.ret (B.m PySem.F.plainAttrs_str PySem.F.slot_str_join PySem.F.type_str_join SW.mt_join B.str (B.cons (SW.B.compIf [] ["size"] (SW.CompScope.of rfl rfl (by decide +kernel) (by decide +kernel) rfl trivial rfl rfl rfl) (by decide +kernel) (B.itup (B.v 0)) (fun _ _ _ _=>(B.tcmp op_notN (B.v 0) B.non)) (fun _ _ _ _=>(B.cT call_str_int g.b_str SW.b_str (B.cons (B.v 0) B.nil)))) B.nil)))),?_⟩
 have lim:sizeLine=16777216:=sizeLine_eq;have small:∀ x:Nat,x<=4096->((x:Int)).natAbs < 10 ^ 10:=fun x h=>by rw[Int.natAbs_natCast];exact Nat.lt_of_le_of_lt h (by decide)
 walk_at "W";refine wBM ?_;walk_at "W";refine⟨rfl,?_⟩;walk_at "W";refine⟨a,rfl,⟨_,SqT.of ha⟩,fun D hD=>?_⟩;refine comp_tup (xs:=[oN e,V.int (n:Nat)]) (fun i σ' H'=>∃ v:Option V,σ'=[v]/\Same H H'/\H' D=some (.lst ((szW e n i).map V.str))) ⟨none,rfl,Same.new hD,upd_same⟩ (fun i σ' H' _ ⟨v,_,s',_⟩=>SqT.of (s' _ _ ha)) ?_ ?_
 · rintro i x σ' H' hx hi ⟨v,rfl,s',hD'⟩
   have keep:∀ ys,Same H (upd H' D (.lst ys)):=fun ys b o e=>by rw[upd_ne (ne_of_none e hD)];exact s' _ _ e
   match i,hx,hi,hD' with
   | 0,hx,hi,hD'=>
     cases hx;cases e with
     | none=>
       walk_at "W";refine⟨rfl,?_⟩;walk_at "W";refine iteNS rfl ?_;exact CO.mk hi ⟨_,rfl,s',hD'⟩
     | some x=>
       walk_at "W";refine⟨rfl,?_⟩;walk_at "W";refine iteNN (fun z=>nomatch z) ?_;walk_at "W";refine⟨_,rfl,log_small (small x (he x rfl)),?_⟩;exact CN.mk hi hD' (by show(0:Nat) < sizeLine;omega) ⟨_,rfl,keep _,by rw[upd_same];rfl⟩
   | 1,hx,hi,hD'=>
     cases hx;walk_at "W";refine⟨rfl,?_⟩;walk_at "W";refine iteNN (fun z=>nomatch z) ?_;walk_at "W";refine⟨_,rfl,log_small (small n hn),?_⟩;refine CN.mk hi hD' (by rw[List.length_map];cases e <;> (show(_:Nat) < sizeLine;simp[szW];omega)) ⟨_,rfl,keep _,?_⟩
     rw[upd_same];cases e <;> rfl
 rintro σ' H' ⟨v,rfl,s',hD'⟩;walk_at "W";refine⟨_,D,szW e n 2,rfl,rfl,SqL.of hD',join_ok (B:=11) (fun y hy=>?_) ?_,?_⟩
 · have:y=tx (n:Int) ∨ ∃ x,e=some x/\y=tx (x:Int):=by
    cases e with
    | none=>exact .inl (List.mem_singleton.mp hy)
    | some x=>
      rcases List.mem_cons.mp hy with z | z
      · exact .inr ⟨x,rfl,z⟩
      exact .inl (List.mem_singleton.mp z)
   rcases this with rfl | ⟨x,ex,rfl⟩
   · exact tx_len (small n hn)
   exact tx_len (small x (he x ex))
 · cases e with
   | none=>show 1*11+1*1<=16777216;decide
   | some x=>show 2*11+2*1<=16777216;decide
 rw[txt_join];have:Str.join (Str.ofString ">") (szW e n 2)=szTx e n:=by cases e <;> rfl
 rw[this];walk_at "W";exact k H' s'
theorem q59_(d:Dfn K mg "text_of_step" z60_ ["told"])(g:Gs K mg C CT CD cS PS CR CE CP CZ CV):Fn P w K mg base "text_of_step" 1 ["told"] spTxStep:=by
 refine d.fn z122_ (fun vs H Q E h=>?_) (fun f' cdv A outer st H vs Q E hr h=>?_)
 · obtain⟨a,l,b,xs,ps,rfl,_⟩:=h
   rfl
 obtain⟨a,l,b,xs,ps,rfl,ha,hl,hp,hb,hps,hpl,k⟩:=h;refine⟨_,(B.sone (B.ret (B.m PySem.F.plainAttrs_str PySem.F.slot_str_join PySem.F.type_str_join SW.mt_join B.str (B.cons (B.op op_cat (B.lst (B.cons (B.cT call_str_int g.b_str SW.b_str (B.cons (B.ix ix_tup (B.v 0) B.int) B.nil)) B.nil)) (SW.B.compN ["key","worth"] [] ["key","worth"] (SW.CompScopeN.of rfl rfl (by decide +kernel) (by decide +kernel) trivial rfl rfl rfl) (B.ilist (B.ix ix_tup (B.v 0) B.int)) (fun _ _ _ _=>(B.gtupK K (n:=2) (B.gcons (B.gname (i:=0) (show(["key","worth"]:List Str).Nodup by decide +kernel)) (B.gcons (B.gname (i:=1) (show(["key","worth"]:List Str).Nodup by decide +kernel)) B.gnil)))) (fun _ _ _ _=>(SW.B.fs2 (B.v 0) (B.v 1))))) B.nil)))),?_⟩
 have lim:sizeLine=16777216:=sizeLine_eq;have hxl:xs.length=ps.length:=paired_len hp;walk_at "W";refine wBM ?_;walk_at "W";refine⟨rfl,?_⟩;walk_at "W";refine⟨b,rfl,log_small hb,?_⟩;walk_at "W";refine⟨by show(1:Nat)<=sizeLine;decide,fun q hq=>?_⟩
 rw[show Str.ofString (toString b)=tx b from rfl];have s1:=Same.new (o:=.lst [.str (tx b)]) hq;have eq1:upd H q (.lst [.str (tx b)]) q=some (.lst [.str (tx b)]):=upd_same;generalize upd H q (.lst [.str (tx b)])=H1 at *;have hl1:=s1 _ _ hl;have ha1:=s1 _ _ ha;have hp1:=hp.keep (SW.Same.tk s1);refine wCompN ?_;walk_at "W";refine⟨l,rfl,⟨_,SqL.of hl1⟩,fun D hD=>?_⟩;refine compN_list (tt:=fun _ H Q=>Q true H) (xs:=xs) (fun i σ' H'=>(∃ v0 v1:Option V,σ'=[v0,v1])/\Same H1 H'/\H' D=some (.lst (((ps.take i).map prTx).map V.str))) ⟨⟨none,none,rfl⟩,Same.new hD,by rw[List.take_zero];exact upd_same⟩ (fun i σ' H' _ ⟨_,s',_⟩=>SqL.of (s' _ _ hl1)) ?_ ?_
 · rintro i x σ' H' hx hi ⟨⟨v0,v1,rfl⟩,s',hD'⟩
   obtain⟨p,ep,c,rfl,hc⟩:=paired_get hp1 hx;obtain⟨b1,b2⟩:=hps p (List.mem_of_getElem? ep);have t1:=tx_len b1;have t2:=tx_len b2;have z0:PySem.Str.empty.length=0:=rfl;have z1:(Str.ofString ":").length=1:=rfl;refine⟨c,_,rfl,SqT.of (s' _ _ hc),rfl,_,_,rfl,_,_,rfl,rfl,?_⟩;refine iteT ?_;refine wFS ?_;walk_at "W";refine⟨p.1,rfl,log_small b1,by rw[len_app];show _+(tx p.1).length<=_;omega,by rw[len_app,len_app];show _+(tx p.1).length+_<=_;omega,?_⟩
   walk_at "W";refine⟨p.2,rfl,log_small b2,by rw[len_app,len_app,len_app];show _+(tx p.1).length+_+(tx p.2).length<=_;omega,?_⟩
   refine CN.mk hi hD' (by rw[List.length_map,List.length_map,List.length_take];omega) ⟨⟨_,_,rfl⟩,fun b o e=>by rw[upd_ne (ne_of_none e hD)];exact s' _ _ e,?_⟩
   rw[upd_same,take_snocF ep,List.map_append,List.map_append]
   rfl
 rintro σ' H' ⟨_,s',hD'⟩;rw[hxl,List.take_length]at hD';walk_at "W";refine⟨q,D,_,_,rfl,rfl,s' _ _ eq1,hD',by rw[List.length_map,List.length_map];show 1+_<=_;omega,fun q2 hq2=>?_⟩
 walk_at "W";refine⟨_,q2,tx b::ps.map prTx,rfl,rfl,SqL.of upd_same,join_ok (B:=23) (fun y hy=>?_) ?_,?_⟩
 · rcases List.mem_cons.mp hy with rfl | z
   · exact Nat.le_trans (tx_len hb) (by decide)
   obtain⟨p,hp',rfl⟩:=List.mem_map.mp z;obtain⟨b1,b2⟩:=hps p hp';have t1:=tx_len b1;have t2:=tx_len b2;have z0:PySem.Str.empty.length=0:=rfl;have z1:(Str.ofString ":").length=1:=rfl;unfold prTx;rw[len_app,len_app,len_app];show _+(tx p.1).length+_+(tx p.2).length<=23;omega
 · rw[List.length_cons,List.length_map]
   show(ps.length+1)*23+(ps.length+1)*1<=16777216;omega
 rw[txt_join];walk_at "W";exact k _ ((s1.trans s').trans (Same.new hq2))
theorem ok_lawX2(a:True):True:=by
 have:=@q52_;have:=@q60_;have:=@q58_;have:=@q59_;have:=@ok_lawX
 trivial
theorem dT_put(k v:Int):deedT (.put k v)=[.str "put",.int k,.int v]:=rfl
theorem bhA_small(M:MT)(c:Int):(bhA M c).natAbs < 10 ^ 10:=by
 unfold bhA behindA;have h0:=Int.emod_nonneg (pt (placeA (lessR M).length c) 16+65536 / ((lessR M).length:Nat) - 1+1) (show(65536:Int)≠0 by decide)
 have h1:=Int.emod_lt_of_pos (pt (placeA (lessR M).length c) 16+65536 / ((lessR M).length:Nat) - 1+1) (show(0:Int) < 65536 by decide)
 exact Nat.lt_of_le_of_lt (show _<=65536 by omega) (by decide)
theorem map_oN(o:Option MRows):szE o=oN (o.map List.length):=by cases o <;> rfl
theorem q5_(d:Dfn K mg "done" z32_ ["table","deed"])(g:Gs K mg C CT CD cS PS CR CE CP CZ CV)(q87_:Mt P w K mg base CT "put" 7 ["self","key","worth"] (spTPut C CT))(q80_:Mt P w K mg base CT "cut" 7 ["self","key"] (spTCut C CT))(q84_:Mt P w K mg base CT "look" 7 ["self","key"] (spTLook C CT)):Fn P w K mg base "done" 8 ["table","deed"] (spAsked C CT):=by
 refine d.fn z94_ (fun vs H Q E h=>?_) (fun f cdv A outer s H vs Q E hr h=>?_)
 · obtain⟨p,v,d,f,m,pc,M,tc,F,rfl,_⟩:=h
   rfl
 obtain⟨p,v,d,f,m,pc,M,tc,F,rfl,S,T,hpc,hc,⟨a,rfl,ha⟩,k⟩:=h;refine⟨_,(B.scons (B.ifs (B.tcmp op_eq (B.ix ix_tup (B.v 1) B.int) B.str) (B.sone (B.ret (B.meth (B.v 0) g.cl_Table q87_ hr.up (B.cons (B.ix ix_tup (B.v 1) B.int) (B.cons (B.ix ix_tup (B.v 1) B.int) B.nil))))) B.snil)
  (B.scons (B.ifs (B.tcmp op_eq (B.ix ix_tup (B.v 1) B.int) B.str) (B.sone (B.ret (B.meth (B.v 0) g.cl_Table q84_ hr.up (B.cons (B.ix ix_tup (B.v 1) B.int) B.nil)))) B.snil)
  (B.sone (B.ret (B.meth (B.v 0) g.cl_Table q80_ hr.up (B.cons (B.ix ix_tup (B.v 1) B.int) B.nil)))))),?_⟩
 cases d with
 | put kk y=>
   have ha:H a=some (.tup [.str "put",.int kk,.int y]):=ha;walk_at "W";refine⟨rfl,?_⟩;walk_at "W";refine iteY rfl ?_;walk_at "W";refine wT S nt_put ?_;walk_at "W";exact wTPut S T hpc hc fun H' F' S' g' k'=>k H' F' S' g' k'
 | look kk=>
   have ha:H a=some (.tup [.str "look",.int kk]):=ha;walk_at "W";refine⟨rfl,?_⟩;walk_at "W";refine iteNo (fun z=>by injection z with z;exact absurd z (by decide +kernel)) ?_
   walk_at "W";refine⟨rfl,?_⟩;walk_at "W";refine iteY rfl ?_;walk_at "W";refine wT S nt_look ?_;walk_at "W";exact wTLook S T hpc hc fun H' F' S' g' k'=>k H' F' S' g' k'
 | cut kk=>
   have ha:H a=some (.tup [.str "cut",.int kk]):=ha;walk_at "W";refine⟨rfl,?_⟩;walk_at "W";refine iteNo (fun z=>by injection z with z;exact absurd z (by decide +kernel)) ?_
   walk_at "W";refine⟨rfl,?_⟩;walk_at "W";refine iteNo (fun z=>by injection z with z;exact absurd z (by decide +kernel)) ?_
   walk_at "W";refine wT S nt_cut ?_;walk_at "W";exact wTCut S T hpc hc fun H' F' S' g' k'=>k H' F' S' g' k'
theorem q0_(d:Dfn K mg "answer_of" z30_ ["table","word","numbers"])(g:Gs K mg C CT CD cS PS CR CE CP CZ CV)(q85_:Mt P w K mg base CT "many" 2 ["self"] (spTMany C CT))(q90_:Mt P w K mg base CT "sizes" 2 ["self"] (spTSizes C CT))(q92_:Mt P w K mg base CT "touched" 1 ["self"] (spTTouched C CT))(q55_:Fn P w K mg base "text_of_sizes" 1 ["sizes"] spTxSizes)(q49_:Fn P w K mg base "step" 5 ["table","cursor"] (spStep C CT PS lamP lamQ))(q56_:Fn P w K mg base "text_of_step" 1 ["told"] spTxStep)(q5_:Fn P w K mg base "done" 8 ["table","deed"] (spAsked C CT))(q57_:Fn P w K mg base "text_of_worth" 1 ["worth"] spTxWorth):Fn P w K mg base "answer_of" 9 ["table","word","numbers"] (spAns C CT PS lamP lamQ):=by
 refine d.fn z92_ (fun vs H Q E h=>?_) (fun f' cdv A outer st H vs Q E hr h=>?_)
 · obtain⟨tb,l,f,m,pc,M,tc,F,wd,ns,rfl,_⟩:=h
   rfl
 obtain⟨tb,l,f,m,pc,M,tc,F,wd,ns,rfl,S,gl,L,hl,a⟩:=h;have lim:sizeLine=16777216:=sizeLine_eq;refine⟨_,(B.scons (B.ifs (B.tcmp op_eq (B.v 1) B.str) (B.sone (B.ret (B.cT call_str_int g.b_str SW.b_str (B.cons (B.meth0 (B.v 0) g.cl_Table q85_ hr.up) B.nil)))) B.snil)
  (B.scons (B.ifs (B.tcmp op_eq (B.v 1) B.str) (B.sone (B.ret (B.fn q55_ hr.up (B.cons (B.meth0 (B.v 0) g.cl_Table q90_ hr.up) B.nil)))) B.snil)
  (B.scons (B.ifs (B.tcmp op_eq (B.v 1) B.str) (B.sone (B.ret (B.cT call_str_int g.b_str SW.b_str (B.cons (B.meth0 (B.v 0) g.cl_Table q92_ hr.up) B.nil)))) B.snil)
  (B.scons (B.ifs (B.tcmp op_eq (B.v 1) B.str) (B.sone (B.ret (B.fn q56_ hr.up (B.cons (B.fn q49_ hr.up (B.cons (B.v 0) (B.cons (B.ix ix_list (B.v 2) B.int) B.nil))) B.nil)))) B.snil)
  (B.sone (B.ret (B.fn q57_ hr.up (B.cons (B.fn q5_ hr.up (B.cons (B.v 0) (B.cons (B.cT call_tuple_of g.b_tuple SW.b_tuple (B.cons (B.op op_cat (B.lst (B.cons (B.v 1) B.nil)) (B.v 2)) B.nil)) B.nil))) B.nil)))))))),?_⟩
 have h4:=gl.le;cases a with
 | keys k=>
   walk_at "W";refine⟨rfl,?_⟩;walk_at "W";refine iteY rfl ?_;walk_at "W";refine wT S nt_many ?_;walk_at "W";refine wTMany S fun H1 s1=>?_;walk_at "W";refine⟨_,rfl,log_small (by rw[Int.natAbs_natCast];exact Nat.lt_of_le_of_lt gl.le (by decide)),?_⟩
   walk_at "W";exact k H1 s1
 | places k=>
   walk_at "W";refine⟨rfl,?_⟩;walk_at "W";refine iteNo (sne (by decide)) ?_
   walk_at "W";refine⟨rfl,?_⟩;walk_at "W";refine iteY rfl ?_;walk_at "W";refine wT S nt_sizes ?_;walk_at "W";refine wTSizes S fun a ha=>?_;walk_at "W";obtain⟨z1,z2⟩:=gl.sizes;refine wTxSizes (e:=M.el.map List.length) (n:=M.nw.length) (by rw[upd_same,map_oN]) z1 z2 fun H1 s1=>?_
   exact k H1 ((Same.new ha).trans s1)
 | touched k=>
   walk_at "W";refine⟨rfl,?_⟩;walk_at "W";refine iteNo (sne (by decide)) ?_
   walk_at "W";refine⟨rfl,?_⟩;walk_at "W";refine iteNo (sne (by decide)) ?_
   walk_at "W";refine⟨rfl,?_⟩;walk_at "W";refine iteY rfl ?_;walk_at "W";refine wT S nt_touched ?_;walk_at "W";refine wTTouched S ?_;walk_at "W";have t0:=gl.t0;have t1:=gl.t1;refine⟨_,rfl,log_small (Nat.lt_of_le_of_lt (show tc.natAbs<=100 by omega) (by decide)),?_⟩
   walk_at "W";exact k H fun _ _ e=>e
 | step h0 h1 k=>
   walk_at "W";refine⟨rfl,?_⟩;walk_at "W";refine iteNo (sne (by decide)) ?_
   walk_at "W";refine⟨rfl,?_⟩;walk_at "W";refine iteNo (sne (by decide)) ?_
   walk_at "W";refine⟨rfl,?_⟩;walk_at "W";refine iteNo (sne (by decide)) ?_
   walk_at "W";refine⟨rfl,?_⟩;walk_at "W";refine iteY rfl ?_;walk_at "W";obtain⟨z1,z2⟩:=gl.step h0 h1;refine wStep S gl.T gl.R (by omega) L fun t l' xs H1 L1 K1 hl' ht e1 e2 e3=>?_
   walk_at "W";refine wTxStep e1 e2 e3 (bhA_small _ _) (fun p hp=>(z1 p hp).2.small) (by omega) fun H2 s2=>?_
   exact k H2 (L1.same s2) (K1.trans (Same.but s2))
 | deed dd hb k=>
   cases dd with
   | put x y=>
     rw[show dW (Deed.put x y)=Str.ofString "put" from rfl];have hl:H l=some (.lst [.int x,.int y]):=hl;walk_at "W";refine⟨rfl,?_⟩;walk_at "W";refine iteNo (sne (by decide)) ?_
     walk_at "W";refine⟨rfl,?_⟩;walk_at "W";refine iteNo (sne (by decide)) ?_
     walk_at "W";refine⟨rfl,?_⟩;walk_at "W";refine iteNo (sne (by decide)) ?_
     walk_at "W";refine⟨rfl,?_⟩;walk_at "W";refine iteNo (sne (by decide)) ?_
     walk_at "W";refine⟨by show(1:Nat)<=sizeLine;decide,fun q1 hq1=>?_⟩
     have s1:=Same.new (o:=.lst [.str "put"]) hq1;have e1:upd H q1 (.lst [.str "put"]) q1=some (.lst [.str "put"]):=upd_same;have hl1:=s1 _ _ hl;generalize upd H q1 (.lst [.str "put"])=H1 at *;walk_at "W";refine⟨q1,l,_,_,rfl,rfl,e1,hl1,by rw[lim];show(_:Nat)<=16777216;simp,fun q2 hq2=>?_⟩
     have s2:Same H1 _:=Same.new (o:=.lst [.str "put",.int x,.int y]) hq2;have e2:upd H1 q2 (.lst [.str "put",.int x,.int y]) q2=some (.lst [.str "put",.int x,.int y]):=upd_same;refine⟨q2,_,rfl,.inl ⟨SqL.of upd_same,fun t ht=>?_⟩⟩;have s3:Same (upd H1 q2 (.lst [.str "put",.int x,.int y])) _:=Same.new (o:=.tup [.str "put",.int x,.int y]) ht;have e3:upd (upd H1 q2 (.lst [.str "put",.int x,.int y])) t (.tup [.str "put",.int x,.int y]) t=some (.tup [.str "put",.int x,.int y]):=upd_same;have s4:=(s1.trans s2).trans s3;walk_at "W";refine wAsked (d:=.put x y) (S.same s4) gl.T (Nat.le_trans gl.p8 (by decide)) gl.le ⟨t,rfl,e3⟩ fun H' F' S' g' k'=>?_
     walk_at "W";refine wTxWorth (gl.look _) ?_;exact k H' F' S' (fun b hb=>(g' b hb).imp id fun z=>s4.free z) fun b o n e=>k' b o n (s4 b o e)
   | look x=>
     rw[show dW (Deed.look x)=Str.ofString "look" from rfl];have hl:H l=some (.lst [.int x]):=hl;walk_at "W";refine⟨rfl,?_⟩;walk_at "W";refine iteNo (sne (by decide)) ?_
     walk_at "W";refine⟨rfl,?_⟩;walk_at "W";refine iteNo (sne (by decide)) ?_
     walk_at "W";refine⟨rfl,?_⟩;walk_at "W";refine iteNo (sne (by decide)) ?_
     walk_at "W";refine⟨rfl,?_⟩;walk_at "W";refine iteNo (sne (by decide)) ?_
     walk_at "W";refine⟨by show(1:Nat)<=sizeLine;decide,fun q1 hq1=>?_⟩
     have s1:=Same.new (o:=.lst [.str "look"]) hq1;have e1:upd H q1 (.lst [.str "look"]) q1=some (.lst [.str "look"]):=upd_same;have hl1:=s1 _ _ hl;generalize upd H q1 (.lst [.str "look"])=H1 at *;walk_at "W";refine⟨q1,l,_,_,rfl,rfl,e1,hl1,by rw[lim];show(_:Nat)<=16777216;simp,fun q2 hq2=>?_⟩
     have s2:Same H1 _:=Same.new (o:=.lst [.str "look",.int x]) hq2;have e2:upd H1 q2 (.lst [.str "look",.int x]) q2=some (.lst [.str "look",.int x]):=upd_same;refine⟨q2,_,rfl,.inl ⟨SqL.of upd_same,fun t ht=>?_⟩⟩;have s3:Same (upd H1 q2 (.lst [.str "look",.int x])) _:=Same.new (o:=.tup [.str "look",.int x]) ht;have e3:upd (upd H1 q2 (.lst [.str "look",.int x])) t (.tup [.str "look",.int x]) t=some (.tup [.str "look",.int x]):=upd_same;have s4:=(s1.trans s2).trans s3;walk_at "W";refine wAsked (d:=.look x) (S.same s4) gl.T (Nat.le_trans gl.p8 (by decide)) gl.le ⟨t,rfl,e3⟩ fun H' F' S' g' k'=>?_
     walk_at "W";refine wTxWorth (gl.look _) ?_;exact k H' F' S' (fun b hb=>(g' b hb).imp id fun z=>s4.free z) fun b o n e=>k' b o n (s4 b o e)
   | cut x=>
     rw[show dW (Deed.cut x)=Str.ofString "cut" from rfl];have hl:H l=some (.lst [.int x]):=hl;walk_at "W";refine⟨rfl,?_⟩;walk_at "W";refine iteNo (sne (by decide)) ?_
     walk_at "W";refine⟨rfl,?_⟩;walk_at "W";refine iteNo (sne (by decide)) ?_
     walk_at "W";refine⟨rfl,?_⟩;walk_at "W";refine iteNo (sne (by decide)) ?_
     walk_at "W";refine⟨rfl,?_⟩;walk_at "W";refine iteNo (sne (by decide)) ?_
     walk_at "W";refine⟨by show(1:Nat)<=sizeLine;decide,fun q1 hq1=>?_⟩
     have s1:=Same.new (o:=.lst [.str "cut"]) hq1;have e1:upd H q1 (.lst [.str "cut"]) q1=some (.lst [.str "cut"]):=upd_same;have hl1:=s1 _ _ hl;generalize upd H q1 (.lst [.str "cut"])=H1 at *;walk_at "W";refine⟨q1,l,_,_,rfl,rfl,e1,hl1,by rw[lim];show(_:Nat)<=16777216;simp,fun q2 hq2=>?_⟩
     have s2:Same H1 _:=Same.new (o:=.lst [.str "cut",.int x]) hq2;have e2:upd H1 q2 (.lst [.str "cut",.int x]) q2=some (.lst [.str "cut",.int x]):=upd_same;refine⟨q2,_,rfl,.inl ⟨SqL.of upd_same,fun t ht=>?_⟩⟩;have s3:Same (upd H1 q2 (.lst [.str "cut",.int x])) _:=Same.new (o:=.tup [.str "cut",.int x]) ht;have e3:upd (upd H1 q2 (.lst [.str "cut",.int x])) t (.tup [.str "cut",.int x]) t=some (.tup [.str "cut",.int x]):=upd_same;have s4:=(s1.trans s2).trans s3;walk_at "W";refine wAsked (d:=.cut x) (S.same s4) gl.T (Nat.le_trans gl.p8 (by decide)) gl.le ⟨t,rfl,e3⟩ fun H' F' S' g' k'=>?_
     walk_at "W";refine wTxWorth (gl.look _) ?_;exact k H' F' S' (fun b hb=>(g' b hb).imp id fun z=>s4.free z) fun b o n e=>k' b o n (s4 b o e)
theorem ok_lawX3(a:True):True:=by
 have:=@q5_;have:=@q0_;have:=@ok_lawX2
 trivial
theorem at_0(x:V)(xs:List V):atI (x::xs) 0=some x:=by
 unfold atI ixN;rw[if_pos (by decide),if_pos (by rw[List.length_cons];omega)]
 rfl
theorem cut_tl(x:V)(xs:List V):cutV (x::xs) (some 1) none=xs:=by
 unfold cutV;rw[HT.sIx_none,show(1:Int)=((1:Nat):Int)from rfl,HT.sIx_nat,Nat.min_eq_left (by rw[List.length_cons];omega)]
 exact List.take_of_length_le (by rw[List.length_drop];exact Nat.le_refl _)
theorem rowT_ws(wd:PySem.Str)(ns:List Int):rowT wd ns=Str.join (Str.ofString " ") (wd::ns.map tx):=rfl
theorem Say.such{C CT CD PS:Addr}{pos:Pos}{qual:Str}{q dq:Addr}{tv:V}{H:Hp}{Q:VK}{wd:PySem.Str}{ns:List Int}(s:SW.Say C CT CD PS pos qual q dq tv H Q wd ns):Such wd ns:=by
 cases s with
 | table h1 h2 h3 h4 h5 h6 k=>exact .table h1 h2 h3 h4 h5 h6
 | ans e S g L a=>
   cases a with
   | keys k=>exact .keys
   | places k=>exact .places
   | touched k=>exact .touched
   | step h0 h1 k=>exact .step h0 h1
   | deed d hb k=>
     cases d with
     | put x y=>exact .put hb.1.1 hb.1.2 hb.2.1 hb.2.2
     | look x=>exact .look hb.1 hb.2
     | cut x=>exact .cut hb.1 hb.2
theorem Ans.ne{C CT PS:Addr}{pos:Pos}{qual:Str}{tb:Addr}{f m:Int}{pc:Nat}{M:MT}{tc:Int}{F:Addr->Prop}{H:Hp}{Q:VK}{wd:PySem.Str}{ns:List Int}(a:SW.Ans C CT PS pos qual tb f m pc M tc F H Q wd ns):¬ V.str wd=V.str (Str.ofString "table"):=by
 cases a with
 | keys k=>exact sne (by decide)
 | places k=>exact sne (by decide)
 | touched k=>exact sne (by decide)
 | step h0 h1 k=>exact sne (by decide)
 | deed d hb k=>
   cases d with
   | put x y=>exact sne (by decide)
   | look x=>exact sne (by decide)
   | cut x=>exact sne (by decide)
theorem Such.num{wd:PySem.Str}{ns:List Int}(h:Such wd ns):(∀ i∈ns,i.natAbs < 10 ^ 10)/\ns.length<=3/\32∉wd.cps.toList/\wd.length<=11:=by
 have e:(10:Nat) ^ 10=10000000000:=by decide
 rw[e];cases h with
 | @table a b p h1 h2 h3 h4 h5 h6=>exact⟨fun i hi=>by simp only[List.mem_cons,List.not_mem_nil,or_false]at hi;omega,Nat.le_of_ble_eq_true rfl,by decide,by decide⟩
 | put h1 h2 h3 h4=>exact⟨fun i hi=>by simp only[List.mem_cons,List.not_mem_nil,or_false]at hi;omega,Nat.le_of_ble_eq_true rfl,by decide,by decide⟩
 | look h1 h2=>exact⟨fun i hi=>by simp only[List.mem_cons,List.not_mem_nil,or_false]at hi;omega,Nat.le_of_ble_eq_true rfl,by decide,by decide⟩
 | cut h1 h2=>exact⟨fun i hi=>by simp only[List.mem_cons,List.not_mem_nil,or_false]at hi;omega,Nat.le_of_ble_eq_true rfl,by decide,by decide⟩
 | step h1 h2=>exact⟨fun i hi=>by simp only[List.mem_cons,List.not_mem_nil,or_false]at hi;omega,Nat.le_of_ble_eq_true rfl,by decide,by decide⟩
 | keys=>exact⟨fun i hi=>(List.not_mem_nil hi).elim,by decide,by decide,by decide⟩
 | places=>exact⟨fun i hi=>(List.not_mem_nil hi).elim,by decide,by decide,by decide⟩
 | touched=>exact⟨fun i hi=>(List.not_mem_nil hi).elim,by decide,by decide,by decide⟩
theorem D_init(d:Dk K mg CD "Desk" "Desk.__init__" z0_ ["self"])(g:Gs K mg C CT CD cS PS CR CE CP CZ CV):Mkr P w K mg base CD "Desk" 1 ["self"] (spDInit CD):=by
 refine d.mk' z62_ (fun vs H Q E h=>?_) (fun f cdv A outer s H vs Q E hr h=>?_)
 · obtain⟨x,dx,rfl,_⟩:=h
   rfl
 obtain⟨x,dx,rfl,hx,q⟩:=h;refine⟨_,(B.sone (B.sfld (B.v 0) B.non)),?_⟩;walk_at "W";refine SW.iSFld hx g.cl_Desk g.n_Desk_table (by show 0 < 1000;decide) ?_
 walk_at "W";exact q
theorem D_say(d:Dm K CD "say" "Desk.say" z1_ ["self","row"])(g:Gs K mg C CT CD cS PS CR CE CP CZ CV)(q30_:Fn P w K mg base "number_of" 2 ["word"] spNumber)(q13_:Fn P w K mg base "is_such_row" 3 ["word","numbers"] spSuch)(q67_:Mkr P w K mg base CT "Table" 6 ["self","mixer","pace","state"] (spTInit C CT))(q1_:Fn P w K mg base "answer_of" 9 ["table","word","numbers"] (spAns C CT PS lamP lamQ)):Mt P w K mg base CD "say" 10 ["self","row"] (spSay C CT CD PS lamP lamQ):=by
 refine d.mt z63_ (fun vs H Q E h=>?_) (fun f' cdv A outer st H vs Q E hr h=>?_)
 · obtain⟨q,dq,tv,wd,ns,rfl,_⟩:=h
   rfl
 obtain⟨q,dq,tv,wd,ns,rfl,hq,sy⟩:=h;have lim:sizeLine=16777216:=sizeLine_eq;obtain⟨hnum,hlen,hfree,hw⟩:=(Say.such sy).num;refine⟨_,(B.scons (B.ifs (B.tnot (B.tval (B.cB SW.call_isi g.b_isinstance SW.b_isinstance (B.cons (B.v 1) (B.cons (B.ty g.b_str SW.b_str) B.nil))))) (B.sone B.never) B.snil)
  (B.scons (B.set 2 z63_.nd (B.m PySem.F.plainAttrs_str PySem.F.slot_str_split PySem.F.type_str_split SW.mt_split (B.v 1) (B.cons B.str B.nil)))
  (B.scons (SW.B.compSet 3 [] ["word"] (SW.CompScope.of rfl rfl (by decide +kernel) (by decide +kernel) rfl trivial rfl rfl rfl) (by decide +kernel) z63_.nd (B.ilist (B.slice sl_list (B.v 2) (B.part B.int) B.nopart)) (fun _ _ _ _=>(B.fn q30_ hr.up (B.cons (B.v 0) B.nil))))
  (B.scons (B.ifs (B.tnot (B.tval (B.fn q13_ hr.up (B.cons (B.ix ix_list (B.v 2) B.int) (B.cons (B.v 3) B.nil))))) (B.sone B.never) B.snil)
  (B.scons (B.ifs (B.tcmp op_eq (B.ix ix_list (B.v 2) B.int) B.str) (B.scons (B.sfld (B.v 0) (B.make q67_ hr.up (B.cons (B.tup (B.cons (B.ix ix_list (B.v 3) B.int) (B.cons (B.ix ix_list (B.v 3) B.int) B.nil))) (B.cons (B.ix ix_list (B.v 3) B.int) (B.cons B.non B.nil)))))
  (B.sone (B.ret B.str))) B.snil)
  (B.scons (B.ifs (B.tcmp op_isN (B.fld (B.v 0)) B.non) (B.sone B.never) B.snil)
  (B.sone (B.ret (B.fn q1_ hr.up (B.cons (B.fld (B.v 0)) (B.cons (B.ix ix_list (B.v 2) B.int) (B.cons (B.v 3) B.nil)))))))))))),?_⟩
 walk_at "W";refine SW.iIsi (.str _) isi_str_str ?_;walk_at "W";refine iteF ?_;walk_at "W";refine wBM ?_;walk_at "W";refine⟨rfl,?_⟩;walk_at "W";obtain⟨c1,c2,c3,c4,c5⟩:=split_ok (ws:=wd::ns.map tx) (B:=11) blank_eq (by simp) (fun y hy=>by
  rcases List.mem_cons.mp hy with rfl | z
  · exact hfree
  · obtain⟨i,_,rfl⟩:=List.mem_map.mp z
    exact tx_free i (by decide)) (fun y hy=>by
  rcases List.mem_cons.mp hy with rfl | z
  · exact hw
  obtain⟨i,hi,rfl⟩:=List.mem_map.mp z;exact tx_len (hnum i hi)) (by rw[List.length_cons,List.length_map];omega)
 refine⟨rowT wd ns,_,rfl,rfl,c1,c2,c3,c4,fun l hl=>?_⟩;rw[show Txt.split (rowT wd ns) (Str.ofString " ")=wd::ns.map tx from c5];clear c1 c2 c3 c4 c5;have s1:=Same.new (o:=.lst ((wd::ns.map tx).map V.str)) hl;have e1:upd H l (.lst ((wd::ns.map tx).map V.str)) l=some (.lst (.str wd::(ns.map tx).map V.str)):=upd_same;have hq1:=s1 _ _ hq;generalize upd H l (.lst ((wd::ns.map tx).map V.str))=H1 at *;walk_at "W";refine⟨1,rfl,l,_,rfl,SqL.of e1,fun l1 hl1=>?_⟩;rw[cut_tl];have s2:=Same.new (o:=.lst ((ns.map tx).map V.str)) hl1;have e2:upd H1 l1 (.lst ((ns.map tx).map V.str)) l1=some (.lst ((ns.map tx).map V.str)):=upd_same;have e1':=s2 _ _ e1;have hq2:=s2 _ _ hq1;generalize upd H1 l1 (.lst ((ns.map tx).map V.str))=H2 at *;refine⟨l1,rfl,⟨_,SqL.of e2⟩,fun D hD=>?_⟩;refine comp_listU (xs:=(ns.map tx).map V.str) (fun i σ' H'=>∃ v:Option V,σ'=[v]/\Same H2 H'/\H' D=some (.lst ((ns.take i).map V.int))) ⟨none,rfl,Same.new hD,by rw[upd_same];rfl⟩ (fun i σ' H' _ ⟨v,_,s',_⟩=>SqL.of (s' _ _ e2)) ?_ ?_
 · rintro i x σ' H' hx hi ⟨v,rfl,s',hD'⟩
   rw[List.getElem?_map,List.getElem?_map]at hx;cases hz:ns[i]? with
   | none=>rw[hz]at hx;cases hx
   | some z=>
     rw[hz]at hx;cases hx;walk_at "W";refine wNumber (hnum z (List.mem_of_getElem? hz)) fun H3 s3=>?_;have hD3:=s3 _ _ hD';refine CN.mk hi hD3 (by rw[List.length_map,List.length_take];omega) ⟨_,rfl,fun b o e=>by rw[upd_ne (ne_of_none e hD)];exact s3 _ _ (s' _ _ e),?_⟩
     rw[upd_same,take_snocF hz,List.map_append]
     rfl
 rintro σ' H' ⟨v,rfl,s',hD'⟩;have el:((ns.map tx).map V.str).length=ns.length:=by rw[List.length_map,List.length_map]
 rw[el,List.take_length]at hD';have s3:Same H H':=(s1.trans s2).trans s';have hq3:=s3 _ _ hq;have e3:=s' _ _ e1';clear s1 s2 s' e1 e1' e2 hq1 hq2;walk_at "W";refine wIxL e3 (at_0 _ _) ?_;walk_at "W";refine wSuch (Say.such sy) hD' fun H4 s4=>?_;have hq4:=s4 _ _ hq3;have e4:=s4 _ _ e3;have eD4:=s4 _ _ hD';have s5:=s3.trans s4;clear s3 s4 hq3 e3 hD';walk_at "W";refine iteF ?_;walk_at "W";refine wIxL e4 (at_0 _ _) ?_;walk_at "W";refine⟨rfl,?_⟩;cases sy with
 | @table a b p h1 h2 h3 h4 h5 h6 k=>
   walk_at "W";refine iteY rfl ?_;have eD:H4 D=some (.lst [.int a,.int b,.int p]):=eD4;walk_at "W";refine⟨by show(2:Nat)<=sizeLine;decide,fun t ht=>?_⟩
   have s6:=Same.new (o:=.tup [.int a,.int b]) ht;have et:upd H4 t (.tup [.int a,.int b]) t=some (.tup [.int a,.int b]):=upd_same;have eD6:=s6 _ _ eD;have hq6:=s6 _ _ hq4;have s7:=s5.trans s6;generalize upd H4 t (.tup [.int a,.int b])=H6 at *;walk_at "W";refine wTableG (M:=M0) et ⟨h1,h2⟩ (by omega) M0_ok (by decide) (.inl ⟨rfl,rfl⟩) fun tb H8 F8 S8 f8 s8=>?_
   have hq8:=s8 _ _ hq6;walk_at "W";refine SW.iSFld hq8 g.cl_Desk g.n_Desk_table (by show 1 < 1000;decide) ?_
   walk_at "W";have nq:¬ F8 q:=fun z=>by rw[f8 q z]at hq6;cases hq6
   have S9:Tb C CT (upd H8 q (.ins CD dq [("table",.ref tb)])) tb a b p.toNat M0 0 F8:=S8.keep (G:=fun b=>b=q) (fun b o n e=>by rw[upd_ne n];exact e) (fun b hb z=>nq (z ▸ hb)) fun b xs e z=>by
    subst z;rw[hq8]at e;cases e
   exact k tb _ F8 S9 (fun x hx=>s7.free (f8 x hx)) upd_same fun b o n e=>by rw[upd_ne n];exact s8 _ _ (s7 _ _ e)
 | @ans tb f m pc M tc F _ _ e S gl L a=>
   subst e;walk_at "W";refine iteNo (Ans.ne a) ?_;walk_at "W";refine SW.iFld hq4 g.cl_Desk g.n_Desk_table rfl ?_;walk_at "W";refine⟨rfl,?_⟩;walk_at "W";refine iteNo (fun z=>nomatch z) ?_;walk_at "W";refine SW.iFld hq4 g.cl_Desk g.n_Desk_table rfl ?_;walk_at "W";refine wIxL e4 (at_0 _ _) ?_;walk_at "W";exact wAns (S.same s5) gl (L.same s5) eD4 (a.same s5)
theorem ok_lawX4(a:True):True:=by
 have:=@D_init;have:=@D_say;have:=@ok_lawX3
 trivial
def spWholeO:Sp:=fun vs H Q _=>∃ o:Option Int,vs=[oV o]/\Q (.bl o.isSome) H
theorem wWholeO{o:Option Int}{H:Hp}{Q:VK}{E:XK}(k:Q (.bl o.isSome) H):spWholeO ([oV o]++[]) H Q E:=⟨o,rfl,k⟩
theorem isi_non_int{K:W.Frag}:W.kitOne K (.type "NoneType") (.type "int")=some false:=by
 show W.kitOne [] (.type "NoneType") (.type "int")=some false
 decide +kernel
def inO(lo hi:Int):Option Int->Bool
 | none=>false
 | some i=>decide (lo<=i) && decide (i<=hi)
def spInO(lo hi:Int):Sp:=fun vs H Q _=>∃ o:Option Int,vs=[oV o]/\Q (.bl (inO lo hi o)) H
theorem wInO{lo hi:Int}{o:Option Int}{H:Hp}{Q:VK}{E:XK}(k:Q (.bl (inO lo hi o)) H):spInO lo hi ([oV o]++[]) H Q E:=⟨o,rfl,k⟩
def figB(x:PySem.Str):Bool:=decide (1<=x.length) && decide (x.length<=10) && x.cps.toList.all (fun c=>decide (48<=c) && decide (c<=57)) && (x == PySem.Str.ofString "0" || !Txt.startswith x (PySem.Str.ofString "0"))
def spFigsB:Sp:=fun vs H Q _=>∃ x:PySem.Str,vs=[.str x]/\x.cps.all (· < 128)=true/\x.length<=1000 /\ ∀ H',Same H H'->Q (.bl (figB x)) H'
theorem wFigsB{x:PySem.Str}{H:Hp}{Q:VK}{E:XK}(h1:x.cps.all (· < 128)=true)(h2:x.length<=1000)(k:∀ H',Same H H'->Q (.bl (figB x)) H'):spFigsB ([.str x]++[]) H Q E:=⟨x,rfl,h1,h2,k⟩
def bare(x:PySem.Str):PySem.Str:=if Txt.startswith x (PySem.Str.ofString "-")=true then cutS x (some 1) none else x
def numC(x:PySem.Str):Bool:=figB (bare x) && !(x == PySem.Str.ofString "-0")
def numOf(x:PySem.Str):Option Int:=if numC x=true then PySem.intText? x else none
def wordOk(x:PySem.Str):Bool:=x.cps.all (· < 128) && decide (x.length<=600) && (bare x).cps.all (· < 128) && decide ((bare x).length<=600) && (!numC x || (PySem.intText? x).isSome)
def spNumberB:Sp:=fun vs H Q _=>∃ x:PySem.Str,vs=[.str x]/\wordOk x=true /\ ∀ H',Same H H'->Q (oV (numOf x)) H'
theorem wNumberB{x:PySem.Str}{H:Hp}{Q:VK}{E:XK}(h:wordOk x=true)(k:∀ H',Same H H'->Q (oV (numOf x)) H'):spNumberB ([.str x]++[]) H Q E:=⟨x,rfl,h,k⟩
theorem fig_in(c:Nat):(!(Builtin.Str.occurrences (PySem.Str.ofString "0123456789") ⟨#[c]⟩ 0 (PySem.Str.ofString "0123456789").length 1).isEmpty)=(decide (48<=c) && decide (c<=57)):=by
 rw[PySem.StrLaws.found_one,figures_eq];by_cases h:48<=c/\c<=57
 · have:c=48∨c=49∨c=50∨c=51∨c=52∨c=53∨c=54∨c=55∨c=56∨c=57:=by omega
   rcases this with h | h | h | h | h | h | h | h | h | h <;> subst h <;> decide
 have h2:¬ c∈[48,49,50,51,52,53,54,55,56,57]:=fun z=>by
  simp only[List.mem_cons,List.not_mem_nil,or_false]at z;omega
 rw[decide_eq_false h2];by_cases h3:48<=c
 · rw[decide_eq_true h3,decide_eq_false (fun z=>h ⟨h3,z⟩)];rfl
 rw[decide_eq_false h3];rfl
theorem q62_(d:Dfn K mg "is_whole" z39_ ["thing"])(g:Gs K mg C CT CD cS PS CR CE CP CZ CV):Fn P w K mg base "is_whole" 1 ["thing"] spWholeO:=by
 refine d.fn z101_ (fun vs H Q E h=>?_) (fun f cdv A outer s H vs Q E hr h=>?_)
 · obtain⟨o,rfl,_⟩:=h
   rfl
 obtain⟨o,rfl,q⟩:=h;refine⟨_,(B.sone (B.ret (B.and (B.cB SW.call_isi g.b_isinstance SW.b_isinstance (B.cons (B.v 0) (B.cons (B.ty g.b_int SW.b_int) B.nil))) (B.one (B.not (B.cB SW.call_isi g.b_isinstance SW.b_isinstance (B.cons (B.v 0) (B.cons (B.ty g.b_bool SW.b_bool) B.nil)))))))),?_⟩;cases o with
 | none=>
   walk_at "W";refine SW.iIsi .non isi_non_int ?_;walk_at "W";exact iteF q
 | some i=>
   walk_at "W";refine SW.iIsi (.int i) isi_int_int ?_;walk_at "W";refine iteT ?_;walk_at "W";refine SW.iIsi (.int i) isi_int_bool ?_;walk_at "W";exact q
theorem q17_(d:Dfn K mg "is_key" z33_ ["thing"])(g:Gs K mg C CT CD cS PS CR CE CP CZ CV)(q14_:Fn P w K mg base "is_whole" 1 ["thing"] spWholeO):Fn P w K mg base "is_key" 2 ["thing"] (spInO 0 1000000000):=by
 refine d.fn z95_ (fun vs H Q E h=>?_) (fun f' cdv A outer st H vs Q E hr h=>?_)
 · obtain⟨o,rfl,_⟩:=h
   rfl
 obtain⟨o,rfl,k⟩:=h;refine⟨_,(B.sone (B.ret (B.and (B.fn q14_ hr.up (B.cons (B.v 0) B.nil)) (B.one (B.chain op_le op_le B.int (B.v 0) (B.gint g.c_GREATEST)))))),?_⟩;walk_at "W";refine wWholeO ?_;walk_at "W";cases o with
 | none=>exact iteF k
 | some i=>
   rw[show oV (some i)=V.int i from rfl];refine iteT ?_;walk_at "W";by_cases h0:0<=i
   · refine iteY h0 ?_
     walk_at "W";have k':Q (.bl (decide (0<=i) && decide (i<=1000000000))) H:=k;rw[decide_eq_true h0]at k';exact k'
   refine iteNo h0 ?_;have k':Q (.bl (decide (0<=i) && decide (i<=1000000000))) H:=k;rw[decide_eq_false h0]at k';exact k'
theorem q64_(d:Dfn K mg "is_worth" z40_ ["thing"])(g:Gs K mg C CT CD cS PS CR CE CP CZ CV)(q14_:Fn P w K mg base "is_whole" 1 ["thing"] spWholeO):Fn P w K mg base "is_worth" 2 ["thing"] (spInO (-1000000000) 1000000000):=by
 refine d.fn z102_ (fun vs H Q E h=>?_) (fun f' cdv A outer st H vs Q E hr h=>?_)
 · obtain⟨o,rfl,_⟩:=h
   rfl
 obtain⟨o,rfl,k⟩:=h;refine⟨_,(B.sone (B.ret (B.and (B.fn q14_ hr.up (B.cons (B.v 0) B.nil)) (B.one (B.chain op_le op_le (B.un un_neg (B.gint g.c_GREATEST)) (B.v 0) (B.gint g.c_GREATEST)))))),?_⟩;walk_at "W";refine wWholeO ?_;walk_at "W";cases o with
 | none=>exact iteF k
 | some i=>
   rw[show oV (some i)=V.int i from rfl];refine iteT ?_;walk_at "W";by_cases h0:(-1000000000)<=i
   · refine iteY h0 ?_
     walk_at "W";have k':Q (.bl (decide ((-1000000000)<=i) && decide (i<=1000000000))) H:=k;rw[decide_eq_true h0]at k';exact k'
   refine iteNo h0 ?_;have k':Q (.bl (decide ((-1000000000)<=i) && decide (i<=1000000000))) H:=k;rw[decide_eq_false h0]at k';exact k'
theorem q27_(d:Dfn K mg "is_mixer_part" z34_ ["thing"])(g:Gs K mg C CT CD cS PS CR CE CP CZ CV)(q14_:Fn P w K mg base "is_whole" 1 ["thing"] spWholeO):Fn P w K mg base "is_mixer_part" 2 ["thing"] (spInO 0 65535):=by
 refine d.fn z96_ (fun vs H Q E h=>?_) (fun f' cdv A outer st H vs Q E hr h=>?_)
 · obtain⟨o,rfl,_⟩:=h
   rfl
 obtain⟨o,rfl,k⟩:=h;refine⟨_,(B.sone (B.ret (B.and (B.fn q14_ hr.up (B.cons (B.v 0) B.nil)) (B.one (B.chain op_le op_le B.int (B.v 0) (B.gint g.c_GREATEST_MIXER_PART)))))),?_⟩;walk_at "W";refine wWholeO ?_;walk_at "W";cases o with
 | none=>exact iteF k
 | some i=>
   rw[show oV (some i)=V.int i from rfl];refine iteT ?_;walk_at "W";by_cases h0:0<=i
   · refine iteY h0 ?_
     walk_at "W";have k':Q (.bl (decide (0<=i) && decide (i<=65535))) H:=k;rw[decide_eq_true h0]at k';exact k'
   refine iteNo h0 ?_;have k':Q (.bl (decide (0<=i) && decide (i<=65535))) H:=k;rw[decide_eq_false h0]at k';exact k'
theorem q32_(d:Dfn K mg "is_pace" z35_ ["thing"])(g:Gs K mg C CT CD cS PS CR CE CP CZ CV)(q14_:Fn P w K mg base "is_whole" 1 ["thing"] spWholeO):Fn P w K mg base "is_pace" 2 ["thing"] (spInO 1 8):=by
 refine d.fn z97_ (fun vs H Q E h=>?_) (fun f' cdv A outer st H vs Q E hr h=>?_)
 · obtain⟨o,rfl,_⟩:=h
   rfl
 obtain⟨o,rfl,k⟩:=h;refine⟨_,(B.sone (B.ret (B.and (B.fn q14_ hr.up (B.cons (B.v 0) B.nil)) (B.one (B.chain op_le op_le B.int (B.v 0) (B.gint g.c_GREATEST_PACE)))))),?_⟩;walk_at "W";refine wWholeO ?_;walk_at "W";cases o with
 | none=>exact iteF k
 | some i=>
   rw[show oV (some i)=V.int i from rfl];refine iteT ?_;walk_at "W";by_cases h0:1<=i
   · refine iteY h0 ?_
     walk_at "W";have k':Q (.bl (decide (1<=i) && decide (i<=8))) H:=k;rw[decide_eq_true h0]at k';exact k'
   refine iteNo h0 ?_;have k':Q (.bl (decide (1<=i) && decide (i<=8))) H:=k;rw[decide_eq_false h0]at k';exact k'
theorem q40_(d:Dfn K mg "is_point" z36_ ["thing"])(g:Gs K mg C CT CD cS PS CR CE CP CZ CV)(q14_:Fn P w K mg base "is_whole" 1 ["thing"] spWholeO):Fn P w K mg base "is_point" 2 ["thing"] (spInO 0 65535):=by
 refine d.fn z98_ (fun vs H Q E h=>?_) (fun f' cdv A outer st H vs Q E hr h=>?_)
 · obtain⟨o,rfl,_⟩:=h
   rfl
 obtain⟨o,rfl,k⟩:=h;refine⟨_,(B.sone (B.ret (B.and (B.fn q14_ hr.up (B.cons (B.v 0) B.nil)) (B.one (B.chain op_le op_le B.int (B.v 0) (B.gint g.c_LAST_POINT)))))),?_⟩;walk_at "W";refine wWholeO ?_;walk_at "W";cases o with
 | none=>exact iteF k
 | some i=>
   rw[show oV (some i)=V.int i from rfl];refine iteT ?_;walk_at "W";by_cases h0:0<=i
   · refine iteY h0 ?_
     walk_at "W";have k':Q (.bl (decide (0<=i) && decide (i<=65535))) H:=k;rw[decide_eq_true h0]at k';exact k'
   refine iteNo h0 ?_;have k':Q (.bl (decide (0<=i) && decide (i<=65535))) H:=k;rw[decide_eq_false h0]at k';exact k'
theorem q7_(d:Dfn K mg "are_figures" z31_ ["text"])(g:Gs K mg C CT CD cS PS CR CE CP CZ CV):Fn P w K mg base "are_figures" 1 ["text"] spFigsB:=by
 refine d.fn z93_ (fun vs H Q E h=>?_) (fun f' cdv A outer st H vs Q E hr h=>?_)
 · obtain⟨x,rfl,_⟩:=h
   rfl
 obtain⟨x,rfl,hx,hl,k⟩:=h;have lim:sizeLine=16777216:=sizeLine_eq;refine⟨_,(B.scons (B.ifs (B.tw (B.wor (B.tnot (B.tchain op_le op_le B.int (B.cB call_len_str g.b_len SW.b_len (B.cons (B.v 0) B.nil)) (B.gint g.c_MOST_FIGURES))) (B.wor1 (B.tnot (B.tval (B.cB SW.call_allL g.b_all SW.b_all (B.cons (SW.B.comp [] ["sign"] (SW.CompScope.of rfl rfl (by decide +kernel) (by decide +kernel) rfl trivial rfl rfl rfl) (by decide +kernel) (SW.B.istr (B.v 0)) (fun _ _ _ _=>(B.cmpI op_in_str (B.v 0) (SW.B.gstr g.c_FIGURES)))) B.nil))))))) (B.sone (B.ret B.bl)) B.snil)
  (B.sone (B.ret (B.or (B.cmp op_eq (B.v 0) B.str) (B.one (B.not (B.m PySem.F.plainAttrs_str PySem.F.slot_str_startswith PySem.F.type_str_startswith SW.mt_startswith (B.v 0) (B.cons B.str B.nil)))))))),?_⟩
 walk_at "W";refine⟨_,rfl,by omega,?_⟩
 walk_at "W";by_cases h1:(1:Int)<=(x.length:Nat)
 · refine iteY h1 ?_
   walk_at "W";by_cases h2:((x.length:Nat):Int)<=10
   · refine iteNS h2 ?_
     walk_at "W";refine wIStr ?_;walk_at "W";refine⟨_,rfl,hx,fun D hD=>?_⟩;have hsz:x.cps.size=x.length:=rfl;refine comp_strU (fun i σ' H'=>∃ v:Option V,σ'=[v]/\Same H H'/\H' D=some (.lst (((x.cps.toList.take i).map fun c=>decide (48<=c) && decide (c<=57)).map V.bl))) ⟨none,rfl,Same.new hD,by rw[List.take_zero];exact upd_same⟩ ?_ ?_
     · rintro i σ' H' hi ⟨v,rfl,s',hD'⟩
       walk_at "W";refine⟨_,_,rfl,rfl,?_⟩;have hi':i < x.cps.toList.length:=by simpa using hi
       have hc:x.cps.toList[i]?=some (x.cps.getD i 0):=by
        rw[List.getElem?_eq_getElem hi'];simp[Array.getD,show i < x.cps.size from hi]
       unfold sgn;rw[fig_in];refine CN.mk hi hD' (by rw[List.length_map,List.length_map,List.length_take];omega) ⟨_,rfl,fun b o e=>by rw[upd_ne (ne_of_none e hD)];exact s' _ _ e,?_⟩
       rw[upd_same,take_snocF hc,List.map_append,List.map_append]
       rfl
     rintro σ' H' ⟨v,rfl,s',hD'⟩;walk_at "W";refine⟨D,_,rfl,SqL.of hD',rfl,?_⟩;have el:x.cps.toList.take x.cps.size=x.cps.toList:=List.take_of_length_le (by simp)
     rw[el];have ea:(x.cps.toList.map fun c=>decide (48<=c) && decide (c<=57)).all id=x.cps.toList.all fun c=>decide (48<=c) && decide (c<=57):=by
      rw[List.all_map];rfl
     rw[ea];walk_at "W";have kk:=k H' s';unfold figB at kk;rw[decide_eq_true (show 1<=x.length by omega),decide_eq_true (show x.length<=10 by omega),Bool.true_and,Bool.true_and]at kk
     cases e:x.cps.toList.all fun c=>decide (48<=c) && decide (c<=57)with
     | false=>
       rw[e]at kk;refine iteT ?_;walk_at "W";exact kk
     | true=>
       rw[e,Bool.true_and]at kk;refine iteF ?_;walk_at "W";refine⟨rfl,?_⟩;refine⟨_,rfl,?_⟩;by_cases h0:x=Str.ofString "0"
       · refine iteY (by rw[h0]) ?_
         rw[h0,beq_self_eq_true,Bool.true_or]at kk;exact kk
       refine iteNo (fun z=>h0 (by injection z)) ?_
       rw[beq_eq_false_iff_ne.mpr h0,Bool.false_or]at kk;walk_at "W";refine wBM ?_;walk_at "W";refine⟨rfl,?_⟩;walk_at "W";refine⟨_,_,rfl,rfl,?_⟩;walk_at "W";exact kk
   refine iteNN h2 ?_;walk_at "W";have kk:=k H (fun _ _ e=>e);unfold figB at kk;rw[decide_eq_false (show ¬ x.length<=10 by omega),Bool.and_false,Bool.false_and,Bool.false_and]at kk
   exact kk
 refine iteNo h1 ?_;walk_at "W";have kk:=k H (fun _ _ e=>e);unfold figB at kk;rw[decide_eq_false (show ¬ 1<=x.length by omega),Bool.false_and,Bool.false_and,Bool.false_and]at kk
 rw[if_pos (show(!false)=true from rfl),if_pos rfl];walk_at "W";exact kk
theorem q29_(d:Dfn K mg "number_of" z49_ ["word"])(g:Gs K mg C CT CD cS PS CR CE CP CZ CV)(q2_:Fn P w K mg base "are_figures" 1 ["text"] spFigsB):Fn P w K mg base "number_of" 2 ["word"] spNumberB:=by
 refine d.fn z111_ (fun vs H Q E h=>?_) (fun f' cdv A outer st H vs Q E hr h=>?_)
 · obtain⟨x,rfl,_⟩:=h
   rfl
 obtain⟨x,rfl,hw,k⟩:=h;have lim:sizeLine=16777216:=sizeLine_eq;unfold wordOk at hw;simp only[Bool.and_eq_true,decide_eq_true_eq]at hw;obtain⟨⟨⟨⟨w1,w2⟩,w3⟩,w4⟩,w5⟩:=hw;refine⟨_,(B.scons (B.set 1 z111_.nd (B.ifx (B.tval (B.m PySem.F.plainAttrs_str PySem.F.slot_str_startswith PySem.F.type_str_startswith SW.mt_startswith (B.v 0) (B.cons B.str B.nil))) (B.slice SW.sl_str (B.v 0) (B.part B.int) B.nopart) (B.v 0)))
  (B.scons (B.ifs (B.tw (B.wor (B.tnot (B.tval (B.fn q2_ hr.up (B.cons (B.v 1) B.nil)))) (B.wor1 (B.tcmp op_eq (B.v 0) B.str)))) (B.sone (B.ret B.non)) B.snil)
  (B.sone (B.ret (B.cT SW.call_intT g.b_int SW.b_int (B.cons (B.v 0) B.nil)))))),?_⟩
 walk_at "W";rename_i N hN;have rest:N [some (.str x),some (.str (bare x))] H:=by
  refine SW.wGo hN ?_;walk_at "W";refine wFigsB w3 (by omega) fun H1 s1=>?_
  have kk:=k H1 s1;unfold numOf at kk;walk_at "W";cases e:figB (bare x)with
  | false=>
    have en:numC x=false:=by unfold numC;rw[e];rfl
    rw[en,if_neg (by decide)]at kk
    refine iteT ?_;walk_at "W";refine iteT ?_;walk_at "W";exact kk
  | true=>
    refine iteF ?_;walk_at "W";refine⟨rfl,?_⟩;walk_at "W";by_cases h0:x=Str.ofString "-0"
    · have en:numC x=false:=by unfold numC;rw[h0,beq_self_eq_true];simp
      rw[en,if_neg (by decide)]at kk
      refine iteY (by rw[h0]) ?_
      walk_at "W";exact kk
    have en:numC x=true:=by unfold numC;rw[e,beq_eq_false_iff_ne.mpr h0];rfl
    rw[en,if_pos rfl]at kk;rw[en]at w5;have w5:(PySem.intText? x).isSome=true:=w5;obtain⟨n,hn⟩:=Option.isSome_iff_exists.mp w5;rw[hn]at kk;refine iteNo (fun z=>h0 (by injection z)) ?_
    walk_at "W";refine⟨_,n,rfl,by omega,hn,?_⟩
    walk_at "W";exact kk
 clear hN;refine wBM ?_;walk_at "W";refine⟨rfl,?_⟩;walk_at "W";refine⟨_,_,rfl,rfl,?_⟩;walk_at "W";cases e:Txt.startswith x (Str.ofString "-")with
 | true=>
   have eb:bare x=cutS x (some 1) none:=by unfold bare;rw[e,if_pos rfl]
   rw[eb]at rest w4;refine iteT ?_;walk_at "W";refine⟨1,rfl,?_⟩;walk_at "W";refine⟨_,rfl,by omega,?_⟩
   walk_at "W";exact rest
 | false=>
   have eb:bare x=x:=by unfold bare;rw[e,if_neg (by decide)]
   rw[eb]at rest;refine iteF ?_;walk_at "W";exact rest
theorem ok_lawX9(a:True):True:=by
 have:=@q62_;have:=@q17_;have:=@q64_;have:=@q27_;have:=@q32_;have:=@q40_;have:=@q7_;have:=@q29_;have:=@ok_lawX4
 trivial
def suchB(wd:PySem.Str)(ns:List (Option Int)):Bool:=
 if wd=PySem.Str.ofString "table" then decide (ns.length=3) && ((ns.take 2).all (inO 0 65535) && inO 1 8 (ns.getD 2 none))
 else if wd=PySem.Str.ofString "put" then decide (ns.length=2) && (inO 0 1000000000 (ns.getD 0 none) && inO (-1000000000) 1000000000 (ns.getD 1 none))
 else if wd=PySem.Str.ofString "look" ∨ wd=PySem.Str.ofString "cut" then decide (ns.length=1) && inO 0 1000000000 (ns.getD 0 none)
 else if wd=PySem.Str.ofString "step" then decide (ns.length=1) && inO 0 65535 (ns.getD 0 none)
 else decide (wd=PySem.Str.ofString "keys" ∨ wd=PySem.Str.ofString "places" ∨ wd=PySem.Str.ofString "touched") && decide (ns.length=0)
def spSuchB:Sp:=fun vs H Q _=>∃(wd:PySem.Str) (l:Addr) (ns:List (Option Int)),vs=[.str wd,.ref l]/\H l=some (.lst (ns.map oV))/\ns.length<=1000 /\ ∀ H',Same H H'->Q (.bl (suchB wd ns)) H'
theorem wSuchB{wd:PySem.Str}{l:Addr}{ns:List (Option Int)}{H:Hp}{Q:VK}{E:XK}(h:H l=some (.lst (ns.map oV)))(hl:ns.length<=1000)(k:∀ H',Same H H'->Q (.bl (suchB wd ns)) H'):spSuchB ([.str wd,.ref l]++[]) H Q E:=⟨wd,l,ns,rfl,h,hl,k⟩
theorem str_inV(x:PySem.Str)(ys:List PySem.Str):inV (V.str x) (ys.map V.str)=decide (x∈ys):=by
 induction ys with
 | nil=>rfl
 | cons y ys ih=>
   show(y == x || inV (V.str x) (ys.map V.str))=_;rw[ih];by_cases h:y=x
   · subst h;simp
   have h':¬ x=y:=fun e=>h e.symm;simp[h,h',beq_eq_false_iff_ne.mpr h]
theorem q53_(d:Dfn K mg "is_such_row" z38_ ["word","numbers"])(g:Gs K mg C CT CD cS PS CR CE CP CZ CV)(q8_:Fn P w K mg base "is_key" 2 ["thing"] (spInO 0 1000000000))(q15_:Fn P w K mg base "is_worth" 2 ["thing"] (spInO (-1000000000) 1000000000))(q9_:Fn P w K mg base "is_mixer_part" 2 ["thing"] (spInO 0 65535))(q10_:Fn P w K mg base "is_pace" 2 ["thing"] (spInO 1 8))(q11_:Fn P w K mg base "is_point" 2 ["thing"] (spInO 0 65535)):Fn P w K mg base "is_such_row" 3 ["word","numbers"] spSuchB:=by
 refine d.fn z100_ (fun vs H Q E h=>?_) (fun f' cdv A outer st H vs Q E hr h=>?_)
 · obtain⟨wd,l,ns,rfl,_⟩:=h
   rfl
 obtain⟨wd,l,ns,rfl,hl,hn,k⟩:=h;have lim:sizeLine=16777216:=sizeLine_eq;unfold suchB at k;refine⟨_,(B.scons (B.ifs (B.tcmp op_eq (B.v 0) B.str) (B.sone (B.ret (B.and (B.cmp op_eq (B.cB call_len_seq g.b_len SW.b_len (B.cons (B.v 1) B.nil)) B.int) (B.and (B.cB SW.call_allL g.b_all SW.b_all (B.cons (SW.B.comp [] ["part"] (SW.CompScope.of rfl rfl (by decide +kernel) (by decide +kernel) rfl trivial rfl rfl rfl) (by decide +kernel) (B.ilist (B.slice sl_list (B.v 1) B.nopart (B.part B.int))) (fun _ _ _ _=>(B.fn q9_ hr.up (B.cons (B.v 0) B.nil)))) B.nil)) (B.one (B.fn q10_ hr.up (B.cons (B.ix ix_list (B.v 1) B.int) B.nil))))))) B.snil)
  (B.scons (B.ifs (B.tcmp op_eq (B.v 0) B.str) (B.sone (B.ret (B.and (B.cmp op_eq (B.cB call_len_seq g.b_len SW.b_len (B.cons (B.v 1) B.nil)) B.int) (B.and (B.fn q8_ hr.up (B.cons (B.ix ix_list (B.v 1) B.int) B.nil)) (B.one (B.fn q15_ hr.up (B.cons (B.ix ix_list (B.v 1) B.int) B.nil))))))) B.snil)
  (B.scons (B.ifs (B.tcmpI op_in_seq (B.v 0) (B.tup (B.cons B.str (B.cons B.str B.nil)))) (B.sone (B.ret (B.and (B.cmp op_eq (B.cB call_len_seq g.b_len SW.b_len (B.cons (B.v 1) B.nil)) B.int) (B.one (B.fn q8_ hr.up (B.cons (B.ix ix_list (B.v 1) B.int) B.nil)))))) B.snil)
  (B.scons (B.ifs (B.tcmp op_eq (B.v 0) B.str) (B.sone (B.ret (B.and (B.cmp op_eq (B.cB call_len_seq g.b_len SW.b_len (B.cons (B.v 1) B.nil)) B.int) (B.one (B.fn q11_ hr.up (B.cons (B.ix ix_list (B.v 1) B.int) B.nil)))))) B.snil)
  (B.sone (B.ret (B.and (B.cmpI op_in_seq (B.v 0) (B.tup (B.cons B.str (B.cons B.str (B.cons B.str B.nil))))) (B.one (B.cmp op_eq (B.cB call_len_seq g.b_len SW.b_len (B.cons (B.v 1) B.nil)) B.int))))))))),?_⟩
 walk_at "W";refine⟨rfl,?_⟩;walk_at "W";by_cases e1:wd=Str.ofString "table"
 · rw[if_pos e1]at k
   refine iteY (by rw[e1]) ?_
   walk_at "W";refine SW.iLen (.inl (SqL.of hl)) ?_;rw[List.length_map];walk_at "W";by_cases h3:ns.length=3
   · obtain⟨a,b,p,rfl⟩:∃ a b p,ns=[a,b,p]:=by
      match ns,h3 with
      | [a,b,p],_=>exact⟨a,b,p,rfl⟩
     refine iteY rfl ?_;walk_at "W";refine⟨2,rfl,l,_,rfl,SqL.of hl,fun l1 hl1=>?_⟩;have ec:cutV ([a,b,p].map oV) none (some 2)=[oV a,oV b]:=rfl;rw[ec];have s1:=Same.new (o:=.lst [oV a,oV b]) hl1;have el1:upd H l1 (.lst [oV a,oV b]) l1=some (.lst [oV a,oV b]):=upd_same;generalize upd H l1 (.lst [oV a,oV b])=H1 at *;refine⟨l1,rfl,⟨_,SqL.of el1⟩,fun D hD=>?_⟩;refine comp_listU (xs:=[oV a,oV b]) (fun i σ' H'=>∃ v:Option V,σ'=[v]/\Same H1 H'/\H' D=some (.lst ((([a,b].take i).map (inO 0 65535)).map V.bl))) ⟨none,rfl,Same.new hD,upd_same⟩ (fun i σ' H' _ ⟨v,_,s',_⟩=>SqL.of (s' _ _ el1)) ?_ ?_
     · rintro i x σ' H' hx hi ⟨v,rfl,s',hD'⟩
       have hi:i < 2:=hi;obtain⟨z,rfl,ez⟩:∃ z,x=oV z/\[a,b][i]?=some z:=by
        match i,hx with
        | 0,hx=>cases hx;exact⟨a,rfl,rfl⟩
        | 1,hx=>cases hx;exact⟨b,rfl,rfl⟩
       walk_at "W";refine wInO ?_;refine CN.mk hi hD' (by rw[List.length_map,List.length_map,List.length_take];omega) ⟨_,rfl,fun b o e=>by rw[upd_ne (ne_of_none e hD)];exact s' _ _ e,?_⟩
       rw[upd_same,take_snocF ez,List.map_append,List.map_append]
       rfl
     rintro σ' H' ⟨v,rfl,s',hD'⟩;walk_at "W";refine⟨D,_,rfl,SqL.of hD',rfl,?_⟩;have hl':=(s1.trans s') _ _ hl;have kk:Q (.bl (([a,b].all (inO 0 65535)) && inO 1 8 p)) H':=by
      have z:=k H' (s1.trans s');rw[decide_eq_true (show[a,b,p].length=3 from rfl),Bool.true_and]at z;exact z
     rw[show(([a,b].take [oV a,oV b].length).map (inO 0 65535)).all id=[a,b].all (inO 0 65535)from rfl];refine⟨_,rfl,?_⟩;cases e:[a,b].all (inO 0 65535)with
     | false=>
       rw[e]at kk;exact iteF kk
     | true=>
       rw[e,Bool.true_and]at kk;refine iteT ?_;walk_at "W";exact wInO kk
   refine iteNo (fun z=>h3 (by injection z with z;omega)) ?_
   have kk:=k H (fun _ _ e=>e);rw[decide_eq_false h3,Bool.false_and]at kk;exact kk
 rw[if_neg e1]at k;refine iteNo (fun z=>e1 (by injection z)) ?_
 walk_at "W";refine⟨rfl,?_⟩;walk_at "W";by_cases e2:wd=Str.ofString "put"
 · rw[if_pos e2]at k
   refine iteY (by rw[e2]) ?_
   walk_at "W";refine SW.iLen (.inl (SqL.of hl)) ?_;rw[List.length_map];walk_at "W";by_cases h3:ns.length=2
   · obtain⟨a,b,rfl⟩:∃ a b,ns=[a,b]:=by
      match ns,h3 with
      | [a,b],_=>exact⟨a,b,rfl⟩
     have kk:Q (.bl (inO 0 1000000000 a && inO (-1000000000) 1000000000 b)) H:=by
      have z:=k H (fun _ _ e=>e);rw[decide_eq_true (show[a,b].length=2 from rfl),Bool.true_and]at z;exact z
     refine iteY rfl ?_;walk_at "W";refine wInO ?_;refine⟨_,rfl,?_⟩;cases e:inO 0 1000000000 a with
     | false=>rw[e]at kk;exact iteF kk
     | true=>
       rw[e,Bool.true_and]at kk;refine iteT ?_;walk_at "W";exact wInO kk
   refine iteNo (fun z=>h3 (by injection z with z;omega)) ?_
   have kk:=k H (fun _ _ e=>e);rw[decide_eq_false h3,Bool.false_and]at kk;exact kk
 rw[if_neg e2]at k;refine iteNo (fun z=>e2 (by injection z)) ?_
 walk_at "W";refine⟨by show(2:Nat)<=sizeLine;decide,fun q1 hq1=>?_⟩
 have s1:=Same.new (o:=.tup [.str "look",.str "cut"]) hq1;walk_at "W";refine⟨q1,_,rfl,.inr (SqT.of upd_same),rfl,rfl,?_⟩;have ei:=str_inV wd [Str.ofString "look",Str.ofString "cut"];rw[show inV (V.str wd) [V.str (Str.ofString "look"),V.str (Str.ofString "cut")]=decide (wd∈[Str.ofString "look",Str.ofString "cut"])from ei];generalize upd H q1 (.tup [.str "look",.str "cut"])=H1 at *;have hl1:=s1 _ _ hl;walk_at "W";by_cases e3:wd∈[Str.ofString "look",Str.ofString "cut"]
 · have e3':wd=Str.ofString "look" ∨ wd=Str.ofString "cut":=by simpa using e3
   rw[if_pos e3']at k;refine iteY e3 ?_;walk_at "W";refine SW.iLen (.inl (SqL.of hl1)) ?_;rw[List.length_map];walk_at "W";by_cases h3:ns.length=1
   · obtain⟨a,rfl⟩:∃ a,ns=[a]:=by
      match ns,h3 with
      | [a],_=>exact⟨a,rfl⟩
     have kk:Q (.bl (inO 0 1000000000 a)) H1:=by
      have z:=k H1 s1;rw[decide_eq_true (show[a].length=1 from rfl),Bool.true_and]at z;exact z
     refine iteY rfl ?_;walk_at "W";exact wInO kk
   refine iteNo (fun z=>h3 (by injection z with z;omega)) ?_
   have kk:=k H1 s1;rw[decide_eq_false h3,Bool.false_and]at kk;exact kk
 have e3':¬ (wd=Str.ofString "look" ∨ wd=Str.ofString "cut"):=by simpa using e3
 rw[if_neg e3']at k;refine iteNo e3 ?_;walk_at "W";refine⟨rfl,?_⟩;walk_at "W";by_cases e4:wd=Str.ofString "step"
 · rw[if_pos e4]at k
   refine iteY (by rw[e4]) ?_
   walk_at "W";refine SW.iLen (.inl (SqL.of hl1)) ?_;rw[List.length_map];walk_at "W";by_cases h3:ns.length=1
   · obtain⟨a,rfl⟩:∃ a,ns=[a]:=by
      match ns,h3 with
      | [a],_=>exact⟨a,rfl⟩
     have kk:Q (.bl (inO 0 65535 a)) H1:=by
      have z:=k H1 s1;rw[decide_eq_true (show[a].length=1 from rfl),Bool.true_and]at z;exact z
     refine iteY rfl ?_;walk_at "W";exact wInO kk
   refine iteNo (fun z=>h3 (by injection z with z;omega)) ?_
   have kk:=k H1 s1;rw[decide_eq_false h3,Bool.false_and]at kk;exact kk
 rw[if_neg e4]at k;refine iteNo (fun z=>e4 (by injection z)) ?_
 walk_at "W";refine⟨by show(3:Nat)<=sizeLine;decide,fun q2 hq2=>?_⟩
 have s2:=Same.new (o:=.tup [.str "keys",.str "places",.str "touched"]) hq2;walk_at "W";refine⟨q2,_,rfl,.inr (SqT.of upd_same),rfl,rfl,?_⟩;have ej:=str_inV wd [Str.ofString "keys",Str.ofString "places",Str.ofString "touched"];rw[show inV (V.str wd) [V.str (Str.ofString "keys"),V.str (Str.ofString "places"),V.str (Str.ofString "touched")]=decide (wd∈[Str.ofString "keys",Str.ofString "places",Str.ofString "touched"])from ej];generalize upd H1 q2 (.tup [.str "keys",.str "places",.str "touched"])=H2 at *;have kk:=k H2 (s1.trans s2);refine⟨_,rfl,?_⟩;by_cases e5:wd∈[Str.ofString "keys",Str.ofString "places",Str.ofString "touched"]
 · have e5':wd=Str.ofString "keys" ∨ wd=Str.ofString "places" ∨ wd=Str.ofString "touched":=by simpa using e5
   rw[decide_eq_true e5',Bool.true_and]at kk;refine iteY e5 ?_;walk_at "W";refine SW.iLen (.inl (SqL.of (s2 _ _ hl1))) ?_;rw[List.length_map];walk_at "W";have ed:decide (V.int (ns.length:Nat)=V.int 0)=decide (ns.length=0):=by
    by_cases z:ns.length=0
    · rw[decide_eq_true z,decide_eq_true (by rw[z];rfl)]
    rw[decide_eq_false z,decide_eq_false (fun e=>z (by injection e with e;omega))]
   rw[ed];exact kk
 have e5':¬ (wd=Str.ofString "keys" ∨ wd=Str.ofString "places" ∨ wd=Str.ofString "touched"):=by simpa using e5
 rw[decide_eq_false e5',Bool.false_and]at kk;exact iteNo e5 kk
theorem ok_lawX10(a:True):True:=by
 have:=@q53_;have:=@ok_lawX9
 trivial
def noRow(r:PySem.Str)(b:Bool):Bool:=
 match Txt.split r (PySem.Str.ofString " ")with
 | []=>false
 | wd::ws=>decide (r.length<=10000) && (decide (ws.length<=1000) && (ws.all wordOk && (!suchB wd (ws.map numOf) || (!b && !decide (wd=PySem.Str.ofString "table")))))
def spSayNo(K:W.Frag)(CD CR:Addr):Sp:=fun vs H Q E=>∃(q dq:Addr) (tv v:V),vs=[.ref q,v]/\H q=some (.ins CD dq [("table",tv)]) /\
 ((∃ t,TyOf K H v t/\W.kitOne K t (.type "str")=some false) ∨ ∃ r b,v=.str r/\noRow r b=true/\(b=false->tv=.non)) /\ ∀ H',Same H H'->E (.ref CR) none H'
theorem split_wide{r s:PySem.Str}(h:r.length<=10000)(hs:(s.length == 0)=false):(PySem.Builtin.Str.partsBetween r (PySem.Builtin.Str.occurrences r s 0 r.length (r.length+1)) s.length).length<=sizeLine:=by
 have lim:sizeLine=16777216:=sizeLine_eq;have h3:=PySem.StrLaws.occ_length_le r s 0 r.length (r.length+1);rw[PyProof.Rows.len_partsBetween];omega
theorem D_sayNo(d:Dm K CD "say" "Desk.say" z1_ ["self","row"])(g:Gs K mg C CT CD cS PS CR CE CP CZ CV)(q30_:Fn P w K mg base "number_of" 2 ["word"] spNumberB)(q13_:Fn P w K mg base "is_such_row" 3 ["word","numbers"] spSuchB)(q67_:Mkr P w K mg base CT "Table" 6 ["self","mixer","pace","state"] (spTInit C CT))(q1_:Fn P w K mg base "answer_of" 9 ["table","word","numbers"] (spAns C CT PS lamP lamQ)):MtX P w K mg base CD "say" 10 ["self","row"] (spSayNo K CD CR):=by
 refine d.mtX z63_ (fun vs H Q E h=>?_) (fun f' cdv A outer st H vs Q E hr h=>?_)
 · obtain⟨q,dq,tv,v,rfl,_⟩:=h
   rfl
 obtain⟨q,dq,tv,v,rfl,hq,hv,k⟩:=h;have lim:sizeLine=16777216:=sizeLine_eq;refine⟨_,(B.scons (B.ifs (B.tnot (B.tval (B.cB SW.call_isi g.b_isinstance SW.b_isinstance (B.cons (B.v 1) (B.cons (B.ty g.b_str SW.b_str) B.nil))))) (B.sone (SW.B.raise g.e_NoRow)) B.snil)
  (B.scons (B.set 2 z63_.nd (B.m PySem.F.plainAttrs_str PySem.F.slot_str_split PySem.F.type_str_split SW.mt_split (B.v 1) (B.cons B.str B.nil)))
  (B.scons (SW.B.compSet 3 [] ["word"] (SW.CompScope.of rfl rfl (by decide +kernel) (by decide +kernel) rfl trivial rfl rfl rfl) (by decide +kernel) z63_.nd (B.ilist (B.slice sl_list (B.v 2) (B.part B.int) B.nopart)) (fun _ _ _ _=>(B.fn q30_ hr.up (B.cons (B.v 0) B.nil))))
  (B.scons (B.ifs (B.tnot (B.tval (B.fn q13_ hr.up (B.cons (B.ix ix_list (B.v 2) B.int) (B.cons (B.v 3) B.nil))))) (B.sone (SW.B.raise g.e_NoRow)) B.snil)
  (B.scons (B.ifs (B.tcmp op_eq (B.ix ix_list (B.v 2) B.int) B.str) (B.scons (B.sfld (B.v 0) (B.make q67_ hr.up (B.cons (B.tup (B.cons (B.ix ix_list (B.v 3) B.int) (B.cons (B.ix ix_list (B.v 3) B.int) B.nil))) (B.cons (B.ix ix_list (B.v 3) B.int) (B.cons B.non B.nil)))))
  (B.sone (B.ret B.str))) B.snil)
  (B.scons (B.ifs (B.tcmp op_isN (B.fld (B.v 0)) B.non) (B.sone (SW.B.raise g.e_NoRow)) B.snil)
  (B.sone (B.ret (B.fn q1_ hr.up (B.cons (B.fld (B.v 0)) (B.cons (B.ix ix_list (B.v 2) B.int) (B.cons (B.v 3) B.nil)))))))))))),?_⟩
 walk_at "W";rcases hv with ⟨t,ty,hk⟩ | ⟨r,b,rfl,hn,hb⟩
 · refine SW.iIsi ty hk ?_
   walk_at "W";rw[if_pos (show(!false)=true from rfl)];exact k H fun _ _ e=>e
 refine SW.iIsi (.str _) isi_str_str ?_;walk_at "W";refine iteF ?_;walk_at "W";refine wBM ?_;walk_at "W";refine⟨rfl,?_⟩;walk_at "W";unfold noRow at hn;have hsp:((PySem.Str.ofString " ").length == 0)=false:=by decide
 cases es:Txt.split r (PySem.Str.ofString " ")with
 | nil=>rw[es]at hn;cases hn
 | cons wd ws=>
 rw[es]at hn;simp only[Bool.and_eq_true,decide_eq_true_eq]at hn;obtain⟨hr1,hw1,hwo,hcase⟩:=hn;refine⟨r,_,rfl,rfl,hsp,by omega,split_wide hr1 hsp,by rw[es,List.length_cons];omega,fun l hl=>?_⟩
 rw[es];have s1:=Same.new (o:=.lst ((wd::ws).map V.str)) hl;have e1:upd H l (.lst ((wd::ws).map V.str)) l=some (.lst (.str wd::ws.map V.str)):=upd_same;have hq1:=s1 _ _ hq;generalize upd H l (.lst ((wd::ws).map V.str))=H1 at *;walk_at "W";refine⟨1,rfl,l,_,rfl,SqL.of e1,fun l1 hl1=>?_⟩;rw[cut_tl];have s2:=Same.new (o:=.lst (ws.map V.str)) hl1;have e2:upd H1 l1 (.lst (ws.map V.str)) l1=some (.lst (ws.map V.str)):=upd_same;have e1':=s2 _ _ e1;have hq2:=s2 _ _ hq1;generalize upd H1 l1 (.lst (ws.map V.str))=H2 at *;refine⟨l1,rfl,⟨_,SqL.of e2⟩,fun D hD=>?_⟩;refine comp_listU (xs:=ws.map V.str) (fun i σ' H'=>∃ v:Option V,σ'=[v]/\Same H2 H'/\H' D=some (.lst (((ws.take i).map numOf).map oV))) ⟨none,rfl,Same.new hD,by rw[upd_same];rfl⟩ (fun i σ' H' _ ⟨v,_,s',_⟩=>SqL.of (s' _ _ e2)) ?_ ?_
 · rintro i x σ' H' hx hi ⟨v,rfl,s',hD'⟩
   rw[List.getElem?_map]at hx;cases hz:ws[i]? with
   | none=>rw[hz]at hx;cases hx
   | some z=>
     rw[hz]at hx;cases hx;walk_at "W";refine wNumberB (List.all_eq_true.mp hwo z (List.mem_of_getElem? hz)) fun H3 s3=>?_;have hD3:=s3 _ _ hD';refine CN.mk hi hD3 (by rw[List.length_map,List.length_map,List.length_take];omega) ⟨_,rfl,fun b o e=>by rw[upd_ne (ne_of_none e hD)];exact s3 _ _ (s' _ _ e),?_⟩
     rw[upd_same,take_snocF hz,List.map_append,List.map_append]
     rfl
 rintro σ' H' ⟨v,rfl,s',hD'⟩;have el:(ws.map V.str).length=ws.length:=by rw[List.length_map]
 rw[el,List.take_length]at hD';have s3:Same H H':=(s1.trans s2).trans s';have hq3:=s3 _ _ hq;have e3:=s' _ _ e1';clear s1 s2 s' e1 e1' e2 hq1 hq2;walk_at "W";refine wIxL e3 (at_0 _ _) ?_;walk_at "W";refine wSuchB hD' (by rw[List.length_map];exact hw1) fun H4 s4=>?_
 have hq4:=s4 _ _ hq3;have e4:=s4 _ _ e3;have s5:=s3.trans s4;clear s3 s4 hq3 e3 hD';walk_at "W";cases hsu:suchB wd (ws.map numOf)with
 | false=>
   rw[if_pos (show(!false)=true from rfl)];exact k H4 s5
 | true=>
   refine iteF ?_;rw[hsu]at hcase;have hcase:(b=false /\ ¬ wd=PySem.Str.ofString "table"):=by simpa using hcase
   obtain⟨hb',hwd⟩:=hcase;obtain rfl:=hb hb';walk_at "W";refine wIxL e4 (at_0 _ _) ?_;walk_at "W";refine⟨rfl,?_⟩;walk_at "W";refine iteNo (fun z=>hwd (V.str.inj z)) ?_;walk_at "W";refine SW.iFld hq4 g.cl_Desk g.n_Desk_table rfl ?_;walk_at "W";refine⟨rfl,?_⟩;walk_at "W";refine iteY rfl ?_;exact k H4 s5
theorem ok_lawX11(a:True):True:=by
 have:=@D_sayNo;have:=@ok_lawX10
 trivial
theorem b_ValueErrorX:bootBuiltins "ValueError"=some (.type "ValueError"):=by decide +kernel
def spRefused(K:W.Frag)(CD:Addr):Sp:=fun vs H Q _=>∃(q dq:Addr) (tv v:V),vs=[.ref q,v]/\H q=some (.ins CD dq [("table",tv)]) /\
 ((∃ t,TyOf K H v t/\W.kitOne K t (.type "str")=some false) ∨ ∃ r b,v=.str r/\noRow r b=true/\(b=false->tv=.non)) /\ ∀ H',Same H H'->Q (.bl true) H'
theorem wTry{K:W.Frag}{te:XK->TE}{CB:Addr}{i:Nat}{ts:TS}{D:L2.Ends}{σ:L2.St}{H:Hp}(h:te (fun cls _ H'=>∃ C,cls=.ref C/\W.exmOne K (.ref C) (.ref CB)=some true /\ ∀ ea,H' ea=none->ts { nx:=fun σ2 H2=>D.nx (σ2.set i none) H2,rt:=fun _ _=>False } (σ.set i (some (.ref ea))) (upd H' ea (excO ea C))) σ H (fun _ H1=>D.nx σ H1)):tTry K te CB i ts D σ H:=h
theorem kit_self{K:W.Frag}{C:Addr}:W.kitOne K (.ref C) (.ref C)=some true:=by
 simp[W.kitOne]
theorem q43_(d:Dfn K mg "_law_refused" z43_ ["desk","row"])(g:Gs K mg C CT CD cS PS CR CE CP CZ CV)(q68_:MtX P w K mg base CD "say" 10 ["self","row"] (spSayNo K CD CR)):Fn P w K mg base "_law_refused" 11 ["desk","row"] (spRefused K CD):=by
 refine d.fn z105_ (fun vs H Q E h=>?_) (fun f' cdv A outer st H vs Q E hr h=>?_)
 · obtain⟨q,dq,tv,v,rfl,_⟩:=h
   rfl
 obtain⟨q,dq,tv,v,rfl,hq,hv,k⟩:=h;have lim:sizeLine=16777216:=sizeLine_eq;refine⟨_,(B.scons (B.set 2 z105_.nd B.bl) (B.scons (B.set 3 z105_.nd B.bl)
  (B.scons (SW.B.tryM (i:=4) (fun _=>B.v 0) g.cl_Desk q68_ hr.up (fun _=>B.cons (B.v 1) B.nil) g.m_SlowError z105_.nd
   (fun ea=>B.scons (B.set 2 z105_.nd (B.and (B.cB (SW.call_isiX K) g.b_isinstance SW.b_isinstance (B.cons (B.v 4) (B.cons (B.gref g.e_NoRow.m) B.nil))) (B.one (B.cB (SW.call_isiX K) g.b_isinstance SW.b_isinstance (B.cons (B.v 4) (B.cons (B.ty g.b_ValueError b_ValueErrorX) B.nil))))))
    (B.sone (B.set 3 z105_.nd (B.cB (SW.call_isiX K) g.b_isinstance SW.b_isinstance (B.cons (B.v 4) (B.cons (B.tup (B.cons (B.gref g.m_NoPlace) (B.cons (B.gref g.m_NoSize) (B.cons (B.gref g.m_NoState) B.nil)))) B.nil)))))))
  (B.sone (B.ret (B.and (B.v 2) (B.one (B.not (B.v 3))))))))),?_⟩
 walk_at "W";refine wTry ?_;refine wMeth ?_;walk_at "W";refine⟨q,dq,_,rfl,hq,rfl,?_⟩;walk_at "W";refine⟨q,dq,tv,v,rfl,hq,hv,fun H1 s1=>⟨CR,rfl,g.x_slow,fun ea hea=>?_⟩⟩;have s2:=s1.trans (Same.new (o:=excO ea CR) hea);have ee:upd H1 ea (excO ea CR) ea=some (excO ea CR):=upd_same;generalize upd H1 ea (excO ea CR)=H2 at *;walk_at "W";refine⟨ea,CR,_,true,rfl,ee,g.x_NoRow,.inl ⟨_,rfl,kit_self⟩,?_⟩;walk_at "W";rw[if_pos rfl];walk_at "W";refine⟨ea,CR,_,true,rfl,ee,g.x_NoRow,.inl ⟨_,rfl,g.x_val⟩,?_⟩;walk_at "W";refine⟨by show(3:Nat)<=sizeLine;omega,fun tp htp=>?_⟩
 have s3:=Same.new (o:=.tup [.ref CP,.ref CZ,.ref CV]) htp;have et:upd H2 tp (.tup [.ref CP,.ref CZ,.ref CV]) tp=some (.tup ([CP,CZ,CV].map V.ref)):=upd_same;have ee3:=s3 _ _ ee;have s4:=s2.trans s3;generalize upd H2 tp (.tup [.ref CP,.ref CZ,.ref CV])=H3 at *;refine⟨ea,CR,_,false,rfl,ee3,g.x_NoRow,.inr ⟨tp,[CP,CZ,CV],rfl,et,g.x_oth⟩,?_⟩;walk_at "W"
 dsimp only
 walk_at "W";rw[if_pos rfl];walk_at "W";exact k H3 s4
def lk60:PySem.Str:=⟨#[108,111,111,107,32]++(List.replicate 60 55).toArray⟩
def badT:List PySem.Str:=[PySem.Str.ofString "",PySem.Str.ofString " ",PySem.Str.ofString "table",PySem.Str.ofString "table 1 2",PySem.Str.ofString "table 1 2 3 4",PySem.Str.ofString "table 65536 0 1",PySem.Str.ofString "table 0 65536 1",PySem.Str.ofString "table 0 0 0",PySem.Str.ofString "table 0 0 9",PySem.Str.ofString "table -1 0 1",PySem.Str.ofString "table 00 0 1",PySem.Str.ofString "table  0 0 1",PySem.Str.ofString "table 0 0 1 ",PySem.Str.ofString " table 0 0 1",PySem.Str.ofString "Table 0 0 1",PySem.Str.ofString "put",PySem.Str.ofString "put 1",PySem.Str.ofString "put 1 2 3",PySem.Str.ofString "put -1 2",PySem.Str.ofString "put 1000000001 2",PySem.Str.ofString "put 1 1000000001",PySem.Str.ofString "put 1 -1000000001",PySem.Str.ofString "put 01 2",PySem.Str.ofString "put 1 -0",PySem.Str.ofString "put 1 +5",PySem.Str.ofString "put 1 1_0",PySem.Str.ofString "put 1 -",PySem.Str.ofString "put 1 5.0",PySem.Str.ofString "put x 1",PySem.Str.ofString "look 1000000001",PySem.Str.ofString "look -05",PySem.Str.ofString "cut -0",PySem.Str.ofString "step 0065",PySem.Str.ofString "put 1 00",PySem.Str.ofString "put 1 -05",PySem.Str.ofString "put 1 -00",PySem.Str.ofString "put 1 --5",PySem.Str.ofString "look -0",PySem.Str.ofString "step -0",PySem.Str.ofString "put 1 - 5",PySem.Str.ofString "look",PySem.Str.ofString "look 1 2",PySem.Str.ofString "look -1",PySem.Str.ofString "look 12345678901",lk60,PySem.Str.ofString "look 1\n",PySem.Str.ofString "cut",PySem.Str.ofString "cut a",PySem.Str.ofString "cut 1 1",PySem.Str.ofString "cut 1000000001",PySem.Str.ofString "step",PySem.Str.ofString "step 65536",PySem.Str.ofString "step -1",PySem.Str.ofString "step 0 0",PySem.Str.ofString "step 00",PySem.Str.ofString "keys 1",PySem.Str.ofString "keys ",PySem.Str.ofString "places 1",PySem.Str.ofString " places",PySem.Str.ofString "touched 0",PySem.Str.ofString "touched\n",PySem.Str.ofString "state",PySem.Str.ofString "sound",PySem.Str.ofString "row 1",PySem.Str.ofString "put\n1 2",PySem.Str.ofString "PUT 1 2"]
theorem badT_no:badT.all (fun r=>noRow r true)=true:=by decide +kernel
def earlyT:List PySem.Str:=[PySem.Str.ofString "put 1 2",PySem.Str.ofString "look 1",PySem.Str.ofString "cut 1",PySem.Str.ofString "step 0",PySem.Str.ofString "keys",PySem.Str.ofString "places",PySem.Str.ofString "touched"]
theorem earlyT_no:earlyT.all (fun r=>noRow r false)=true:=by decide +kernel
structure Acc(H H':Hp)(l:Addr)(xs:List V):Prop where
 s:Same H H'
 f:H l=none
 h:H' l=some (.lst xs)
 n:xs.length<=1000
section
variable{H H':Hp}{l b p:Addr}{xs ys:List V}
theorem Acc.old{o:HO}(A:Acc H H' l xs)(hb:H' b=none):upd H' b o l=some (.lst xs):=by rw[upd_ne (ne_of_none A.h hb)];exact A.h
theorem Acc.new(hl:H l=none)(e:upd H l (.lst xs)=H')(n:xs.length<=1000):Acc H H' l xs:=by subst e;exact⟨Same.new hl,hl,upd_same,n⟩
theorem Acc.cat{H2:Hp}(A:Acc H H' l xs)(hb:H' b=none)(hp:upd H' b (.lst ys) p=none)(e:upd (upd H' b (.lst ys)) p (.lst (xs++ys))=H2)(hn:(xs++ys).length<=1000):Acc H H2 p (xs++ys):=by
 subst e;exact⟨(A.s.trans (Same.new hb)).trans (Same.new hp),A.s.free ((Same.new hb).free hp),upd_same,hn⟩
theorem Acc.app{H2:Hp}{y:V}(A:Acc H H' l xs)(e:upd H' l (.lst (xs++[y]))=H2)(hn:(xs++[y]).length<=1000):Acc H H2 l (xs++[y]):=by
 subst e;exact⟨fun b o e=>by rw[upd_ne (ne_of_none e A.f)];exact A.s _ _ e,A.f,upd_same,hn⟩
theorem Acc.keep{H2:Hp}(A:Acc H H' l xs)(s:Same H' H2):Acc H H2 l xs:=⟨A.s.trans s,A.f,s _ _ A.h,A.n⟩
theorem z60_eq{z:PySem.Str}(h:z.cps.toList=List.replicate (Int.toNat 60) 55):z=⟨(List.replicate 60 55).toArray⟩:=by
 obtain⟨c⟩:=z;have h:c.toList=List.replicate 60 55:=h;rw[← h]
end
def BadV(H:Hp)(v:V):Prop:=(∃ r,v=.str r/\r∈badT)∨v=.non∨v=.bl true∨(∃ i,v=.int i) ∨ ∃ a,v=.ref a/\((∃ xs,H a=some (.lst xs))∨(∃ xs,H a=some (.tup xs))∨H a=some (.dK []))
def spRows:Sp:=fun vs H Q _=>vs=[] /\ ∀ l xs H',Same H H'->H l=none->H' l=some (.lst xs)->xs.length=74->(∀ v∈xs,BadV H' v /\ ∀ a,v=.ref a->H a=none)->Q (.ref l) H'
theorem q45_(d:Dfn K mg "_law_rows" z45_ [])(g:Gs K mg C CT CD cS PS CR CE CP CZ CV):Fn P w K mg base "_law_rows" 1 [] spRows:=by
 refine d.fn z107_ (fun vs H Q E h=>?_) (fun f' cdv A outer st H vs Q E hr h=>?_)
 · obtain⟨rfl,_⟩:=h
   rfl
 obtain⟨rfl,k⟩:=h;have lim:sizeLine=16777216:=sizeLine_eq;refine⟨_,(B.scons (B.set 0 z107_.nd (B.lst (B.cons B.str (B.cons B.str (B.cons B.str (B.cons B.str (B.cons B.str (B.cons B.str (B.cons B.str (B.cons B.str B.nil))))))))))
  (B.scons (B.set 0 z107_.nd (B.op op_cat (B.v 0) (B.lst (B.cons B.str (B.cons B.str (B.cons B.str (B.cons B.str (B.cons B.str (B.cons B.str B.nil)))))))))
  (B.scons (B.set 0 z107_.nd (B.op op_cat (B.v 0) (B.lst (B.cons B.str (B.cons B.str (B.cons B.str (B.cons B.str (B.cons B.str (B.cons B.str (B.cons B.str B.nil))))))))))
  (B.scons (B.set 0 z107_.nd (B.op op_cat (B.v 0) (B.lst (B.cons B.str (B.cons B.str (B.cons B.str (B.cons B.str (B.cons B.str (B.cons B.str (B.cons B.str B.nil))))))))))
  (B.scons (B.set 0 z107_.nd (B.op op_cat (B.v 0) (B.lst (B.cons B.str (B.cons B.str (B.cons B.str (B.cons B.str (B.cons B.str (B.cons B.str (B.cons B.str B.nil))))))))))
  (B.scons (B.set 0 z107_.nd (B.op op_cat (B.v 0) (B.lst (B.cons B.str (B.cons B.str (B.cons B.str (B.cons B.str (B.cons B.str B.nil))))))))
  (B.scons (B.set 0 z107_.nd (B.op op_cat (B.v 0) (B.lst (B.cons B.str (B.cons B.str (B.cons B.str (B.cons B.str (B.cons (B.op op_add_str B.str (B.op SW.op_mulS B.str B.int)) (B.cons B.str (B.cons B.str (B.cons B.str B.nil)))))))))))
  (B.scons (B.set 0 z107_.nd (B.op op_cat (B.v 0) (B.lst (B.cons B.str (B.cons B.str (B.cons B.str (B.cons B.str (B.cons B.str (B.cons B.str (B.cons B.str (B.cons B.str B.nil)))))))))))
  (B.scons (B.expr (B.m PySem.F.plainAttrs_list PySem.F.slot_list_append PySem.F.type_list_append mt_append (B.v 0) (B.cons B.str B.nil)))
  (B.scons (B.set 0 z107_.nd (B.op op_cat (B.v 0) (B.lst (B.cons B.str (B.cons B.str (B.cons B.str (B.cons B.str (B.cons B.str (B.cons B.str (B.cons B.str (B.cons B.str (B.cons B.str B.nil))))))))))))
  (B.sone (B.ret (B.op op_cat (B.v 0) (B.lst (B.cons B.non (B.cons B.bl (B.cons B.int (B.cons (B.lst (B.cons B.str B.nil)) (B.cons (B.tup (B.cons B.str B.nil)) (B.cons B.dnew (B.cons B.int (B.cons (B.tup (B.cons B.str (B.cons B.int (B.cons B.int B.nil)))) B.nil)))))))))))))))))))))),?_⟩
 walk_at "W";refine⟨by show(8:Nat)<=sizeLine;omega,fun l1 hl=>?_⟩
 generalize e1:upd H l1 _=H1;have A1:=Acc.new hl e1 (Nat.le_of_ble_eq_true rfl);clear e1 hl;walk_at "W";refine⟨by show(6:Nat)<=sizeLine;omega,fun b hb=>?_⟩
 walk_at "W";refine⟨l1,b,_,_,rfl,rfl,A1.old hb,upd_same,by show(8+6:Nat)<=sizeLine;omega,fun l2 hp=>?_⟩
 generalize e2:upd _ l2 _=H2;have A2:=A1.cat hb hp e2 (Nat.le_of_ble_eq_true rfl);clear hb hp e2 A1;walk_at "W";refine⟨by show(7:Nat)<=sizeLine;omega,fun b hb=>?_⟩
 walk_at "W";refine⟨l2,b,_,_,rfl,rfl,A2.old hb,upd_same,by show(14+7:Nat)<=sizeLine;omega,fun l3 hp=>?_⟩
 generalize e3:upd _ l3 _=H3;have A3:=A2.cat hb hp e3 (Nat.le_of_ble_eq_true rfl);clear hb hp e3 A2;walk_at "W";refine⟨by show(7:Nat)<=sizeLine;omega,fun b hb=>?_⟩
 walk_at "W";refine⟨l3,b,_,_,rfl,rfl,A3.old hb,upd_same,by show(21+7:Nat)<=sizeLine;omega,fun l4 hp=>?_⟩
 generalize e4:upd _ l4 _=H4;have A4:=A3.cat hb hp e4 (Nat.le_of_ble_eq_true rfl);clear hb hp e4 A3;walk_at "W";refine⟨by show(7:Nat)<=sizeLine;omega,fun b hb=>?_⟩
 walk_at "W";refine⟨l4,b,_,_,rfl,rfl,A4.old hb,upd_same,by show(28+7:Nat)<=sizeLine;omega,fun l5 hp=>?_⟩
 generalize e5:upd _ l5 _=H5;have A5:=A4.cat hb hp e5 (Nat.le_of_ble_eq_true rfl);clear hb hp e5 A4;walk_at "W";refine⟨by show(5:Nat)<=sizeLine;omega,fun b hb=>?_⟩
 walk_at "W";refine⟨l5,b,_,_,rfl,rfl,A5.old hb,upd_same,by show(35+5:Nat)<=sizeLine;omega,fun l6 hp=>?_⟩
 generalize e6:upd _ l6 _=H6;have A6:=A5.cat hb hp e6 (Nat.le_of_ble_eq_true rfl);clear hb hp e6 A5;walk_at "W";refine⟨_,60,55,rfl,rfl,by decide,by decide,by decide,fun z60 hz60=>?_⟩
 obtain rfl:=z60_eq hz60;walk_at "W";refine⟨_,_,rfl,rfl,by show(5+60:Nat)<=sizeLine;omega,?_⟩
 walk_at "W";refine⟨by show(8:Nat)<=sizeLine;omega,fun b hb=>?_⟩
 walk_at "W";refine⟨l6,b,_,_,rfl,rfl,A6.old hb,upd_same,by show(40+8:Nat)<=sizeLine;omega,fun l7 hp=>?_⟩
 generalize e7:upd _ l7 _=H7;have A7:=A6.cat hb hp e7 (Nat.le_of_ble_eq_true rfl);clear hb hp e7 A6;walk_at "W";refine⟨by show(8:Nat)<=sizeLine;omega,fun b hb=>?_⟩
 walk_at "W";refine⟨l7,b,_,_,rfl,rfl,A7.old hb,upd_same,by show(48+8:Nat)<=sizeLine;omega,fun l8 hp=>?_⟩
 generalize e8:upd _ l8 _=H8;have A8:=A7.cat hb hp e8 (Nat.le_of_ble_eq_true rfl);clear hb hp e8 A7;walk_at "W";refine wBM ?_;walk_at "W";refine⟨.inl ⟨rfl,_,SqL.of A8.h⟩,?_⟩;walk_at "W";refine⟨l8,_,_,rfl,rfl,A8.h,by show(56:Nat) < sizeLine;omega,?_⟩
 generalize e9:upd _ l8 _=H9;have A9:=A8.app e9 (Nat.le_of_ble_eq_true rfl);clear e9 A8;walk_at "W";refine⟨by show(9:Nat)<=sizeLine;omega,fun b hb=>?_⟩
 walk_at "W";refine⟨l8,b,_,_,rfl,rfl,A9.old hb,upd_same,by show(57+9:Nat)<=sizeLine;omega,fun l10 hp=>?_⟩
 generalize e10:upd _ l10 _=H10;have A10:=A9.cat hb hp e10 (Nat.le_of_ble_eq_true rfl);clear hb hp e10 A9;walk_at "W"
 replace A10:Acc H H10 l10 (badT.map V.str):=A10
 refine⟨by show(1:Nat)<=sizeLine;omega,fun r1 h1=>?_⟩
 have s1:=Same.new (o:=.lst [.str (PySem.Str.ofString "keys")]) h1;have e1:upd H10 r1 (.lst [.str (PySem.Str.ofString "keys")]) r1=some (.lst [.str (PySem.Str.ofString "keys")]):=upd_same;have A11:=A10.keep s1;have f1:=A10.s.free h1;generalize upd H10 r1 _=H11 at *;walk_at "W";refine⟨by show(1:Nat)<=sizeLine;omega,fun r2 h2=>?_⟩
 have s2:=Same.new (o:=.tup [.str (PySem.Str.ofString "keys")]) h2;have e2:upd H11 r2 (.tup [.str (PySem.Str.ofString "keys")]) r2=some (.tup [.str (PySem.Str.ofString "keys")]):=upd_same;have A12:=A11.keep s2;have f2:=A11.s.free h2;generalize upd H11 r2 _=H12 at *;walk_at "W";refine fun r3 h3=>?_;have s3:=Same.new (o:=.dK []) h3;have e3:upd H12 r3 (.dK []) r3=some (.dK []):=upd_same;have A13:=A12.keep s3;have f3:=A12.s.free h3;generalize upd H12 r3 _=H13 at *;walk_at "W";refine⟨by show(3:Nat)<=sizeLine;omega,fun r4 h4=>?_⟩
 have s4:=Same.new (o:=.tup [.str (PySem.Str.ofString "put"),.int 1,.int 2]) h4;have e4:upd H13 r4 (.tup [.str (PySem.Str.ofString "put"),.int 1,.int 2]) r4=some (.tup [.str (PySem.Str.ofString "put"),.int 1,.int 2]):=upd_same;have A14:=A13.keep s4;have f4:=A13.s.free h4;generalize upd H13 r4 _=H14 at *;walk_at "W";refine⟨by show(8:Nat)<=sizeLine;omega,fun b hb=>?_⟩
 walk_at "W";refine⟨l10,b,_,_,rfl,rfl,A14.old hb,upd_same,by show(66+8:Nat)<=sizeLine;omega,fun l15 hp=>?_⟩
 have s5:=(Same.new (o:=.lst [V.non,.bl true,.int 5,.ref r1,.ref r2,.ref r3,.int 0,.ref r4]) hb).trans (Same.new (o:=.lst (badT.map V.str++[V.non,.bl true,.int 5,.ref r1,.ref r2,.ref r3,.int 0,.ref r4])) hp);have A15:=A14.cat hb hp rfl (Nat.le_of_ble_eq_true rfl);generalize upd _ l15 _=H15 at *;walk_at "W";refine k l15 _ H15 A15.s A15.f A15.h rfl fun v hv=>?_;rcases List.mem_append.mp hv with z | z
 · obtain⟨r,hr,rfl⟩:=List.mem_map.mp z
   exact⟨.inl ⟨r,rfl,hr⟩,fun a z=>nomatch z⟩
 simp only[List.mem_cons,List.not_mem_nil,or_false]at z;rcases z with rfl | rfl | rfl | rfl | rfl | rfl | rfl | rfl
 · exact⟨.inr (.inl rfl),fun a z=>nomatch z⟩
 · exact⟨.inr (.inr (.inl rfl)),fun a z=>nomatch z⟩
 · exact⟨.inr (.inr (.inr (.inl ⟨_,rfl⟩))),fun a z=>nomatch z⟩
 · exact⟨.inr (.inr (.inr (.inr ⟨_,rfl,.inl ⟨_,s5 _ _ (s4 _ _ (s3 _ _ (s2 _ _ e1)))⟩⟩))),fun a z=>by cases z;exact f1⟩
 · exact⟨.inr (.inr (.inr (.inr ⟨_,rfl,.inr (.inl ⟨_,s5 _ _ (s4 _ _ (s3 _ _ e2))⟩)⟩))),fun a z=>by cases z;exact f2⟩
 · exact⟨.inr (.inr (.inr (.inr ⟨_,rfl,.inr (.inr (s5 _ _ (s4 _ _ e3)))⟩))),fun a z=>by cases z;exact f3⟩
 · exact⟨.inr (.inr (.inr (.inl ⟨_,rfl⟩))),fun a z=>nomatch z⟩
 exact⟨.inr (.inr (.inr (.inr ⟨_,rfl,.inr (.inl ⟨_,s5 _ _ e4⟩)⟩))),fun a z=>by cases z;exact f4⟩
theorem ok_lawX14(a:True):True:=by
 have:=@q45_;have:=@q43_;have:=@ok_lawX11
 trivial
structure DkX(C CT CD:Addr)(n:Nat)(q dq tb:Addr)(f m:Int)(pc:Nat)(M:MT)(tc:Int)(F:Addr->Prop)(H:Hp):Prop where
 hq:H q=some (.ins CD dq [("table",.ref tb)])
 S:Tb C CT H tb f m pc M tc F
 gl:Lg n f m pc M tc
 nq:¬ F q
section
variable{C CT CD:Addr}{n:Nat}{q dq tb:Addr}{f m:Int}{pc:Nat}{M:MT}{tc:Int}{F X:Addr->Prop}{H H':Hp}
theorem DkX.keep(J:DkX C CT CD n q dq tb f m pc M tc F H)(k:SW.Fr X H H')(dq':¬ X q)(dj:∀ b,F b -> ¬ X b)(dt:∀ b xs,H b=some (.tup xs) -> ¬ X b):DkX C CT CD n q dq tb f m pc M tc F H':=
 ⟨k _ _ dq' J.hq,J.S.keep k dj dt,J.gl,J.nq⟩
theorem DkX.same(J:DkX C CT CD n q dq tb f m pc M tc F H)(s:Same H H'):DkX C CT CD n q dq tb f m pc M tc F H':=
 J.keep (X:=fun _=>False) (fun b o _ e=>s b o e) (fun z=>z) (fun _ _ z=>z) fun _ _ _ z=>z
theorem DkX.mono{n':Nat}(J:DkX C CT CD n q dq tb f m pc M tc F H)(h:n<=n'):DkX C CT CD n' q dq tb f m pc M tc F H:=⟨J.hq,J.S,J.gl.mono h,J.nq⟩
theorem DkX.lam{pos:Pos}{qual:Str}{PS:Addr}(J:DkX C CT CD n q dq tb f m pc M tc F H)(L:LamH pos qual H PS)(k:KeepBut PS H H'):DkX C CT CD n q dq tb f m pc M tc F H':=
 J.keep k.fr' (fun z=>Own3.notP L (.inl ⟨_,_,_,J.hq⟩) z) (fun b hb z=>Own3.notP L (J.S.own3 hb) z) fun b xs e z=>by
  obtain⟨ps,y⟩:=L.tbl;rw[z,y]at e;cases e
theorem DkX.deed{dd:Deed}{F':Addr->Prop}{H1:Hp}(J:DkX C CT CD n q dq tb f m pc M tc F H)(hb:DB dd)(S1:Tb C CT H1 tb f m pc (deedM f m pc M dd) (tch f m pc M (deedK dd)) F')(g1:Gr H F F')(f1:SW.Fr F H H1) :
 DkX C CT CD (n+1) q dq tb f m pc (deedM f m pc M dd) (tch f m pc M (deedK dd)) F' H1:=
 ⟨f1 _ _ J.nq J.hq,S1,J.gl.deed hb,fun z=>(g1 q z).elim J.nq fun y=>by rw[J.hq]at y;cases y⟩
end
theorem lam_free{pos:Pos}{qual:Str}{PS l:Addr}{H H':Hp}(L:LamH pos qual H' PS)(k:KeepBut PS H H')(h:H' l=none):H l=none:=by
 cases e:H l with
 | none=>rfl
 | some o=>
   by_cases z:l=PS
   · obtain⟨ps,y⟩:=L.tbl
     rw[z,y]at h;cases h
   rw[k _ _ z e]at h;cases h
def shT(M:MT)(tc:Int):List PySem.Str:=[tx (cnt M:Nat),szTx (M.el.map List.length) M.nw.length,tx tc,stTx (bhA M 0) (stepR M 0),stTx (bhA M 40000) (stepR M 40000)]
def spShown(C CT CD PS:Addr):Sp:=fun vs H Q _=>∃(q dq tb:Addr) (f m:Int) (pc:Nat) (M:MT) (tc:Int) (F:Addr->Prop),vs=[.ref q]/\DkX C CT CD 4000 q dq tb f m pc M tc F H/\LamH lamP lamQ H PS /\
 ∀ l H',LamH lamP lamQ H' PS->KeepBut PS H H'->H l=none->H' l=some (.lst ((shT M tc).map V.str))->Q (.ref l) H'
theorem wShown{C CT CD PS q dq tb:Addr}{f m:Int}{pc:Nat}{M:MT}{tc:Int}{F:Addr->Prop}{H:Hp}{Q:VK}{E:XK}(J:DkX C CT CD 4000 q dq tb f m pc M tc F H)(L:LamH lamP lamQ H PS)(k:∀ l H',LamH lamP lamQ H' PS->KeepBut PS H H'->H l=none->H' l=some (.lst ((shT M tc).map V.str))->Q (.ref l) H'):spShown C CT CD PS ([.ref q]++[]) H Q E:=⟨q,dq,tb,f,m,pc,M,tc,F,rfl,J,L,k⟩
theorem q47_(d:Dfn K mg "_law_shown" z46_ ["desk"])(g:Gs K mg C CT CD cS PS CR CE CP CZ CV)(q68_:Mt P w K mg base CD "say" 10 ["self","row"] (spSay C CT CD PS lamP lamQ)):Fn P w K mg base "_law_shown" 11 ["desk"] (spShown C CT CD PS):=by
 refine d.fn z108_ (fun vs H Q E h=>?_) (fun f' cdv A outer st H vs Q E hr h=>?_)
 · obtain⟨q,dq,tb,f,m,pc,M,tc,F,rfl,_⟩:=h
   rfl
 obtain⟨q,dq,tb,f,m,pc,M,tc,F,rfl,J,L,k⟩:=h;have lim:sizeLine=16777216:=sizeLine_eq;refine⟨_,(B.sone (B.ret (B.lst (B.cons (B.meth (B.v 0) g.cl_Desk q68_ hr.up (B.cons B.str B.nil)) (B.cons (B.meth (B.v 0) g.cl_Desk q68_ hr.up (B.cons B.str B.nil)) (B.cons (B.meth (B.v 0) g.cl_Desk q68_ hr.up (B.cons B.str B.nil)) (B.cons (B.meth (B.v 0) g.cl_Desk q68_ hr.up (B.cons B.str B.nil)) (B.cons (B.meth (B.v 0) g.cl_Desk q68_ hr.up (B.cons B.str B.nil)) B.nil)))))))),?_⟩;walk_at "W";refine⟨q,dq,_,rfl,J.hq,rfl,?_⟩;walk_at "W";refine wSay (wd:="keys") (ns:=[]) rfl J.hq (.ans rfl J.S J.gl L (.keys fun H1 s1=>?_));have J1:=J.same s1;have L1:=L.same s1;walk_at "W";refine⟨q,dq,_,rfl,J1.hq,rfl,?_⟩;walk_at "W";refine wSay (wd:="places") (ns:=[]) rfl J1.hq (.ans rfl J1.S J1.gl L1 (.places fun H2 s2=>?_));have J2:=J1.same s2;have L2:=L1.same s2;walk_at "W";refine⟨q,dq,_,rfl,J2.hq,rfl,?_⟩;walk_at "W";refine wSay (wd:="touched") (ns:=[]) rfl J2.hq (.ans rfl J2.S J2.gl L2 (.touched fun H3 s3=>?_));have J3:=J2.same s3;have L3:=L2.same s3;have s03:=(s1.trans s2).trans s3;walk_at "W";refine⟨q,dq,_,rfl,J3.hq,rfl,?_⟩;walk_at "W";refine wSay (wd:="step") (ns:=[0]) (by decide +kernel) J3.hq (.ans rfl J3.S J3.gl L3 (.step (by decide) (by decide) fun H4 L4 K4=>?_))
 have J4:=J3.lam L3 K4;walk_at "W";refine⟨q,dq,_,rfl,J4.hq,rfl,?_⟩;walk_at "W";refine wSay (wd:="step") (ns:=[40000]) (by decide +kernel) J4.hq (.ans rfl J4.S J4.gl L4 (.step (by decide) (by decide) fun H5 L5 K5=>?_))
 walk_at "W";refine⟨by show(5:Nat)<=sizeLine;omega,fun l hl=>?_⟩
 have s6:=Same.new (o:=.lst ((shT M tc).map V.str)) hl;have K6:KeepBut PS H _:=((Same.but s03).trans (K4.trans K5)).trans (Same.but s6);refine k l _ (L5.same s6) K6 ?_ upd_same;exact lam_free L5 ((Same.but s03).trans (K4.trans K5)) hl
theorem ok_lawX15(a:True):True:=by
 have:=@q47_;have:=@ok_lawX14
 trivial
def spCell(K:W.Frag):Sp:=fun vs H Q _=>∃(a:Addr) (ns:List Int) (k:Int),vs=[.ref a,.int k]/\SqL K H a (ns.map V.int)/\0<=k/\ns.length<=63 /\ ∀ c,Q (.int c) H
theorem wCell{K:W.Frag}{a:Addr}{ns:List Int}{k:Int}{H:Hp}{Q:VK}{E:XK}(h:SqL K H a (ns.map V.int))(h0:0<=k)(hl:ns.length<=63)(q:∀ c,Q (.int c) H):spCell K ([.ref a,.int k]++[]) H Q E:=⟨a,ns,k,rfl,h,h0,hl,q⟩
theorem q4_(d:Dfn K mg "_law_cell_at" z42_ ["script","k"])(g:Gs K mg C CT CD cS PS CR CE CP CZ CV):Fn P w K mg base "_law_cell_at" 1 ["script","k"] (spCell K):=by
 refine d.fn z104_ (fun vs H Q E h=>?_) (fun f' cdv A outer st H vs Q E hr h=>?_)
 · obtain⟨a,ns,k,rfl,_⟩:=h
   rfl
 obtain⟨a,ns,k,rfl,hs,h0,hl,q⟩:=h;have lim:sizeLine=16777216:=sizeLine_eq;refine⟨_,(B.scons (B.ifs (B.tcmp op_lt (B.v 1) (B.cB call_len_seq g.b_len SW.b_len (B.cons (B.v 0) B.nil))) (B.sone (B.ret (B.ix ix_list (B.v 0) (B.v 1)))) B.snil)
  (B.sone (B.ret B.int))),?_⟩
 walk_at "W";refine SW.iLen (.inl hs) ?_;walk_at "W";refine ite2 (fun h=>?_) (fun _=>?_)
 · have h':k < (ns.length:Nat):=by simpa using h
   walk_at "W";obtain⟨v,hv,hm⟩:=atI_in (xs:=ns.map V.int) h0 (by rw[List.length_map];exact h')
   obtain⟨c,_,rfl⟩:=List.mem_map.mp hm;exact⟨a,_,k,_,rfl,rfl,hs,hv,q c⟩
 walk_at "W";exact q 0
theorem q44_(d:Dfn K mg "_law_row" z44_ ["cell"]):Fn P w K mg base "_law_row" 1 ["cell"] spWell:=by
 refine d.fn z106_ (fun vs H Q E h=>?_) (fun f cdv A outer s H vs Q E hr h=>?_)
 · obtain⟨c,rfl,_⟩:=h
   rfl
 obtain⟨c,rfl,k⟩:=h;refine⟨_,(B.sone (B.ret (B.lst (B.cons (B.v 0) (B.cons (B.op op_mod (B.v 0) B.int) B.nil))))),?_⟩;walk_at "W";exact⟨by show(2:Nat)<=sizeLine;decide,fun p hp=>k p _ hp ⟨_,_,upd_same,by omega,by omega⟩⟩
theorem q54_(d:Dfn K mg "_law_take" z47_ ["row","many"]):Fn P w K mg base "_law_take" 1 ["row","many"] spDraw:=by
 refine d.fn z109_ (fun vs H Q E h=>?_) (fun f cdv A outer s H vs Q E hr h=>?_)
 · obtain⟨p,m,rfl,_⟩:=h
   rfl
 obtain⟨p,m,rfl,hm0,hm1,⟨a,b,hp,hb0,hb1⟩,k⟩:=h;refine⟨_,(B.scons (B.ifs (B.tcmp op_gt (B.ix ix_list (B.v 0) B.int) (B.op op_pow B.int B.int)) (B.scons (B.set 2 z109_.nd (B.op op_mod (B.ix ix_list (B.v 0) B.int) (B.v 1)))
  (B.scons (B.asg (B.op op_fdivL (B.ix ix_list (B.v 0) B.int) (B.v 1)) (B.gsub (B.v 0) B.int set_list))
  (B.sone (B.ret (B.v 2))))) B.snil)
  (B.scons (B.asg (B.op op_mod (B.op op_add (B.op op_add (B.op op_mul (B.ix ix_list (B.v 0) B.int) (B.ix ix_list (B.v 0) B.int)) (B.op op_mul B.int (B.ix ix_list (B.v 0) B.int))) B.int) B.int) (B.gsub (B.v 0) B.int set_list))
  (B.sone (B.ret (B.op op_mod (B.op op_fdivL (B.ix ix_list (B.v 0) B.int) B.int) (B.v 1)))))),?_⟩
 walk_at "W";refine ite2 (fun _=>?_) (fun _=>?_)
 · walk_at "W"
   exact k _ _ (Int.emod_nonneg _ (by omega)) (Int.emod_lt_of_pos _ hm0) ⟨_,_,upd_same,hb0,hb1⟩ KeepBut.at
 walk_at "W";exact k _ _ (Int.emod_nonneg _ (by omega)) (Int.emod_lt_of_pos _ hm0) ⟨_,_,upd_same,Int.emod_nonneg _ (by decide),Int.lt_trans (Int.emod_lt_of_pos _ (by decide)) (by decide)⟩ KeepBut.at
structure Tw(C CT CD PS:Addr)(HB:Hp)(n n':Nat)(q q' dq dq' tb tb':Addr)(f m:Int)(pc:Nat)(M:MT)(tc:Int)(M':MT)(tc':Int)(F G:Addr->Prop)(H:Hp):Prop where
 J:DkX C CT CD n q dq tb f m pc M tc F H
 J':DkX C CT CD n' q' dq' tb' f m pc M' tc' G H
 L:LamH lamP lamQ H PS
 d:∀ b,F b -> ¬ G b
 q1:¬ G q
 q2:¬ F q'
 fF:∀ b,F b->HB b=none
 fG:∀ b,G b->HB b=none
 kp:∀ b o,b≠PS->HB b=some o->H b=some o
section
variable{C CT CD PS:Addr}{HB:Hp}{n n':Nat}{q q' dq dq' tb tb':Addr}{f m:Int}{pc:Nat}{M:MT}{tc:Int}{M':MT}{tc':Int}{F G:Addr->Prop}{H H':Hp}
theorem Tw.swap(T:Tw C CT CD PS HB n n' q q' dq dq' tb tb' f m pc M tc M' tc' F G H):Tw C CT CD PS HB n' n q' q dq' dq tb' tb f m pc M' tc' M tc G F H:=
 ⟨T.J',T.J,T.L,fun b hg hf=>T.d b hf hg,T.q2,T.q1,T.fG,T.fF,T.kp⟩
theorem Tw.same(T:Tw C CT CD PS HB n n' q q' dq dq' tb tb' f m pc M tc M' tc' F G H)(s:Same H H'):Tw C CT CD PS HB n n' q q' dq dq' tb tb' f m pc M tc M' tc' F G H':=
 ⟨T.J.same s,T.J'.same s,T.L.same s,T.d,T.q1,T.q2,T.fF,T.fG,fun b o n e=>s _ _ (T.kp b o n e)⟩
theorem Tw.lam(T:Tw C CT CD PS HB n n' q q' dq dq' tb tb' f m pc M tc M' tc' F G H)(L':LamH lamP lamQ H' PS)(k:KeepBut PS H H'):Tw C CT CD PS HB n n' q q' dq dq' tb tb' f m pc M tc M' tc' F G H':=
 ⟨T.J.lam T.L k,T.J'.lam T.L k,L',T.d,T.q1,T.q2,T.fF,T.fG,fun b o n e=>k _ _ n (T.kp b o n e)⟩
theorem Tw.back(T:Tw C CT CD PS HB n n' q q' dq dq' tb tb' f m pc M tc M' tc' F G H){b:Addr}(h:H b=none):HB b=none:=by
 cases e:HB b with
 | none=>rfl
 | some o=>
   by_cases z:b=PS
   · obtain⟨ps,y⟩:=T.L.tbl
     rw[z,y]at h;cases h
   rw[T.kp b o z e]at h;cases h
theorem Tw.rebase(T:Tw C CT CD PS HB n n' q q' dq dq' tb tb' f m pc M tc M' tc' F G H){l:Addr}{o:HO}(hl:H l=none):Tw C CT CD PS (upd HB l o) n n' q q' dq dq' tb tb' f m pc M tc M' tc' F G (upd H l o):=by
 have s:=Same.new (o:=o) hl;refine⟨T.J.same s,T.J'.same s,T.L.same s,T.d,T.q1,T.q2,fun b hb=>?_,fun b hb=>?_,fun b u nb e=>?_⟩
 · rw[upd_ne (fun(z:b=l)=>T.J.S.fresh hl (by rw[← z];exact hb))];exact T.fF b hb
 · rw[upd_ne (fun(z:b=l)=>T.J'.S.fresh hl (by rw[← z];exact hb))];exact T.fG b hb
 by_cases z:b=l
 · subst z;rw[upd_same]at e ⊢;exact e
 rw[upd_ne z]at e ⊢;exact T.kp b u nb e
theorem Tw.deed1{dd:Deed}{F':Addr->Prop}(T:Tw C CT CD PS HB n n' q q' dq dq' tb tb' f m pc M tc M' tc' F G H)(hb:DB dd)(S1:Tb C CT H' tb f m pc (deedM f m pc M dd) (tch f m pc M (deedK dd)) F')(g1:Gr H F F')(f1:SW.Fr F H H') :
 Tw C CT CD PS HB (n+1) n' q q' dq dq' tb tb' f m pc (deedM f m pc M dd) (tch f m pc M (deedK dd)) M' tc' F' G H':=by
 refine⟨T.J.deed hb S1 g1 f1,T.J'.keep f1 T.q2 (fun b hb hf=>T.d b hf hb) (fun b xs e hf=>T.J.S.notup e hf),T.L.tb T.J.S f1,fun b hb hg=>?_,T.q1,fun z=>?_,fun b hb=>?_,T.fG,fun b o nb e=>?_⟩
 · exact(g1 b hb).elim (fun z=>T.d b z hg) fun z=>T.J'.S.fresh z hg
 · exact(g1 _ z).elim T.q2 fun y=>by rw[T.J'.hq]at y;cases y
 · exact(g1 b hb).elim (T.fF b) fun z=>T.back z
 exact f1 b o (fun z=>by rw[T.fF b z]at e;cases e) (T.kp b o nb e)
theorem Tw.deed2{dd:Deed}{G':Addr->Prop}(T:Tw C CT CD PS HB n n' q q' dq dq' tb tb' f m pc M tc M' tc' F G H)(hb:DB dd)(S1:Tb C CT H' tb' f m pc (deedM f m pc M' dd) (tch f m pc M' (deedK dd)) G')(g1:Gr H G G')(f1:SW.Fr G H H') :
 Tw C CT CD PS HB n (n'+1) q q' dq dq' tb tb' f m pc M tc (deedM f m pc M' dd) (tch f m pc M' (deedK dd)) F G' H':=
 (T.swap.deed1 hb S1 g1 f1).swap
end
theorem Tw.start{C CT CD PS:Addr}{q q' dq dq' tb tb':Addr}{f m:Int}{pc:Nat}{M:MT}{tc:Int}{F G:Addr->Prop}{n n':Nat}{H:Hp}(J:DkX C CT CD n q dq tb f m pc M tc F H)(J':DkX C CT CD n' q' dq' tb' f m pc M tc G H)(L:LamH lamP lamQ H PS)(d:∀ b,F b -> ¬ G b)(q1:¬ G q)(q2:¬ F q') :
 ∃ HB,Tw C CT CD PS HB n n' q q' dq dq' tb tb' f m pc M tc M tc F G H /\ ∀ b o,¬ F b -> ¬ G b->H b=some o->HB b=some o:=by
 classical
 refine⟨fun b=>if F b∨G b then none else H b,⟨J,J',L,d,q1,q2,fun b hb=>if_pos (.inl hb),fun b hb=>if_pos (.inr hb),fun b o _ e=>?_⟩,fun b o n1 n2 e=>?_⟩
 · by_cases z:F b∨G b
   · rw[if_pos z]at e;cases e
   rw[if_neg z]at e;exact e
 show(if F b∨G b then none else H b)=some o;rw[if_neg (fun z=>z.elim n1 n2)];exact e
theorem Tw.weaken{C CT CD PS:Addr}{HB HC:Hp}{n n':Nat}{q q' dq dq' tb tb':Addr}{f m:Int}{pc:Nat}{M:MT}{tc:Int}{M':MT}{tc':Int}{F G:Addr->Prop}{H:Hp}(T:Tw C CT CD PS HB n n' q q' dq dq' tb tb' f m pc M tc M' tc' F G H)(s:Same HC HB):Tw C CT CD PS HC n n' q q' dq dq' tb tb' f m pc M tc M' tc' F G H:=
 ⟨T.J,T.J',T.L,T.d,T.q1,T.q2,fun b hb=>s.free (T.fF b hb),fun b hb=>s.free (T.fG b hb),fun b o n e=>T.kp b o n (s _ _ e)⟩
theorem Tw.based{C CT CD PS:Addr}{HB:Hp}{n n':Nat}{q q' dq dq' tb tb':Addr}{f m:Int}{pc:Nat}{M:MT}{tc:Int}{M':MT}{tc':Int}{F G:Addr->Prop}{H:Hp}(T:Tw C CT CD PS HB n n' q q' dq dq' tb tb' f m pc M tc M' tc' F G H){l:Addr}{o:HO}(e:H l=some o)(nF:¬ F l)(nG:¬ G l):Tw C CT CD PS (upd HB l o) n n' q q' dq dq' tb tb' f m pc M tc M' tc' F G H:=by
 refine⟨T.J,T.J',T.L,T.d,T.q1,T.q2,fun b hb=>?_,fun b hb=>?_,fun b u nb y=>?_⟩
 · rw[upd_ne (fun(z:b=l)=>nF (by rw[← z];exact hb))];exact T.fF b hb
 · rw[upd_ne (fun(z:b=l)=>nG (by rw[← z];exact hb))];exact T.fG b hb
 by_cases z:b=l
 · subst z;rw[upd_same]at y;rw[e];exact y
 rw[upd_ne z]at y;exact T.kp b u nb y
theorem sh_dat{K:W.Frag}{H:Hp}{l:Addr}{M:MT}{tc:Int}(h:H l=some (.lst ((shT M tc).map V.str))):DatV K H (.ref l) (.list ((shT M tc).map PyData.str)):=
 .lst (SqL.of h) (.cons (.str _) (.cons (.str _) (.cons (.str _) (.cons (.str _) (.cons (.str _) .nil)))))
theorem sh_depth{M:MT}{tc:Int}:(PyData.list ((shT M tc).map PyData.str)).depth<=60:=by
 unfold shT;simp[PyData.depth,PyData.depthAll]
theorem sh_lay{M:MT}{tc:Int}(h:∀ x∈shT M tc,PyData.strOk x=true):(PyData.list ((shT M tc).map PyData.str)).canLay0=true:=by
 unfold shT at *
 simpa [PyData.canLay0,PyData.canLayAll0] using h
def RunOf(f m:Int)(M:MT)(ds:List Deed):Prop:=ROk (ds.foldl deedR [])/\(∀ k,rLook (ds.foldl deedR []) k=tLook f m M k)/\(ds.foldl deedR []).length=cnt M
theorem RunOf.deed{f m:Int}{pc:Nat}{M:MT}{ds:List Deed}(R:RunOf f m M ds)(T:TOk f m M)(d:Deed):RunOf f m (deedM f m pc M d) (ds++[d]):=by
 obtain⟨r1,r2,r3⟩:=R;obtain⟨_,h⟩:=deed_ok (pc:=pc) T d;have:=h _ r1 r2 r3;unfold RunOf;rw[List.foldl_append];exact this
theorem RunOf.zero{f m:Int}(h:∀ k,tLook f m M0 k=none)(hc:cnt M0=0):RunOf f m M0 []:=⟨(by decide),fun k=>(h k).symm,hc.symm⟩
def putsD(i:Nat):List Deed:=(List.range i).map fun(j:Nat)=>Deed.put (5*(j:Int)) (j:Int)
theorem putsD_succ(i:Nat):putsD (i+1)=putsD i++[.put (5*(i:Int)) (i:Int)]:=by
 unfold putsD;rw[List.range_succ,List.map_append]
 rfl
theorem putsD_none{i:Nat}(h:i < 9):rLook ((putsD i).foldl deedR []) (5*(i:Int))=none:=by
 match i,h with
 | 0,_=>decide +kernel
 | 1,_=>decide +kernel
 | 2,_=>decide +kernel
 | 3,_=>decide +kernel
 | 4,_=>decide +kernel
 | 5,_=>decide +kernel
 | 6,_=>decide +kernel
 | 7,_=>decide +kernel
 | 8,_=>decide +kernel
def spLawT(K:W.Frag)(PS:Addr):Sp:=fun vs H Q _=>∃(a:Addr) (ns:List Int),vs=[.ref a]/\SqL K H a (ns.map V.int)/\ns.length<=63/\H PS=some (.tbl #[]) /\ ∀ H',Q (.bl true) H'
theorem isi_none_str{K:W.Frag}:W.kitOne K (.type "NoneType") (.type "str")=some false:=by
 show W.kitOne [] (.type "NoneType") (.type "str")=some false
 decide +kernel
theorem isi_bool_str{K:W.Frag}:W.kitOne K (.type "bool") (.type "str")=some false:=by
 show W.kitOne [] (.type "bool") (.type "str")=some false
 decide +kernel
theorem isi_dict_str{K:W.Frag}:W.kitOne K (.type "dict") (.type "str")=some false:=by
 show W.kitOne [] (.type "dict") (.type "str")=some false
 decide +kernel
theorem badV_no{K:W.Frag}{H:Hp}{v tv:V}(h:BadV H v):(∃ t,TyOf K H v t/\W.kitOne K t (.type "str")=some false) ∨ ∃ r b,v=.str r/\noRow r b=true/\(b=false->tv=.non):=by
 rcases h with ⟨r,rfl,hr⟩ | rfl | rfl | ⟨i,rfl⟩ | ⟨a,rfl,⟨xs,e⟩ | ⟨xs,e⟩ | e⟩
 · exact .inr ⟨r,true,rfl,List.all_eq_true.mp badT_no r hr,fun z=>nomatch z⟩
 · exact .inl ⟨_,.non,isi_none_str⟩
 · exact .inl ⟨_,.bl _,isi_bool_str⟩
 · exact .inl ⟨_,.int _,isi_int_str⟩
 · exact .inl ⟨_,.lst e,isi_list_str⟩
 · exact .inl ⟨_,.tup e,isi_tup_str⟩
 exact .inl ⟨_,.dK e,isi_dict_str⟩
theorem BadV.keep{H H':Hp}{v:V}(h:BadV H v)(k:∀ a o,v=.ref a->H a=some o->H' a=some o):BadV H' v:=by
 rcases h with h | h | h | h | ⟨a,e,h⟩
 · exact .inl h
 · exact .inr (.inl h)
 · exact .inr (.inr (.inl h))
 · exact .inr (.inr (.inr (.inl h)))
 refine .inr (.inr (.inr (.inr ⟨a,e,?_⟩)));exact h.imp (fun⟨xs,y⟩=>⟨xs,k _ _ e y⟩) fun h=>h.imp (fun⟨xs,y⟩=>⟨xs,k _ _ e y⟩) fun y=>k _ _ e y
theorem sq_keep{K:W.Frag}{H H':Hp}{a:Addr}{ys:List V}(k:∀ o,H a=some o->H' a=some o)(h:SqL K H a ys):SqL K H' a ys:=
 h.imp (fun r=>r.imp (k _) fun⟨o,e⟩=>⟨o,k _ e⟩) id
theorem so_iff{x:PySem.Str}:PyData.strOk x=true ↔ ∀ c∈x.cps.toList,c < 1114112:=by
 unfold PyData.strOk;rw[← Array.all_toList,List.all_eq_true];exact⟨fun h c hc=>of_decide_eq_true (h c hc),fun h c hc=>decide_eq_true (h c hc)⟩
theorem so_app{a b:PySem.Str}(ha:PyData.strOk a=true)(hb:PyData.strOk b=true):PyData.strOk (a++b)=true:=so_iff.mpr fun c hc=>by
 rw[cps_app]at hc;exact(List.mem_append.mp hc).elim (so_iff.mp ha c) (so_iff.mp hb c)
theorem so_join{s:PySem.Str}(hs:PyData.strOk s=true):∀{ws:List PySem.Str},(∀ y∈ws,PyData.strOk y=true)->PyData.strOk (Str.join s ws)=true
 | [],_=>(by decide +kernel:PyData.strOk PySem.Str.empty=true)
 | [y],h=>h y List.mem_cons_self
 | y::y'::ws,h=>so_app (so_app (h y List.mem_cons_self) hs) (so_join hs fun x hx=>h x (List.mem_cons_of_mem _ hx))
theorem so_tx(i:Int):PyData.strOk (tx i)=true:=so_iff.mpr fun c hc=>by
 have:=tx_signs i c hc;omega
theorem so_st(b:Int)(ps:MRow):PyData.strOk (stTx b ps)=true:=so_join (by decide +kernel) fun y hy=>by
 rcases List.mem_cons.mp hy with rfl | z
 · exact so_tx _
 obtain⟨p,_,rfl⟩:=List.mem_map.mp z;exact so_app (so_app (so_app (by decide +kernel) (so_tx p.1)) (by decide +kernel)) (so_tx p.2)
theorem so_sz:∀(e:Option Nat) (n:Nat),PyData.strOk (szTx e n)=true
 | none,n=>so_tx _
 | some e,n=>so_join (by decide +kernel) fun y hy=>by
   simp only[List.mem_cons,List.not_mem_nil,or_false]at hy;rcases hy with rfl | rfl <;> exact so_tx _
theorem sh_ok{M:MT}{tc:Int}(h:True):∀ x∈shT M tc,PyData.strOk x=true:=fun x hx=>by
 unfold shT at hx;simp only[List.mem_cons,List.not_mem_nil,or_false]at hx;rcases hx with rfl | rfl | rfl | rfl | rfl
 · exact so_tx _
 · exact so_sz _ _
 · exact so_tx _
 · exact so_st _ _
 exact so_st _ _
def sevD:List Deed:=[.look 40,.cut 40,.look 40,.put 7 1,.put 8 1,.put 9 1,.cut 0]
def dTx(d:Deed):PySem.Str:=rowT (dW d) (dN d)
theorem sev_rows:[V.str (Str.ofString "look 40"),.str (Str.ofString "cut 40"),.str (Str.ofString "look 40"),.str (Str.ofString "put 7 1"),.str (Str.ofString "put 8 1"),.str (Str.ofString "put 9 1"),.str (Str.ofString "cut 0")]=sevD.map fun d=>V.str (dTx d):=
 congrArg (List.map V.str) (show[Str.ofString "look 40",Str.ofString "cut 40",Str.ofString "look 40",Str.ofString "put 7 1",Str.ofString "put 8 1",Str.ofString "put 9 1",Str.ofString "cut 0"]=sevD.map dTx by decide +kernel)
theorem sev_db:∀ d∈sevD,DB d:=fun d hd=>by
 unfold sevD at hd;simp only[List.mem_cons,List.not_mem_nil,or_false]at hd;rcases hd with rfl | rfl | rfl | rfl | rfl | rfl | rfl
 · exact⟨by decide,by decide⟩
 · exact⟨by decide,by decide⟩
 · exact⟨by decide,by decide⟩
 · exact⟨⟨by decide,by decide⟩,by decide,by decide⟩
 · exact⟨⟨by decide,by decide⟩,by decide,by decide⟩
 · exact⟨⟨by decide,by decide⟩,by decide,by decide⟩
 exact⟨by decide,by decide⟩
theorem take_next{α:Type}{xs:List α}{i:Nat}{x:α}(h:xs[i]?=some x):xs.take (i+1)=xs.take i++[x]:=by
 rw[List.take_succ,h];rfl
theorem sev_none:rLook ((putsD 9++sevD).foldl deedR []) 40=none:=by decide +kernel
theorem sev_seven:rLook ((putsD 9++sevD).foldl deedR []) 35=some 7:=by decide +kernel
theorem ok_law{f:Addr}{fd:FuncData}(F:Fun K "law" "law" z41_ f fd)(g:Gs K mg C CT CD cS PS CR CE CP CZ CV)(q65_:Mkr P w K mg base CD "Desk" 1 ["self"] (spDInit CD))(q68_:Mt P w K mg base CD "say" 10 ["self","row"] (spSay C CT CD PS lamP lamQ))(q18_:Fn P w K mg base "_law_cell_at" 1 ["script","k"] (spCell K))(q20_:Fn P w K mg base "_law_row" 1 ["cell"] spWell)(q23_:Fn P w K mg base "_law_take" 1 ["row","many"] spDraw)(q21_:Fn P w K mg base "_law_rows" 1 [] spRows)(q19_:Fn P w K mg base "_law_refused" 11 ["desk","row"] (spRefused K CD))(q22_:Fn P w K mg base "_law_shown" 11 ["desk"] (spShown C CT CD PS)) :
 FnOk P w K mg base CX0 12 f fd ["script"] (spLawT K PS):=by
 refine fun_bx F z103_ (fun vs H Q E h=>?_) (fun cdv A outer s H vs Q E hr h=>?_)
 · obtain⟨a,ns,rfl,_⟩:=h
   rfl
 obtain⟨a,ns,rfl,hS,hlen,hPS,k⟩:=h;have lim:sizeLine=16777216:=sizeLine_eq;have e10:(10:Nat) ^ 10=10000000000:=by decide
 refine⟨_,(B.scons (B.set 1 z103_.nd (B.fn0 q21_ hr.up))
  (B.scons (B.set 2 z103_.nd (SW.B.make0 q65_ hr.up))
  (B.scons (B.fors (B.ilist (B.op op_cat (B.lst (B.cons B.str (B.cons B.str (B.cons B.str (B.cons B.str (B.cons B.str (B.cons B.str (B.cons B.str B.nil)))))))) (B.v 1))) (B.gname (i:=3) z103_.nd) (B.sone (B.ifs (B.tnot (B.tval (B.fn q19_ hr.up (B.cons (B.v 2) (B.cons (B.v 3) B.nil))))) (B.sone (B.ret B.bl)) B.snil)))
  (B.scons (B.set 4 z103_.nd (B.fn q20_ hr.up (B.cons (B.fn q18_ hr.up (B.cons (B.v 0) (B.cons B.int B.nil))) B.nil)))
  (B.scons (B.set 5 z103_.nd (B.op op_add_str (B.op op_add_str B.str (B.ix ix_list (B.lst (B.cons B.str (B.cons B.str (B.cons B.str B.nil)))) (B.fn q23_ hr.up (B.cons (B.v 4) (B.cons B.int B.nil))))) (B.cT call_str_int g.b_str SW.b_str (B.cons (B.op op_add B.int (B.fn q23_ hr.up (B.cons (B.v 4) (B.cons B.int B.nil)))) B.nil))))
  (B.scons (B.set 6 z103_.nd (SW.B.make0 q65_ hr.up))
  (B.scons (B.ifs (B.tw (B.wor (B.tcmp op_ne (B.meth (B.v 2) g.cl_Desk q68_ hr.up (B.cons (B.v 5) B.nil)) B.str) (B.wor1 (B.tcmp op_ne (B.meth (B.v 6) g.cl_Desk q68_ hr.up (B.cons (B.v 5) B.nil)) B.str)))) (B.sone (B.ret B.bl)) B.snil)
  (B.scons (B.fors (B.irange g.b_range (B.cons B.int B.nil)) (B.gname (i:=7) z103_.nd) (B.sone (B.fors (B.ilist (B.lst (B.cons (B.v 2) (B.cons (B.v 6) B.nil)))) (B.gname (i:=8) z103_.nd) (B.sone (B.ifs (B.tcmp op_ne (B.meth (B.v 8) g.cl_Desk q68_ hr.up (B.cons (B.op op_add_str (B.op op_add_str (B.op op_add_str B.str (B.cT call_str_int g.b_str SW.b_str (B.cons (B.op op_mul B.int (B.v 7)) B.nil))) B.str) (B.cT call_str_int g.b_str SW.b_str (B.cons (B.v 7) B.nil))) B.nil)) B.str) (B.sone (B.ret B.bl)) B.snil)))))
  (B.scons (B.set 9 z103_.nd (B.fn q22_ hr.up (B.cons (B.v 2) B.nil)))
  (B.scons (B.fors (B.ilist (B.op op_cat (B.slice sl_list (B.v 0) (B.part B.int) (B.part B.int)) (B.lst (B.cons B.int B.nil)))) (B.gname (i:=10) z103_.nd) (B.sone (B.fors (B.ilist (B.lst (B.cons (B.ix ix_list (B.v 1) (B.op op_mod (B.v 10) (B.cB call_len_seq g.b_len SW.b_len (B.cons (B.v 1) B.nil)))) (B.cons (B.ix ix_list (B.v 1) (B.op op_mod (B.op op_fdivL (B.v 10) B.int) (B.cB call_len_seq g.b_len SW.b_len (B.cons (B.v 1) B.nil)))) B.nil)))) (B.gname (i:=11) z103_.nd) (B.sone (B.ifs (B.tw (B.wor (B.tnot (B.tval (B.fn q19_ hr.up (B.cons (B.v 2) (B.cons (B.v 11) B.nil))))) (B.wor1 (B.tcmp (op_neD K hr.units) (B.fn q22_ hr.up (B.cons (B.v 2) B.nil)) (B.v 9))))) (B.sone (B.ret B.bl)) B.snil)))))
  (B.scons (B.fors (B.ilist (B.lst (B.cons B.str (B.cons B.str (B.cons B.str (B.cons B.str (B.cons B.str (B.cons B.str (B.cons B.str B.nil))))))))) (B.gname (i:=12) z103_.nd) (B.sone (B.ifs (B.tw (B.wor (B.tcmp op_ne (B.meth (B.v 2) g.cl_Desk q68_ hr.up (B.cons (B.v 12) B.nil)) (B.meth (B.v 6) g.cl_Desk q68_ hr.up (B.cons (B.v 12) B.nil))) (B.wor1 (B.tcmp (op_neD K hr.units) (B.fn q22_ hr.up (B.cons (B.v 2) B.nil)) (B.fn q22_ hr.up (B.cons (B.v 6) B.nil)))))) (B.sone (B.ret B.bl)) B.snil)))
  (B.sone (B.ret (B.and (B.cmp op_eq (B.meth (B.v 2) g.cl_Desk q68_ hr.up (B.cons B.str B.nil)) B.str) (B.one (B.cmp op_eq (B.meth (B.v 2) g.cl_Desk q68_ hr.up (B.cons B.str B.nil)) B.str)))))))))))))))),?_⟩
 walk_at "W";refine⟨rfl,fun rl xs H1 s1 frl hrl hxs hbad=>?_⟩;walk_at "W";refine wDesk fun q dq H2 hq e2 s2=>?_;walk_at "W";refine⟨by show(7:Nat)<=sizeLine;omega,fun l1 h1=>?_⟩
 generalize y3:upd H2 l1 _=H3;have s3:Same H2 H3:=by rw[← y3];exact Same.new h1
 have e3:H3 l1=some (.lst (earlyT.map V.str)):=by rw[← y3];exact upd_same
 have hrl3:=s3 _ _ (s2 _ _ hrl);clear y3;walk_at "W";refine⟨l1,rl,_,xs,rfl,rfl,e3,hrl3,by show 7+xs.length<=sizeLine;omega,fun l2 h2=>?_⟩
 generalize y4:upd H3 l2 _=H4;have s4:Same H3 H4:=by rw[← y4];exact Same.new h2
 have e4:H4 l2=some (.lst (earlyT.map V.str++xs)):=by rw[← y4];exact upd_same
 have s04:=((s1.trans s2).trans s3).trans s4;have s14:=(s2.trans s3).trans s4;have hrl4:=s4 _ _ hrl3;have hq4:=s4 _ _ (s3 _ _ e2);have bad4:∀ v∈xs,BadV H4 v:=fun v hv=>(hbad v hv).1.keep fun a o _ e=>s14 _ _ e;clear y4;walk_at "W";refine⟨l2,rfl,⟨_,SqL.of e4⟩,?_⟩;refine SW.forListC (xs:=earlyT.map V.str++xs) (fun i σ H'=>∃ v:Option V,σ=[some (.ref a),some (.ref rl),some (.ref q),v,none,none,none,none,none,none,none,none,none]/\Same H4 H') ⟨none,rfl,fun _ _ e=>e⟩ ?_ ?_ ?_
 · rintro i σ H' _ ⟨v,rfl,s'⟩
   exact SqL.of (s' _ _ e4)
 · rintro i y σ H' hi ⟨v,rfl,s'⟩
   intro N3 hN3;walk_at "W";refine⟨q,dq,_,y,rfl,s' _ _ hq4,?_,fun H6 s6=>?_⟩
   · rcases List.mem_append.mp (List.mem_of_getElem? hi)with z | z
     · obtain⟨r,hr,rfl⟩:=List.mem_map.mp z
       exact .inr ⟨r,false,rfl,List.all_eq_true.mp earlyT_no r hr,fun _=>rfl⟩
     exact badV_no ((bad4 y z).keep fun a o _ e=>s' _ _ e)
   walk_at "W";rw[if_neg (show ¬ ((!true)=true) by decide)]
   walk_at "W";subst hN3;exact⟨_,rfl,s'.trans s6⟩
 rintro σ H5 ⟨v,rfl,s5⟩;have s05:=s04.trans s5;have s45:=s14.trans s5;have bad5:∀ v∈xs,BadV H5 v:=fun v hv=>(bad4 v hv).keep fun a o _ e=>s5 _ _ e;have hq5:=s5 _ _ hq4;have hrl5:=s5 _ _ hrl4;have hS5:=s05.seq hS;have hP5:=s05 _ _ hPS;have nbad:∀ x∈xs,∀ b,x=.ref b->b≠q:=fun x hx b e z=>by
  subst z e;have:=(bad5 _ hx);rcases this with ⟨r,z,_⟩ | z | z | ⟨_,z⟩ | ⟨b,z,h⟩
  · cases z
  · cases z
  · cases z
  · cases z
  cases z;rw[hq5]at h;rcases h with ⟨_,z⟩ | ⟨_,z⟩ | z <;> cases z
 clear s1 s2 s3 s4 s04 s14 h1 h2 e2 e3 e4 hrl hrl3 hrl4 hq4 hbad bad4 s5 hq frl
 dsimp only
 walk_at "W";refine wCell hS5 (by decide) hlen fun c0=>?_
 walk_at "W";refine wWell fun row o hro R6=>?_;have s6:=Same.new (o:=o) hro;generalize upd H5 row o=H6 at *;walk_at "W";refine⟨by show(3:Nat)<=sizeLine;omega,fun l3 h3=>?_⟩
 generalize y7:upd H6 l3 _=H7;have s7:Same H6 H7:=by rw[← y7];exact Same.new h3
 have e7:H7 l3=some (.lst [.str (PySem.Str.ofString "1 0 "),.str (PySem.Str.ofString "40503 7 "),.str (PySem.Str.ofString "0 3 ")]):=by rw[← y7];exact upd_same
 have R7:=R6.same s7;clear y7;walk_at "W";refine wDraw R7 (by decide) (by decide) fun r1 H8 a1 b1 R8 K8=>?_
 have n37:l3≠row:=by
  obtain⟨_,_,e,_⟩:=R6;exact(ne_of_none e h3).symm
 have e8:=K8 _ _ n37 e7;walk_at "W";obtain⟨z,fa,ma,hat,hzl,hz,f0,f1,m0,m1⟩:∃(z:PySem.Str) (fa ma:Int),atI [V.str (PySem.Str.ofString "1 0 "),.str (PySem.Str.ofString "40503 7 "),.str (PySem.Str.ofString "0 3 ")] r1=some (.str z)/\z.length<=8/\Str.ofString "table " ++ z=Str.ofString "table " ++ tx fa++Str.ofString " " ++ tx ma++Str.ofString " " /\ 0<=fa/\fa<=65535/\0<=ma/\ma<=65535:=by
  obtain rfl | rfl | rfl:r1=0∨r1=1∨r1=2:=by omega
  · exact⟨_,1,0,rfl,by decide,by decide +kernel,by decide,by decide,by decide,by decide⟩
  · exact⟨_,40503,7,rfl,by decide,by decide +kernel,by decide,by decide,by decide,by decide⟩
  exact⟨_,0,3,rfl,by decide,by decide +kernel,by decide,by decide,by decide,by decide⟩
 refine wIxL e8 hat ?_;have l0:(Str.ofString "table ").length=6:=rfl;refine⟨_,_,rfl,rfl,by omega,?_⟩
 walk_at "W";refine wDraw R8 (by decide) (by decide) fun r2 H9 a2 b2 R9 K9=>?_
 have sr:(1+r2).natAbs < 10 ^ 10:=by rw[e10];omega
 have lr:=tx_len sr;walk_at "W";refine⟨_,rfl,log_small sr,?_⟩;rw[show Str.ofString (toString (1+r2))=tx (1+r2)from rfl];refine⟨_,_,rfl,rfl,by rw[len_app];omega,?_⟩
 obtain⟨md,hmd⟩:∃ md,md=Str.ofString "table " ++ z++tx (1+r2):=⟨_,rfl⟩;have er:md=rowT "table" [fa,ma,1+r2]:=by
  rw[hmd,hz];exact row3 (w:=Str.ofString "table") (by decide)
 rw[← hmd];have nqr:q≠row:=by
  obtain⟨_,_,e,_⟩:=R6;exact ne_of (s6 _ _ hq5) e (by intro z;cases z)
 have K59:KeepBut row H5 H9:=fun b o n e=>K9 _ _ n (K8 _ _ n (s7 _ _ (s6 _ _ e)));have hq9:=K59 _ _ nqr hq5;have nrow:∀ b o,H5 b=some o->b≠row:=fun b o e=>ne_of_none e hro;have s59:Same H5 H9:=fun b o e=>K59 _ _ (nrow b o e) e;clear K59 K8 K9 e7 e8 n37 R7 R8 hmd hz hat;walk_at "W";refine wDesk fun q' dq' H10 hq' e10' s10=>?_;have s510:=s59.trans s10;walk_at "W";refine⟨q,dq,_,rfl,s10 _ _ hq9,rfl,?_⟩;walk_at "W";refine wSay (wd:="table") (ns:=[fa,ma,1+r2]) er (s10 _ _ hq9) (.table f0 f1 m0 m1 (by omega) (by omega) fun tb H11 FT S11 fF hq11 K11=>?_)
 walk_at "W";refine⟨rfl,_,rfl,?_⟩;refine iteNS rfl ?_;have nqq:q'≠q:=(ne_of_none hq9 hq').symm;have hq'11:=K11 _ _ nqq e10';walk_at "W";refine⟨q',dq',_,rfl,hq'11,rfl,?_⟩;walk_at "W";refine wSay (wd:="table") (ns:=[fa,ma,1+r2]) er hq'11 (.table f0 f1 m0 m1 (by omega) (by omega) fun tb' H12 GT S12 fG hq12 K12=>?_)
 walk_at "W";refine⟨rfl,?_⟩;walk_at "W";refine iteNS rfl ?_;have nF:∀ b o,b≠q->H10 b=some o -> ¬ FT b:=fun b o _ e z=>by rw[fF b z]at e;cases e
 have L12:LamH lamP lamQ H12 PS:=by
  have L10:LamH lamP lamQ H10 PS:=.inl (s510 _ _ hP5);exact(L10.fr K11.fr' fun b hb _=>.inl ⟨_,_,_,hb ▸ s10 _ _ hq9⟩).fr K12.fr' fun b hb _=>.inl ⟨_,_,_,hb ▸ hq'11⟩
 have nq'F:¬ FT q':=fun z=>by rw[fF _ z]at e10';cases e10'
 have nqF:¬ FT q:=fun z=>by have:=s10 _ _ hq9;rw[fF _ z]at this;cases this
 have nqG:¬ GT q:=fun z=>by rw[fG _ z]at hq11;cases hq11
 have nq'G:¬ GT q':=fun z=>by rw[fG _ z]at hq'11;cases hq'11
 have S11':Tb C CT H12 tb fa ma (1+r2).toNat M0 0 FT:=S11.keep K12.fr' (fun b hb z=>nq'F (z ▸ hb)) fun b xs e z=>by
  subst z;rw[hq'11]at e;cases e
 have dFG:∀ b,FT b -> ¬ GT b:=fun b hf hg=>by
  obtain⟨o,e,_⟩:=S11.live hf;rw[fG b hg]at e;cases e
 obtain⟨HB,T,hB⟩:=Tw.start (PS:=PS) (n:=0) (n':=0) ⟨K12 _ _ nqq.symm hq11,S11',Lg.zero M0_ok (by omega),nqF⟩ ⟨hq12,S12,Lg.zero M0_ok (by omega),nq'G⟩ L12 dFG nqG nq'F
 have old:∀ b o,b≠q->H5 b=some o->HB b=some o:=fun b o nb e=>by
  have e10:=s510 _ _ e;have nb':b≠q':=ne_of_none (s59 _ _ e) hq';have e11:=K11 _ _ nb e10;exact hB b o (fun z=>by rw[fF b z]at e10;cases e10) (fun z=>by rw[fG b z]at e11;cases e11) (K12 _ _ nb' e11)
 have hPB:HB PS=some (.tbl #[]):=old _ _ (ne_of hP5 hq5 (by intro z;cases z)) hP5
 have rlB:HB rl=some (.lst xs):=old _ _ (ne_of hrl5 hq5 (by intro z;cases z)) hrl5
 have badB:∀ v∈xs,BadV HB v:=fun v hv=>(bad5 v hv).keep fun b o ev e=>old b o (nbad v hv b ev) e;have scB:SqL K HB a (ns.map V.int):=hS5.imp (fun r=>r.imp (fun e=>old a _ (ne_of e hq5 (by intro z;cases z)) e) fun⟨o,e⟩=>⟨o,old a _ (ne_of e hq5 (by intro z;cases z)) e⟩) id
 clear old hB dFG S11' nq'G nqG nqF nq'F L12 nF K12 hq12 fG S12 hq'11 K11 hq11 fF S11 e10' hq' s510 s10 s59 nrow hq9 bad5 hq5 hrl5 nbad;walk_at "W";refine⟨9,rfl,by decide,by decide,?_⟩
 refine SW.forRangeC (fun i σ H'=>∃(M:MT) (tc:Int) (FT GT:Addr->Prop) (v7 v8:Option V),σ=[some (.ref a),some (.ref rl),some (.ref q),v,some (.ref row),some (.str md),some (.ref q'),v7,v8,none,none,none,none]/\Tw C CT CD PS HB i i q q' dq dq' tb tb' fa ma (1+r2).toNat M tc M tc FT GT H'/\RunOf fa ma M (putsD i)) ⟨M0,0,FT,GT,none,none,rfl,T,RunOf.zero (fun _=>M0_look) (by decide)⟩ ?_ ?_
 · rintro i σ H13 hi ⟨M,tc,FT,GT,v7,v8,rfl,T,RO⟩
   have hi:i < 9:=hi;have s5:(5*(0+(i:Int))).natAbs < 10 ^ 10:=by rw[e10];omega
   have si:(0+(i:Int)).natAbs < 10 ^ 10:=by rw[e10];omega
   have t5:=tx_len s5;have ti:=tx_len si;have p0:(Str.ofString "put ").length=4:=rfl;have p1:(Str.ofString " ").length=1:=rfl;have db:DB (.put (5*(0+(i:Int))) (0+(i:Int))):=⟨⟨by omega,by omega⟩,by omega,by omega⟩
   have hno:tLook fa ma M (deedK (.put (5*(0+(i:Int))) (0+(i:Int))))=none:=by
    show tLook fa ma M (5*(0+(i:Int)))=none;rw[← RO.2.1,Int.zero_add];exact putsD_none hi
   walk_at "W";refine⟨by show(2:Nat)<=sizeLine;omega,fun l4 h4=>?_⟩
   have HBs:=Same.new (o:=.lst [.ref q,.ref q']) (T.back h4);have T4:=T.rebase (o:=.lst [.ref q,.ref q']) h4;have e4:upd H13 l4 (.lst [.ref q,.ref q']) l4=some (.lst [.ref q,.ref q']):=upd_same;have eB:upd HB l4 (.lst [.ref q,.ref q']) l4=some (.lst [.ref q,.ref q']):=upd_same;generalize upd H13 l4 (.lst [.ref q,.ref q'])=H14 at *;generalize upd HB l4 (.lst [.ref q,.ref q'])=HC at *;have n4P:l4≠PS:=fun z=>by
    obtain⟨ps,y⟩:=T4.L.tbl;rw[z,y]at e4;cases e4
   walk_at "W";refine⟨l4,rfl,⟨_,SqL.of e4⟩,?_⟩;refine SW.forListC (xs:=[V.ref q,.ref q']) (fun j σ H'=>∃ v8:Option V,σ=[some (.ref a),some (.ref rl),some (.ref q),v,some (.ref row),some (.str md),some (.ref q'),some (.int (0+(i:Int))),v8,none,none,none,none] /\ ∃(n n':Nat) (M1 M2:MT) (t1 t2:Int) (FT GT:Addr->Prop),Tw C CT CD PS HC n n' q q' dq dq' tb tb' fa ma (1+r2).toNat M1 t1 M2 t2 FT GT H' /\
    ((j=0/\i=n/\i=n'/\M=M1/\M=M2/\tc=t1/\tc=t2)∨(j=1/\n=i+1/\i=n'/\M1=deedM fa ma (1+r2).toNat M (.put (5*(0+(i:Int))) (0+(i:Int)))/\M=M2/\t1=tch fa ma (1+r2).toNat M (5*(0+(i:Int)))/\tc=t2) ∨
     (j=2/\n=i+1/\n'=i+1/\M1=deedM fa ma (1+r2).toNat M (.put (5*(0+(i:Int))) (0+(i:Int)))/\M2=M1/\t1=tch fa ma (1+r2).toNat M (5*(0+(i:Int)))/\t2=t1))) ⟨v8,rfl,i,i,M,M,tc,tc,FT,GT,T4,.inl ⟨rfl,rfl,rfl,rfl,rfl,rfl,rfl⟩⟩ ?_ ?_ ?_
   · rintro j σ H' _ ⟨v8,rfl,n,n',M1,M2,t1,t2,FT,GT,TT,_⟩
     exact SqL.of (TT.kp _ _ n4P eB)
   · rintro j y σ H15 hj ⟨v8,rfl,n,n',M1,M2,t1,t2,FT,GT,TT,cs⟩
     intro N4 hN4;rcases cs with ⟨rfl,rfl,rfl,rfl,rfl,rfl,rfl⟩ | ⟨rfl,rfl,rfl,rfl,rfl,rfl,rfl⟩ | ⟨rfl,_⟩
     · cases hj
       walk_at "W";refine⟨q,_,_,rfl,TT.J.hq,rfl,?_⟩;walk_at "W";refine⟨_,rfl,log_small s5,?_⟩;rw[show Str.ofString (toString (5*(0+(i:Int))))=tx (5*(0+(i:Int)))from rfl];walk_at "W";refine⟨_,_,rfl,rfl,by omega,?_⟩
       walk_at "W";refine⟨_,_,rfl,rfl,by rw[len_app];omega,?_⟩
       walk_at "W";refine⟨_,rfl,log_small si,?_⟩;rw[show Str.ofString (toString (0+(i:Int)))=tx (0+(i:Int))from rfl];walk_at "W";refine⟨_,_,rfl,rfl,by rw[len_app,len_app];omega,?_⟩
       walk_at "W";refine wSay (wd:="put") (ns:=[5*(0+(i:Int)),0+(i:Int)]) (row2 (w:=Str.ofString "put") (by decide)) TT.J.hq (.ans rfl TT.J.S (TT.J.gl.mono (by omega)) TT.L (.deed (.put (5*(0+(i:Int))) (0+(i:Int))) db fun H16 F6 S6 g6 f6=>?_))
       have T6:=TT.deed1 db S6 g6 f6;walk_at "W";refine⟨rfl,?_⟩;walk_at "W";refine iteNS (by rw[hno];rfl) ?_
       walk_at "W";subst hN4;exact⟨_,rfl,_,_,_,_,_,_,_,_,T6,.inr (.inl ⟨rfl,rfl,rfl,rfl,rfl,rfl,rfl⟩)⟩
     · cases hj
       walk_at "W";refine⟨q',_,_,rfl,TT.J'.hq,rfl,?_⟩;walk_at "W";refine⟨_,rfl,log_small s5,?_⟩;rw[show Str.ofString (toString (5*(0+(i:Int))))=tx (5*(0+(i:Int)))from rfl];walk_at "W";refine⟨_,_,rfl,rfl,by omega,?_⟩
       walk_at "W";refine⟨_,_,rfl,rfl,by rw[len_app];omega,?_⟩
       walk_at "W";refine⟨_,rfl,log_small si,?_⟩;rw[show Str.ofString (toString (0+(i:Int)))=tx (0+(i:Int))from rfl];walk_at "W";refine⟨_,_,rfl,rfl,by rw[len_app,len_app];omega,?_⟩
       walk_at "W";refine wSay (wd:="put") (ns:=[5*(0+(i:Int)),0+(i:Int)]) (row2 (w:=Str.ofString "put") (by decide)) TT.J'.hq (.ans rfl TT.J'.S (TT.J'.gl.mono (by omega)) TT.L (.deed (.put (5*(0+(i:Int))) (0+(i:Int))) db fun H16 F6 S6 g6 f6=>?_))
       have T6:=TT.deed2 db S6 g6 f6;walk_at "W";refine⟨rfl,?_⟩;walk_at "W";refine iteNS (by rw[hno];rfl) ?_
       walk_at "W";subst hN4;exact⟨_,rfl,_,_,_,_,_,_,_,_,T6,.inr (.inr ⟨rfl,rfl,rfl,rfl,rfl,rfl,rfl⟩)⟩
     cases hj
   rintro σ H15 ⟨v8,rfl,n,n',M1,M2,t1,t2,FT,GT,TT,cs⟩;rcases cs with ⟨h,_⟩ | ⟨h,_⟩ | ⟨_,rfl,rfl,rfl,rfl,rfl,rfl⟩
   · cases h
   · cases h
   clear hno
   dsimp only
   walk_at "W"
   subst_vars
   refine⟨_,_,_,_,_,_,rfl,TT.weaken HBs,?_⟩;rw[putsD_succ];have:=RO.deed (pc:=(1+r2).toNat) T.J.gl.T (.put (5*(0+(i:Int))) (0+(i:Int)));rw[Int.zero_add]at this ⊢;exact this
 rintro σ H13 ⟨M,tc,FT,GT,v7,v8,rfl,T,RO⟩;have T:Tw C CT CD PS HB 9 9 q q' dq dq' tb tb' fa ma (1+r2).toNat M tc M tc FT GT H13:=T;have RO:RunOf fa ma M (putsD 9):=RO
 dsimp only
 walk_at "W";refine wShown (T.J.mono (by decide)) T.L fun ea H14 L14 K14 hea eea=>?_
 have T14:=(T.lam L14 K14).based eea (fun z=>T.J.S.fresh hea z) fun z=>T.J'.S.fresh hea z;have sB:=Same.new (o:=.lst ((shT M tc).map V.str)) (T.back hea);have eaB:upd HB ea (.lst ((shT M tc).map V.str)) ea=some (.lst ((shT M tc).map V.str)):=upd_same;have scC:=sB.seq scB;have rlC:=sB _ _ rlB;have badC:∀ v∈xs,BadV _ v:=fun v hv=>(badB v hv).keep fun b o _ e=>sB _ _ e;have hPC:=sB _ _ hPB;generalize upd HB ea (.lst ((shT M tc).map V.str))=HC at *;clear sB badB scB rlB hPB T K14 L14 hea;walk_at "W";refine⟨1,rfl,?_⟩;walk_at "W";have sc14:SqL K H14 a (ns.map V.int):=scC.imp (fun r=>r.imp (fun e=>T14.kp a _ (ne_of e hPC (by intro z;cases z)) e) fun⟨o,e⟩=>⟨o,T14.kp a _ (ne_of e hPC (by intro z;cases z)) e⟩) id
 refine⟨63,rfl,a,_,rfl,sc14,fun l5 h5=>?_⟩;obtain⟨cs,ecs,hcs⟩:=cut_ints ns (some 1) (some 63);rw[ecs];have T15:=T14.same (Same.new (o:=.lst (cs.map V.int)) h5);have g5:upd H14 l5 (.lst (cs.map V.int)) l5=some (.lst (cs.map V.int)):=upd_same;generalize upd H14 l5 (.lst (cs.map V.int))=H15 at *;walk_at "W";refine⟨by show(1:Nat)<=sizeLine;decide,fun l6 h6=>?_⟩
 have s8:=Same.new (o:=.lst [.int 0]) h6;have T16:=T15.same s8;have g8:=s8 _ _ g5;have f8:upd H15 l6 (.lst [.int 0]) l6=some (.lst [.int 0]):=upd_same;generalize upd H15 l6 (.lst [.int 0])=H16 at *;walk_at "W";refine⟨l5,l6,_,_,rfl,rfl,g8,f8,by rw[List.length_map];show _+1<=sizeLine;omega,fun ql hql=>?_⟩
 rw[show cs.map V.int++[V.int 0]=(cs++[0]).map V.int by rw[List.map_append];rfl]
 have T17:=T16.rebase (o:=.lst ((cs++[0]).map V.int)) hql;have sC:=Same.new (o:=.lst ((cs++[0]).map V.int)) (T16.back hql);have qlD:upd HC ql (.lst ((cs++[0]).map V.int)) ql=some (.lst ((cs++[0]).map V.int)):=upd_same;have g9:upd H16 ql (.lst ((cs++[0]).map V.int)) ql=some (.lst ((cs++[0]).map V.int)):=upd_same;have rlD:=sC _ _ rlC;have eaD:=sC _ _ eaB;have hPD:=sC _ _ hPC;have badD:∀ v∈xs,BadV _ v:=fun v hv=>(badC v hv).keep fun b o _ e=>sC _ _ e;generalize upd HC ql (.lst ((cs++[0]).map V.int))=HD at *;generalize upd H16 ql (.lst ((cs++[0]).map V.int))=H17 at *;clear T14 T15 T16 s8 g8 f8 g5 h5 h6 hql scC rlC eaB hPC badC sC sc14;have nP:∀{b:Addr}{ys:List V},HD b=some (.lst ys)->b≠PS:=fun e=>ne_of e hPD (by intro z;cases z)
 walk_at "W";refine⟨ql,rfl,⟨_,SqL.of g9⟩,?_⟩;refine SW.forListC (xs:=(cs++[0]).map V.int) (fun i σ H'=>∃ v10 v11:Option V,σ=[some (.ref a),some (.ref rl),some (.ref q),v,some (.ref row),some (.str md),some (.ref q'),v7,v8,some (.ref ea),v10,v11,none]/\Tw C CT CD PS HD 9 9 q q' dq dq' tb tb' fa ma (1+r2).toNat M tc M tc FT GT H') ⟨none,none,rfl,T17⟩ ?_ ?_ ?_
 · rintro i σ H' _ ⟨v10,v11,rfl,T'⟩
   exact SqL.of (T'.kp _ _ (nP qlD) qlD)
 · rintro i y σ H18 hi ⟨v10,v11,rfl,T18⟩
   obtain⟨c,rfl⟩:=getInt hi;intro N5 hN5;walk_at "W";have rl18:=T18.kp _ _ (nP rlD) rlD;refine SW.iLen (.inl (SqL.of rl18)) ?_;rw[hxs];walk_at "W";obtain⟨y1,hy1,my1⟩:=atI_in (xs:=xs) (i:=c % (74:Nat)) (Int.emod_nonneg _ (by decide)) (by rw[hxs];exact Int.emod_lt_of_pos _ (by decide))
   refine wIxL rl18 hy1 ?_;walk_at "W";refine SW.iLen (.inl (SqL.of rl18)) ?_;rw[hxs];walk_at "W";obtain⟨y2,hy2,my2⟩:=atI_in (xs:=xs) (i:=c / 80 % (74:Nat)) (Int.emod_nonneg _ (by decide)) (by rw[hxs];exact Int.emod_lt_of_pos _ (by decide))
   refine wIxL rl18 hy2 ?_;walk_at "W";refine⟨by show(2:Nat)<=sizeLine;omega,fun l7 h7=>?_⟩
   have T19:=T18.rebase (o:=.lst [y1,y2]) h7;have HDs:=Same.new (o:=.lst [y1,y2]) (T18.back h7);have e7:upd H18 l7 (.lst [y1,y2]) l7=some (.lst [y1,y2]):=upd_same;have eE:upd HD l7 (.lst [y1,y2]) l7=some (.lst [y1,y2]):=upd_same;generalize upd H18 l7 (.lst [y1,y2])=H19 at *;generalize upd HD l7 (.lst [y1,y2])=HE at *;have eaE:=HDs _ _ eaD;have hPE:=HDs _ _ hPD;have badE:∀ v∈[y1,y2],BadV HE v:=fun v hv=>by
    have hv:v∈xs:=by
     rcases List.mem_cons.mp hv with rfl | z
     · exact my1
     cases List.mem_singleton.mp z;exact my2
    exact(badD v hv).keep fun b o _ e=>HDs _ _ e
   have nPE:∀{b:Addr}{ys:List V},HE b=some (.lst ys)->b≠PS:=fun e=>ne_of e hPE (by intro z;cases z)
   walk_at "W";refine⟨l7,rfl,⟨_,SqL.of e7⟩,?_⟩;refine SW.forListC (xs:=[y1,y2]) (fun i σ H'=>∃ v11:Option V,σ=[some (.ref a),some (.ref rl),some (.ref q),v,some (.ref row),some (.str md),some (.ref q'),v7,v8,some (.ref ea),some (.int c),v11,none]/\Tw C CT CD PS HE 9 9 q q' dq dq' tb tb' fa ma (1+r2).toNat M tc M tc FT GT H') ⟨v11,rfl,T19⟩ ?_ ?_ ?_
   · rintro i σ H' _ ⟨v11,rfl,T'⟩
     exact SqL.of (T'.kp _ _ (nPE eE) eE)
   · rintro j y σ H20 hj ⟨v11,rfl,T20⟩
     intro N6 hN6;walk_at "W";refine⟨q,dq,_,y,rfl,T20.J.hq,badV_no ((badE y (List.mem_of_getElem? hj)).keep fun b o ev e=>T20.kp b o (fun z=>by
      subst z;have hb:=badE y (List.mem_of_getElem? hj);rcases hb with ⟨r,z,_⟩ | z | z | ⟨_,z⟩ | ⟨b,z,h⟩
      · rw[ev]at z;cases z
      · rw[ev]at z;cases z
      · rw[ev]at z;cases z
      · rw[ev]at z;cases z
      rw[ev]at z;cases z;rw[hPE]at h;rcases h with ⟨_,z⟩ | ⟨_,z⟩ | z <;> cases z) e),fun H21 s21=>?_⟩
     have T21:=T20.same s21;walk_at "W";rw[if_neg (show ¬ ((!true)=true) by decide)]
     walk_at "W";refine wShown (T21.J.mono (by decide)) T21.L fun l8 H22 L22 K22 h22 e22=>?_
     have T22:=T21.lam L22 K22;walk_at "W";refine wNeSame (sh_dat e22) (sh_dat (T22.kp _ _ (nPE eaE) eaE)) (sh_lay (sh_ok trivial)) sh_depth ?_;walk_at "W";rw[if_neg Bool.false_ne_true];walk_at "W";subst hN6;exact⟨_,rfl,T22⟩
   rintro σ H20 ⟨v11,rfl,T20⟩
   dsimp only
   walk_at "W"
   subst_vars
   exact⟨_,_,rfl,T20.weaken HDs⟩
 rintro σ H18 ⟨v10,v11,rfl,T18⟩
 dsimp only
 walk_at "W";refine⟨by show(7:Nat)<=sizeLine;omega,fun l9 h9=>?_⟩
 rw[sev_rows];have T19:=T18.rebase (o:=.lst (sevD.map fun d=>V.str (dTx d))) h9;have e9:upd H18 l9 (.lst (sevD.map fun d=>V.str (dTx d))) l9=some (.lst (sevD.map fun d=>V.str (dTx d))):=upd_same;have eE:upd HD l9 (.lst (sevD.map fun d=>V.str (dTx d))) l9=some (.lst (sevD.map fun d=>V.str (dTx d))):=upd_same;have hPE:=Same.new (o:=.lst (sevD.map fun d=>V.str (dTx d))) (T18.back h9) _ _ hPD;generalize upd H18 l9 (.lst (sevD.map fun d=>V.str (dTx d)))=H19 at *;generalize upd HD l9 (.lst (sevD.map fun d=>V.str (dTx d)))=HE at *;have nPE:∀{b:Addr}{ys:List V},HE b=some (.lst ys)->b≠PS:=fun e=>ne_of e hPE (by intro z;cases z)
 clear T17 T18 nP hPD badD rlD qlD eaD g9;walk_at "W";refine⟨l9,rfl,⟨_,SqL.of e9⟩,?_⟩;refine SW.forListC (xs:=sevD.map fun d=>V.str (dTx d)) (fun i σ H'=>∃(v12:Option V) (M:MT) (tc:Int) (FT GT:Addr->Prop),σ=[some (.ref a),some (.ref rl),some (.ref q),v,some (.ref row),some (.str md),some (.ref q'),v7,v8,some (.ref ea),v10,v11,v12]/\Tw C CT CD PS HE (9+i) (9+i) q q' dq dq' tb tb' fa ma (1+r2).toNat M tc M tc FT GT H'/\RunOf fa ma M (putsD 9++sevD.take i)) ⟨none,M,tc,FT,GT,rfl,T19,RO⟩ ?_ ?_ ?_
 · rintro i σ H' _ ⟨v12,M,tc,FT,GT,rfl,T',_⟩
   exact SqL.of (T'.kp _ _ (nPE eE) eE)
 · rintro i y σ H20 hi ⟨v12,M,tc,FT,GT,rfl,T,RO⟩
   intro N7 hN7;rw[List.getElem?_map]at hi;obtain⟨d,hd,rfl⟩:=Option.map_eq_some_iff.mp hi;have db:=sev_db d (List.mem_of_getElem? hd);have hi7:i < 7:=by
    have:=(List.getElem?_eq_some_iff.mp hd).1;exact this
   walk_at "W";refine⟨q,dq,_,rfl,T.J.hq,rfl,?_⟩;walk_at "W";refine wSay (wd:=dW d) (ns:=dN d) rfl T.J.hq (.ans rfl T.J.S (T.J.gl.mono (by omega)) T.L (.deed d db fun H21 F1 S1 g1 f1=>?_))
   have T1:=T.deed1 db S1 g1 f1;walk_at "W";refine⟨q',dq',_,rfl,T1.J'.hq,rfl,?_⟩;walk_at "W";refine wSay (wd:=dW d) (ns:=dN d) rfl T1.J'.hq (.ans rfl T1.J'.S (T1.J'.gl.mono (by omega)) T1.L (.deed d db fun H22 G1 S2 g2 f2=>?_))
   have T2:=T1.deed2 db S2 g2 f2;walk_at "W";refine⟨rfl,_,rfl,?_⟩;refine iteNS rfl ?_;walk_at "W";refine wShown (T2.J.mono (by omega)) T2.L fun l3 H23 L23 K23 h23 e23=>?_
   have T3:=(T2.lam L23 K23).based e23 (fun z=>T2.J.S.fresh h23 z) fun z=>T2.J'.S.fresh h23 z;have sB:=Same.new (o:=.lst ((shT (deedM fa ma (1+r2).toNat M d) (tch fa ma (1+r2).toNat M (deedK d):Nat)).map V.str)) (T2.back h23);have e3B:upd HE l3 (.lst ((shT (deedM fa ma (1+r2).toNat M d) (tch fa ma (1+r2).toNat M (deedK d):Nat)).map V.str)) l3=some (.lst ((shT (deedM fa ma (1+r2).toNat M d) (tch fa ma (1+r2).toNat M (deedK d):Nat)).map V.str)):=upd_same;have n3P:l3≠PS:=fun z=>by
    obtain⟨ps,y⟩:=T2.L.tbl;rw[z,y]at h23;cases h23
   walk_at "W";refine wShown (T3.J'.mono (by omega)) T3.L fun l4 H24 L24 K24 h24 e24=>?_
   have T4:=T3.lam L24 K24;walk_at "W";refine wNeSame (sh_dat (T4.kp _ _ n3P e3B)) (sh_dat e24) (sh_lay (sh_ok trivial)) sh_depth ?_;walk_at "W";rw[if_neg Bool.false_ne_true];walk_at "W";subst hN7;refine⟨_,_,_,_,_,rfl,(T4.weaken sB),?_⟩;rw[take_next hd,← List.append_assoc];exact RO.deed (pc:=(1+r2).toNat) T.J.gl.T d
 rintro σ H20 ⟨v12,M,tc,FT,GT,rfl,T,RO⟩;have RO:RunOf fa ma M (putsD 9++sevD):=RO;have T:Tw C CT CD PS HE 16 16 q q' dq dq' tb tb' fa ma (1+r2).toNat M tc M tc FT GT H20:=T;have l40:tLook fa ma M 40=none:=by rw[← RO.2.1];exact sev_none
 have l35:tLook fa ma M 35=some 7:=by rw[← RO.2.1];exact sev_seven
 dsimp only
 walk_at "W";refine⟨q,dq,_,rfl,T.J.hq,rfl,?_⟩;walk_at "W";refine wSay (wd:="look") (ns:=[40]) (by decide +kernel) T.J.hq (.ans rfl T.J.S (T.J.gl.mono (by omega)) T.L (.deed (.look 40) ⟨by decide,by decide⟩ fun H21 F1 S1 g1 f1=>?_))
 have T1:=T.deed1 (dd:=.look 40) ⟨by decide,by decide⟩ S1 g1 f1
 have l35':tLook fa ma (deedM fa ma (1+r2).toNat M (.look 40)) 35=some 7:=by
  have:=(deed_ok (pc:=(1+r2).toNat) T.J.gl.T (.look 40)).2 _ RO.1 RO.2.1 RO.2.2;rw[← this.2.1];exact sev_seven
 walk_at "W";refine⟨rfl,_,rfl,?_⟩;refine iteY (show V.str (wTx (tLook fa ma M 40))=V.str (Str.ofString "none") by rw[l40];rfl) ?_
 walk_at "W";refine⟨q,dq,_,rfl,T1.J.hq,rfl,?_⟩;walk_at "W";refine wSay (wd:="look") (ns:=[35]) (by decide +kernel) T1.J.hq (.ans rfl T1.J.S (T1.J.gl.mono (by omega)) T1.L (.deed (.look 35) ⟨by decide,by decide⟩ fun H22 F2 S2 g2 f2=>?_))
 walk_at "W";refine⟨rfl,?_⟩;rw[decide_eq_true (show V.str (wTx (tLook fa ma (deedM fa ma (1+r2).toNat M (.look 40)) (deedK (.look 35))))=V.str (Str.ofString "7") by
  show V.str (wTx (tLook fa ma (deedM fa ma (1+r2).toNat M (.look 40)) 35))=V.str (Str.ofString "7");rw[l35'];rfl)]
 exact k _
theorem all_mk{l:W.OpenLaw}{w:World}{K:W.Frag}{h:Heap}{mg:Str->Option Value}{fa:Addr}(X:K.In h)(G:h.Ns mainGlobals mg)(hfa:mg "law"=some (.ref fa))
 {C_Shelf:Addr}
 {C_Table:Addr}
 {C_Desk:Addr}
 {C_SlowError:Addr}
 {C_NoPlace:Addr}
 {C_NoSize:Addr}
 {C_NoState:Addr}
 {C_NoRow:Addr}
 {f0:Addr}{g0:FuncData}
 {f1:Addr}{g1:FuncData}
 {f2:Addr}{g2:FuncData}
 {f3:Addr}{g3:FuncData}
 {f4:Addr}{g4:FuncData}
 {f5:Addr}{g5:FuncData}
 {f6:Addr}{g6:FuncData}
 {f7:Addr}{g7:FuncData}
 {f8:Addr}{g8:FuncData}
 {f9:Addr}{g9:FuncData}
 {f10:Addr}{g10:FuncData}
 {f11:Addr}{g11:FuncData}
 {f12:Addr}{g12:FuncData}
 {f13:Addr}{g13:FuncData}
 {f14:Addr}{g14:FuncData}
 {f15:Addr}{g15:FuncData}
 {f16:Addr}{g16:FuncData}
 {f17:Addr}{g17:FuncData}
 {f18:Addr}{g18:FuncData}
 {f19:Addr}{g19:FuncData}
 {f20:Addr}{g20:FuncData}
 {f21:Addr}{g21:FuncData}
 {f22:Addr}{g22:FuncData}
 {f23:Addr}{g23:FuncData}
 {f24:Addr}{g24:FuncData}
 {f25:Addr}{g25:FuncData}
 {f26:Addr}{g26:FuncData}
 {f27:Addr}{g27:FuncData}
 {f28:Addr}{g28:FuncData}
 {f29:Addr}{g29:FuncData}
 {f30:Addr}{g30:FuncData}
 {f31:Addr}{g31:FuncData}
 {f32:Addr}{g32:FuncData}
 {f33:Addr}{g33:FuncData}
 {f34:Addr}{g34:FuncData}
 {f35:Addr}{g35:FuncData}
 {f36:Addr}{g36:FuncData}
 {f37:Addr}{g37:FuncData}
 {f38:Addr}{g38:FuncData}
 {f39:Addr}{g39:FuncData}
 {f40:Addr}{g40:FuncData}
 {f41:Addr}{g41:FuncData}
 {f42:Addr}{g42:FuncData}
 {f43:Addr}
 {lOc:Value}{lOd lcD:Option Addr}{lkV lDoc lPm lCt:Value}{lAn:Option Addr}{lSl lcS lbS:Array (Option Value)}{lC lP lB:Addr}{lV:Array Value}{lFile:Str}{lTf lTg lTt:Tok}{lFl lTx:Int}{lIn:Bool}
 {f44:Addr}{g44:FuncData}
 {f45:Addr}{g45:FuncData}
 {f46:Addr}{g46:FuncData}
 {f47:Addr}{g47:FuncData}
 {f48:Addr}{g48:FuncData}
 {f49:Addr}{g49:FuncData}
 {f50:Addr}{g50:FuncData}
 {f51:Addr}{g51:FuncData}
 {f52:Addr}{g52:FuncData}
 {f53:Addr}{g53:FuncData}
 {f54:Addr}{g54:FuncData}
 {f55:Addr}{g55:FuncData}
 {f56:Addr}{g56:FuncData}
 {f57:Addr}{g57:FuncData}
 {f58:Addr}{g58:FuncData}
 {f59:Addr}{g59:FuncData}
 {tk0:Tok}
 {tk1:Tok}
 {tk2:Tok}
 {tk3:Tok}
 {tk4:Tok}
 {tk5:Tok}
 {tk6:Tok}
 {tk7:Tok}
 {tA_SIZES:Addr}{tD_SIZES:Option Addr}{tN_SIZES:Nat}{tS_SIZES:Array (Option Value)}{tT_SIZES_0 tT_SIZES_1 tT_SIZES_2 tT_SIZES_3 tT_SIZES_4 tT_SIZES_5 tT_SIZES_6 tT_SIZES_7 tT_SIZES_8 tT_SIZES_9 tT_SIZES_10:Tok}
 {eA_ eB_ eC0 eC1 eC2 eC3:Addr}{eD0 eD1 eD2 eD3 eD4 eD5:Option Addr}{eN0 eN1 eN2 eN3 eN4 eN5:Nat}{eS0 eS1 eS2 eS3 eS4 eS5:Array (Option Value)}{eT_:Tok}
 (q_Shelf:W.nsIn K mainGlobals "Shelf"=some (some (.ref C_Shelf)))
 (pg_Shelf:W.plainGet K C_Shelf Str.empty=true)
 (hd_Shelf:W.hasDictIn K C_Shelf=true)
 (po_Shelf:W.plainOver K C_Shelf=true)
 (sa_Shelf:W.findIn K (.ref C_Shelf) "__setattr__"=some (some (.builtin "object.__setattr__")))
 (mk_Shelf:W.makesIn K C_Shelf=true)
 (kc_Shelf:W.keepIn K (.ref C_Shelf)=true)
 (na_Shelf_mixer:W.findIn K (.ref C_Shelf) "mixer"=some none)
 (na_Shelf_rows:W.findIn K (.ref C_Shelf) "rows"=some none)
 (na_Shelf_held:W.findIn K (.ref C_Shelf) "held"=some none)
 (q_Table:W.nsIn K mainGlobals "Table"=some (some (.ref C_Table)))
 (pg_Table:W.plainGet K C_Table Str.empty=true)
 (hd_Table:W.hasDictIn K C_Table=true)
 (po_Table:W.plainOver K C_Table=true)
 (sa_Table:W.findIn K (.ref C_Table) "__setattr__"=some (some (.builtin "object.__setattr__")))
 (mk_Table:W.makesIn K C_Table=true)
 (kc_Table:W.keepIn K (.ref C_Table)=true)
 (na_Table_mixer:W.findIn K (.ref C_Table) "mixer"=some none)
 (na_Table_pace:W.findIn K (.ref C_Table) "pace"=some none)
 (na_Table_elder:W.findIn K (.ref C_Table) "elder"=some none)
 (na_Table_moved:W.findIn K (.ref C_Table) "moved"=some none)
 (na_Table_newer:W.findIn K (.ref C_Table) "newer"=some none)
 (na_Table_touches:W.findIn K (.ref C_Table) "touches"=some none)
 (q_Desk:W.nsIn K mainGlobals "Desk"=some (some (.ref C_Desk)))
 (pg_Desk:W.plainGet K C_Desk Str.empty=true)
 (hd_Desk:W.hasDictIn K C_Desk=true)
 (po_Desk:W.plainOver K C_Desk=true)
 (sa_Desk:W.findIn K (.ref C_Desk) "__setattr__"=some (some (.builtin "object.__setattr__")))
 (mk_Desk:W.makesIn K C_Desk=true)
 (kc_Desk:W.keepIn K (.ref C_Desk)=true)
 (na_Desk_table:W.findIn K (.ref C_Desk) "table"=some none)
 (q_SlowError:W.nsIn K mainGlobals "SlowError"=some (some (.ref C_SlowError)))
 (q_NoPlace:W.nsIn K mainGlobals "NoPlace"=some (some (.ref C_NoPlace)))
 (q_NoSize:W.nsIn K mainGlobals "NoSize"=some (some (.ref C_NoSize)))
 (q_NoState:W.nsIn K mainGlobals "NoState"=some (some (.ref C_NoState)))
 (q_NoRow:W.nsIn K mainGlobals "NoRow"=some (some (.ref C_NoRow)))
 (xo_NoRow:W.excIn K C_NoRow [.type "ValueError",.type "Exception",.type "BaseException",.type "object"] "ValueError.__new__"=true)
 (xa_NoRow:W.findIn K (.ref C_NoRow) "__getattribute__"=some (some (.builtin "BaseException.__getattribute__")))
 (xb_NoRow:W.findIn K (.ref C_NoRow) "__getattr__"=some none)
 (xc_NoRow:W.findIn K (.ref C_NoRow) "__class__"=some (some (.builtin "object.__class__")))
 (xd_NoRow:W.specialIn K (.builtin "object.__class__") "__get__"=some (some (.builtin "getset_descriptor.__get__")))
 (xe_NoRow:W.takesIn K (.builtin "object.__class__")=some true)
 (xf_NoRow:W.mroIn K C_NoRow (.type "object")=some true)
 (xg_NoRow:W.mroIn K C_NoRow (.type "BaseException")=some true)
 (xh_NoRow:(W.clsIn K C_NoRow).isSome=true)
 (xs_NoRow:W.exmOne K (.ref C_NoRow) (.ref C_SlowError)=some true)
 (xv_NoRow:W.kitOne K (.ref C_NoRow) (.type "ValueError")=some true)
 (xn_NoRow:W.kitAny K (.ref C_NoRow) [.ref C_NoPlace,.ref C_NoSize,.ref C_NoState]=some false)
 (a0:W.findIn K (.ref C_Shelf) "size"=some (some (.ref f0)))
 (i0:W.isFn K (.ref f0)=true)
 (u0:Fun K "size" "Shelf.size" z12_ f0 g0)
 (a1:W.findIn K (.ref C_Table) "due_places"=some (some (.ref f1)))
 (i1:W.isFn K (.ref f1)=true)
 (u1:Fun K "due_places" "Table.due_places" z16_ f1 g1)
 (a2:W.nsIn K mainGlobals "is_whole"=some (some (.ref f2)))
 (u2:Fun K "is_whole" "is_whole" z39_ f2 g2)
 (a3:W.findIn K (.ref C_Shelf) "check_place"=some (some (.ref f3)))
 (i3:W.isFn K (.ref f3)=true)
 (u3:Fun K "check_place" "Shelf.check_place" z3_ f3 g3)
 (a4:W.findIn K (.ref C_Shelf) "row"=some (some (.ref f4)))
 (i4:W.isFn K (.ref f4)=true)
 (u4:Fun K "row" "Shelf.row" z10_ f4 g4)
 (a5:W.findIn K (.ref C_Shelf) "empty"=some (some (.ref f5)))
 (i5:W.isFn K (.ref f5)=true)
 (u5:Fun K "empty" "Shelf.empty" z5_ f5 g5)
 (a6:W.nsIn K mainGlobals "mark_of"=some (some (.ref f6)))
 (u6:Fun K "mark_of" "mark_of" z48_ f6 g6)
 (a7:W.nsIn K mainGlobals "place_of"=some (some (.ref f7)))
 (u7:Fun K "place_of" "place_of" z52_ f7 g7)
 (a8:W.findIn K (.ref C_Shelf) "place_with"=some (some (.ref f8)))
 (i8:W.isFn K (.ref f8)=true)
 (u8:Fun K "place_with" "Shelf.place_with" z8_ f8 g8)
 (a9:W.findIn K (.ref C_Shelf) "row_with"=some (some (.ref f9)))
 (i9:W.isFn K (.ref f9)=true)
 (u9:Fun K "row_with" "Shelf.row_with" z11_ f9 g9)
 (a10:W.findIn K (.ref C_Shelf) "put"=some (some (.ref f10)))
 (i10:W.isFn K (.ref f10)=true)
 (u10:Fun K "put" "Shelf.put" z9_ f10 g10)
 (a11:W.findIn K (.ref C_Table) "move_place"=some (some (.ref f11)))
 (i11:W.isFn K (.ref f11)=true)
 (u11:Fun K "move_place" "Table.move_place" z21_ f11 g11)
 (a12:W.findIn K (.ref C_Table) "end_move"=some (some (.ref f12)))
 (i12:W.isFn K (.ref f12)=true)
 (u12:Fun K "end_move" "Table.end_move" z17_ f12 g12)
 (a13:W.findIn K (.ref C_Table) "stands_on_elder"=some (some (.ref f13)))
 (i13:W.isFn K (.ref f13)=true)
 (u13:Fun K "stands_on_elder" "Table.stands_on_elder" z26_ f13 g13)
 (a14:W.findIn K (.ref C_Table) "go_on"=some (some (.ref f14)))
 (i14:W.isFn K (.ref f14)=true)
 (u14:Fun K "go_on" "Table.go_on" z18_ f14 g14)
 (a15:W.findIn K (.ref C_Shelf) "look"=some (some (.ref f15)))
 (i15:W.isFn K (.ref f15)=true)
 (u15:Fun K "look" "Shelf.look" z6_ f15 g15)
 (a16:W.findIn K (.ref C_Table) "shelf_with"=some (some (.ref f16)))
 (i16:W.isFn K (.ref f16)=true)
 (u16:Fun K "shelf_with" "Table.shelf_with" z23_ f16 g16)
 (a17:W.findIn K (.ref C_Shelf) "many"=some (some (.ref f17)))
 (i17:W.isFn K (.ref f17)=true)
 (u17:Fun K "many" "Shelf.many" z7_ f17 g17)
 (a18:W.findIn K (.ref C_Table) "wanted_size"=some (some (.ref f18)))
 (i18:W.isFn K (.ref f18)=true)
 (u18:Fun K "wanted_size" "Table.wanted_size" z29_ f18 g18)
 (a19:W.nsIn K mainGlobals "is_size"=some (some (.ref f19)))
 (u19:Fun K "is_size" "is_size" z37_ f19 g19)
 (a20:W.findIn K (.ref C_Shelf) "__init__"=some (some (.ref f20)))
 (i20:W.isFn K (.ref f20)=true)
 (u20:Fun K "__init__" "Shelf.__init__" z2_ f20 g20)
 (a21:W.findIn K (.ref C_Table) "begin_move"=some (some (.ref f21)))
 (i21:W.isFn K (.ref f21)=true)
 (u21:Fun K "begin_move" "Table.begin_move" z14_ f21 g21)
 (a22:W.findIn K (.ref C_Table) "put"=some (some (.ref f22)))
 (i22:W.isFn K (.ref f22)=true)
 (u22:Fun K "put" "Table.put" z22_ f22 g22)
 (a23:W.findIn K (.ref C_Shelf) "cut"=some (some (.ref f23)))
 (i23:W.isFn K (.ref f23)=true)
 (u23:Fun K "cut" "Shelf.cut" z4_ f23 g23)
 (a24:W.findIn K (.ref C_Table) "cut"=some (some (.ref f24)))
 (i24:W.isFn K (.ref f24)=true)
 (u24:Fun K "cut" "Table.cut" z15_ f24 g24)
 (a25:W.findIn K (.ref C_Table) "look"=some (some (.ref f25)))
 (i25:W.isFn K (.ref f25)=true)
 (u25:Fun K "look" "Table.look" z19_ f25 g25)
 (a26:W.nsIn K mainGlobals "done"=some (some (.ref f26)))
 (u26:Fun K "done" "done" z32_ f26 g26)
 (a27:W.nsIn K mainGlobals "is_key"=some (some (.ref f27)))
 (u27:Fun K "is_key" "is_key" z33_ f27 g27)
 (a28:W.nsIn K mainGlobals "is_worth"=some (some (.ref f28)))
 (u28:Fun K "is_worth" "is_worth" z40_ f28 g28)
 (a29:W.nsIn K mainGlobals "is_mixer_part"=some (some (.ref f29)))
 (u29:Fun K "is_mixer_part" "is_mixer_part" z34_ f29 g29)
 (a30:W.nsIn K mainGlobals "is_pace"=some (some (.ref f30)))
 (u30:Fun K "is_pace" "is_pace" z35_ f30 g30)
 (a31:W.nsIn K mainGlobals "is_point"=some (some (.ref f31)))
 (u31:Fun K "is_point" "is_point" z36_ f31 g31)
 (a32:W.nsIn K mainGlobals "point_of"=some (some (.ref f32)))
 (u32:Fun K "point_of" "point_of" z54_ f32 g32)
 (a33:W.nsIn K mainGlobals "stretch_of"=some (some (.ref f33)))
 (u33:Fun K "stretch_of" "stretch_of" z58_ f33 g33)
 (a34:W.nsIn K mainGlobals "shelf_of"=some (some (.ref f34)))
 (u34:Fun K "shelf_of" "shelf_of" z56_ f34 g34)
 (a35:W.findIn K (.ref C_Table) "__init__"=some (some (.ref f35)))
 (i35:W.isFn K (.ref f35)=true)
 (u35:Fun K "__init__" "Table.__init__" z13_ f35 g35)
 (a36:W.findIn K (.ref C_Table) "shelves"=some (some (.ref f36)))
 (i36:W.isFn K (.ref f36)=true)
 (u36:Fun K "shelves" "Table.shelves" z24_ f36 g36)
 (a37:W.findIn K (.ref C_Table) "many"=some (some (.ref f37)))
 (i37:W.isFn K (.ref f37)=true)
 (u37:Fun K "many" "Table.many" z20_ f37 g37)
 (a38:W.findIn K (.ref C_Table) "touched"=some (some (.ref f38)))
 (i38:W.isFn K (.ref f38)=true)
 (u38:Fun K "touched" "Table.touched" z28_ f38 g38)
 (a39:W.findIn K (.ref C_Table) "sizes"=some (some (.ref f39)))
 (i39:W.isFn K (.ref f39)=true)
 (u39:Fun K "sizes" "Table.sizes" z25_ f39 g39)
 (a40:W.nsIn K mainGlobals "place_at"=some (some (.ref f40)))
 (u40:Fun K "place_at" "place_at" z51_ f40 g40)
 (a41:W.nsIn K mainGlobals "parts_left"=some (some (.ref f41)))
 (u41:Fun K "parts_left" "parts_left" z50_ f41 g41)
 (a42:W.nsIn K mainGlobals "point_behind"=some (some (.ref f42)))
 (u42:Fun K "point_behind" "point_behind" z53_ f42 g42)
 (a43:W.nsIn K mainGlobals "step"=some (some (.ref f43)))
 (ll_:K.lookup f43=some ⟨lOc,lOd,.func (W.fnOf "step" "step" (defArgs z57_) (defBody z57_) (defScope z57_) .none lkV lDoc lPm lAn (.ref lC) lCt),lSl⟩)
 (lm_:W.codeIn K (.ref lC) "step"=true)
 (lk_:W.keepIn K (.ref f43)=true)
 (lo_:K.lookup lC=some ⟨.type "code",lcD,.fields lV,lcS⟩)
 (le11:lV[11]?=some (.ref lP))
 (le18:lV[18]?=some (.str lFile lTf))
 (le7:lV[7]?=some (.int lFl lTg))
 (le9:lV[9]?=some (.bool lIn))
 (le10:lV[10]?=some (.int lTx lTt))
 (lp_:K.lookup lP=some (W.tabObj #[]))
 (le0:(lC == lP)=false)
 (lb_:W.nsIn K mainGlobals "__builtins__"=some (some (.ref lB)))
 (lc_:K.lookup lB=some ⟨.type "module",some builtinsNs,.plain,lbS⟩)
 (le1:(lB == builtinsNs)=false)
 (le2:(lB == mainGlobals)=false)
 (a44:W.findIn K (.ref C_Desk) "__init__"=some (some (.ref f44)))
 (i44:W.isFn K (.ref f44)=true)
 (u44:Fun K "__init__" "Desk.__init__" z0_ f44 g44)
 (a45:W.nsIn K mainGlobals "are_figures"=some (some (.ref f45)))
 (u45:Fun K "are_figures" "are_figures" z31_ f45 g45)
 (a46:W.nsIn K mainGlobals "number_of"=some (some (.ref f46)))
 (u46:Fun K "number_of" "number_of" z49_ f46 g46)
 (a47:W.nsIn K mainGlobals "is_such_row"=some (some (.ref f47)))
 (u47:Fun K "is_such_row" "is_such_row" z38_ f47 g47)
 (a48:W.nsIn K mainGlobals "text_of_sizes"=some (some (.ref f48)))
 (u48:Fun K "text_of_sizes" "text_of_sizes" z59_ f48 g48)
 (a49:W.nsIn K mainGlobals "text_of_step"=some (some (.ref f49)))
 (u49:Fun K "text_of_step" "text_of_step" z60_ f49 g49)
 (a50:W.nsIn K mainGlobals "text_of_worth"=some (some (.ref f50)))
 (u50:Fun K "text_of_worth" "text_of_worth" z61_ f50 g50)
 (a51:W.nsIn K mainGlobals "answer_of"=some (some (.ref f51)))
 (u51:Fun K "answer_of" "answer_of" z30_ f51 g51)
 (a52:W.findIn K (.ref C_Desk) "say"=some (some (.ref f52)))
 (i52:W.isFn K (.ref f52)=true)
 (u52:Fun K "say" "Desk.say" z1_ f52 g52)
 (a53:W.nsIn K mainGlobals "_law_cell_at"=some (some (.ref f53)))
 (u53:Fun K "_law_cell_at" "_law_cell_at" z42_ f53 g53)
 (a54:W.nsIn K mainGlobals "_law_row"=some (some (.ref f54)))
 (u54:Fun K "_law_row" "_law_row" z44_ f54 g54)
 (a55:W.nsIn K mainGlobals "_law_take"=some (some (.ref f55)))
 (u55:Fun K "_law_take" "_law_take" z47_ f55 g55)
 (a56:W.nsIn K mainGlobals "_law_rows"=some (some (.ref f56)))
 (u56:Fun K "_law_rows" "_law_rows" z45_ f56 g56)
 (a57:W.nsIn K mainGlobals "_law_refused"=some (some (.ref f57)))
 (u57:Fun K "_law_refused" "_law_refused" z43_ f57 g57)
 (a58:W.nsIn K mainGlobals "_law_shown"=some (some (.ref f58)))
 (u58:Fun K "_law_shown" "_law_shown" z46_ f58 g58)
 (a59:W.nsIn K mainGlobals "law"=some (some (.ref f59)))
 (u59:Fun K "law" "law" z41_ f59 g59)
 (cst0:W.nsIn K mainGlobals "MARK_BITS"=some (some (.int 16 tk0)))
 (cst1:W.nsIn K mainGlobals "MARKS"=some (some (.int 65536 tk1)))
 (cst2:W.nsIn K mainGlobals "GREATEST"=some (some (.int 1000000000 tk2)))
 (cst3:W.nsIn K mainGlobals "LAST_POINT"=some (some (.int 65535 tk3)))
 (cst4:W.nsIn K mainGlobals "GREATEST_MIXER_PART"=some (some (.int 65535 tk4)))
 (cst5:W.nsIn K mainGlobals "GREATEST_PACE"=some (some (.int 8 tk5)))
 (cst6:W.nsIn K mainGlobals "FIGURES"=some (some (.str "0123456789" tk6)))
 (cst7:W.nsIn K mainGlobals "MOST_FIGURES"=some (some (.int 10 tk7)))
 (ta_SIZES:W.nsIn K mainGlobals "SIZES"=some (some (.ref tA_SIZES)))
 (tl_SIZES:K.lookup tA_SIZES=some ⟨.type "tuple",tD_SIZES,.seq #[.int 4 tT_SIZES_0,.int 8 tT_SIZES_1,.int 16 tT_SIZES_2,.int 32 tT_SIZES_3,.int 64 tT_SIZES_4,.int 128 tT_SIZES_5,.int 256 tT_SIZES_6,.int 512 tT_SIZES_7,.int 1024 tT_SIZES_8,.int 2048 tT_SIZES_9,.int 4096 tT_SIZES_10] tN_SIZES,tS_SIZES⟩)
 (ea_:W.nsIn K mainGlobals "EMPTY"=some (some (.ref eA_)))
 (eb_:K.lookup eA_=some ⟨.type "tuple",eD0,.seq #[.none,.int 0 eT_,.ref eB_] eN0,eS0⟩)
 (ec_:K.lookup eB_=some ⟨.type "tuple",eD1,.seq #[.ref eC0,.ref eC1,.ref eC2,.ref eC3] eN1,eS1⟩)
 (ed0:K.lookup eC0=some ⟨.type "tuple",eD2,.seq #[] eN2,eS2⟩)
 (ed1:K.lookup eC1=some ⟨.type "tuple",eD3,.seq #[] eN3,eS3⟩)
 (ed2:K.lookup eC2=some ⟨.type "tuple",eD4,.seq #[] eN4,eS4⟩)
 (ed3:K.lookup eC3=some ⟨.type "tuple",eD5,.seq #[] eN5,eS5⟩)
 (blt0:W.nsIn K mainGlobals "int"=some none)
 (blt1:W.nsIn K mainGlobals "bool"=some none)
 (blt2:W.nsIn K mainGlobals "isinstance"=some none)
 (blt3:W.nsIn K mainGlobals "range"=some none)
 (blt4:W.nsIn K mainGlobals "len"=some none)
 (blt5:W.nsIn K mainGlobals "list"=some none)
 (blt6:W.nsIn K mainGlobals "tuple"=some none)
 (blt7:W.nsIn K mainGlobals "sum"=some none)
 (blt8:W.nsIn K mainGlobals "min"=some none)
 (blt9:W.nsIn K mainGlobals "max"=some none)
 (blt10:W.nsIn K mainGlobals "set"=some none)
 (blt11:W.nsIn K mainGlobals "str"=some none)
 (blt12:W.nsIn K mainGlobals "sorted"=some none)
 (blt13:W.nsIn K mainGlobals "all"=some none)
 (blt14:W.nsIn K mainGlobals "ValueError"=some none) :
 ∃(c P:Addr) (fd:FuncData),K.lookup P=some (W.tabObj #[])/\W.CodeHd h c P/\(∀(s:Shared) (v:Value),BindsTo s fd ⟨[v],[]⟩ [("script",v)]) /\ ∀ base:Heap,(wo K P).In base->base.Ns mainGlobals mg->FnOk l.prog w (wo K P) mg base CX0 12 fa fd ["script"] (spLawT (wo K P) P):=by
 have e:=hfa.symm.trans (W.mg_of X G a59);cases e;have pg_Shelf:=(wo_plainGet lp_).trans pg_Shelf;have hd_Shelf:=(wo_hasDictIn lp_).trans hd_Shelf;have po_Shelf:=(wo_plainOver lp_).trans po_Shelf;have sa_Shelf:=(wo_findIn lp_).trans sa_Shelf;have mk_Shelf:=wo_makesIn lp_ mk_Shelf;have kc_Shelf:=wo_keepIn lp_ kc_Shelf;have na_Shelf_mixer:=(wo_findIn lp_).trans na_Shelf_mixer;have na_Shelf_rows:=(wo_findIn lp_).trans na_Shelf_rows;have na_Shelf_held:=(wo_findIn lp_).trans na_Shelf_held;have pg_Table:=(wo_plainGet lp_).trans pg_Table;have hd_Table:=(wo_hasDictIn lp_).trans hd_Table;have po_Table:=(wo_plainOver lp_).trans po_Table;have sa_Table:=(wo_findIn lp_).trans sa_Table;have mk_Table:=wo_makesIn lp_ mk_Table;have kc_Table:=wo_keepIn lp_ kc_Table;have na_Table_mixer:=(wo_findIn lp_).trans na_Table_mixer;have na_Table_pace:=(wo_findIn lp_).trans na_Table_pace;have na_Table_elder:=(wo_findIn lp_).trans na_Table_elder;have na_Table_moved:=(wo_findIn lp_).trans na_Table_moved;have na_Table_newer:=(wo_findIn lp_).trans na_Table_newer;have na_Table_touches:=(wo_findIn lp_).trans na_Table_touches;have pg_Desk:=(wo_plainGet lp_).trans pg_Desk;have hd_Desk:=(wo_hasDictIn lp_).trans hd_Desk;have po_Desk:=(wo_plainOver lp_).trans po_Desk;have sa_Desk:=(wo_findIn lp_).trans sa_Desk;have mk_Desk:=wo_makesIn lp_ mk_Desk;have kc_Desk:=wo_keepIn lp_ kc_Desk;have na_Desk_table:=(wo_findIn lp_).trans na_Desk_table;have a0:=(wo_findIn lp_).trans a0;have i0:=wo_isFn lp_ i0;have u0:=Fun.wo lp_ u0;have a1:=(wo_findIn lp_).trans a1;have i1:=wo_isFn lp_ i1;have u1:=Fun.wo lp_ u1;have u2:=Fun.wo lp_ u2;have a3:=(wo_findIn lp_).trans a3;have i3:=wo_isFn lp_ i3;have u3:=Fun.wo lp_ u3;have a4:=(wo_findIn lp_).trans a4;have i4:=wo_isFn lp_ i4;have u4:=Fun.wo lp_ u4;have a5:=(wo_findIn lp_).trans a5;have i5:=wo_isFn lp_ i5;have u5:=Fun.wo lp_ u5;have u6:=Fun.wo lp_ u6;have u7:=Fun.wo lp_ u7;have a8:=(wo_findIn lp_).trans a8;have i8:=wo_isFn lp_ i8;have u8:=Fun.wo lp_ u8;have a9:=(wo_findIn lp_).trans a9;have i9:=wo_isFn lp_ i9;have u9:=Fun.wo lp_ u9;have a10:=(wo_findIn lp_).trans a10;have i10:=wo_isFn lp_ i10;have u10:=Fun.wo lp_ u10;have a11:=(wo_findIn lp_).trans a11;have i11:=wo_isFn lp_ i11;have u11:=Fun.wo lp_ u11;have a12:=(wo_findIn lp_).trans a12;have i12:=wo_isFn lp_ i12;have u12:=Fun.wo lp_ u12;have a13:=(wo_findIn lp_).trans a13;have i13:=wo_isFn lp_ i13;have u13:=Fun.wo lp_ u13;have a14:=(wo_findIn lp_).trans a14;have i14:=wo_isFn lp_ i14;have u14:=Fun.wo lp_ u14;have a15:=(wo_findIn lp_).trans a15;have i15:=wo_isFn lp_ i15;have u15:=Fun.wo lp_ u15;have a16:=(wo_findIn lp_).trans a16;have i16:=wo_isFn lp_ i16;have u16:=Fun.wo lp_ u16;have a17:=(wo_findIn lp_).trans a17;have i17:=wo_isFn lp_ i17;have u17:=Fun.wo lp_ u17;have a18:=(wo_findIn lp_).trans a18;have i18:=wo_isFn lp_ i18;have u18:=Fun.wo lp_ u18;have u19:=Fun.wo lp_ u19;have a20:=(wo_findIn lp_).trans a20;have i20:=wo_isFn lp_ i20;have u20:=Fun.wo lp_ u20;have a21:=(wo_findIn lp_).trans a21;have i21:=wo_isFn lp_ i21;have u21:=Fun.wo lp_ u21;have a22:=(wo_findIn lp_).trans a22;have i22:=wo_isFn lp_ i22;have u22:=Fun.wo lp_ u22;have a23:=(wo_findIn lp_).trans a23;have i23:=wo_isFn lp_ i23;have u23:=Fun.wo lp_ u23;have a24:=(wo_findIn lp_).trans a24;have i24:=wo_isFn lp_ i24;have u24:=Fun.wo lp_ u24;have a25:=(wo_findIn lp_).trans a25;have i25:=wo_isFn lp_ i25;have u25:=Fun.wo lp_ u25;have u26:=Fun.wo lp_ u26;have u27:=Fun.wo lp_ u27;have u28:=Fun.wo lp_ u28;have u29:=Fun.wo lp_ u29;have u30:=Fun.wo lp_ u30;have u31:=Fun.wo lp_ u31;have u32:=Fun.wo lp_ u32;have u33:=Fun.wo lp_ u33;have u34:=Fun.wo lp_ u34;have a35:=(wo_findIn lp_).trans a35;have i35:=wo_isFn lp_ i35;have u35:=Fun.wo lp_ u35;have a36:=(wo_findIn lp_).trans a36;have i36:=wo_isFn lp_ i36;have u36:=Fun.wo lp_ u36;have a37:=(wo_findIn lp_).trans a37;have i37:=wo_isFn lp_ i37;have u37:=Fun.wo lp_ u37;have a38:=(wo_findIn lp_).trans a38;have i38:=wo_isFn lp_ i38;have u38:=Fun.wo lp_ u38;have a39:=(wo_findIn lp_).trans a39;have i39:=wo_isFn lp_ i39;have u39:=Fun.wo lp_ u39;have u40:=Fun.wo lp_ u40;have u41:=Fun.wo lp_ u41;have u42:=Fun.wo lp_ u42;have a44:=(wo_findIn lp_).trans a44;have i44:=wo_isFn lp_ i44;have u44:=Fun.wo lp_ u44;have u45:=Fun.wo lp_ u45;have u46:=Fun.wo lp_ u46;have u47:=Fun.wo lp_ u47;have u48:=Fun.wo lp_ u48;have u49:=Fun.wo lp_ u49;have u50:=Fun.wo lp_ u50;have u51:=Fun.wo lp_ u51;have a52:=(wo_findIn lp_).trans a52;have i52:=wo_isFn lp_ i52;have u52:=Fun.wo lp_ u52;have u53:=Fun.wo lp_ u53;have u54:=Fun.wo lp_ u54;have u55:=Fun.wo lp_ u55;have u56:=Fun.wo lp_ u56;have u57:=Fun.wo lp_ u57;have u58:=Fun.wo lp_ u58;have u59:=Fun.wo lp_ u59;have tl_SIZES:=wo_lk lp_ tl_SIZES (fun z=>by cases z)
 have xs_NoRow:=SW.wo_exmOne lp_ xs_NoRow;have xv_NoRow:=SW.wo_kitOne lp_ xv_NoRow;have xn_NoRow:=SW.wo_kitAny lp_ xn_NoRow;have eb_:=wo_lk lp_ eb_ (fun z=>by cases z)
 have ec_:=wo_lk lp_ ec_ (fun z=>by cases z)
 have ed0:=wo_lk lp_ ed0 (fun z=>by cases z)
 have ed1:=wo_lk lp_ ed1 (fun z=>by cases z)
 have ed2:=wo_lk lp_ ed2 (fun z=>by cases z)
 have ed3:=wo_lk lp_ ed3 (fun z=>by cases z)
 have lamk:=lam_k X G lp_ lo_ le11 le18 le7 le9 le10 le0 lb_ lc_ le1 le2;have g:Gs (wo K lP) mg C_Shelf C_Table C_Desk lC lP C_NoRow C_SlowError C_NoPlace C_NoSize C_NoState:=⟨⟨_,W.mg_of X G cst0⟩,⟨_,W.mg_of X G cst1⟩,⟨_,W.mg_of X G ta_SIZES,fun H=>.inr ⟨_,_,_,tl_SIZES,rfl,rfl,by show(11:Nat)<=sizeLine;decide,.cons ⟨_,rfl⟩ (.cons ⟨_,rfl⟩ (.cons ⟨_,rfl⟩ (.cons ⟨_,rfl⟩ (.cons ⟨_,rfl⟩ (.cons ⟨_,rfl⟩ (.cons ⟨_,rfl⟩ (.cons ⟨_,rfl⟩ (.cons ⟨_,rfl⟩ (.cons ⟨_,rfl⟩ (.cons ⟨_,rfl⟩ (.nil)))))))))))⟩⟩,⟨_,_,W.mg_of X G ea_,fun H=>.inr ⟨_,_,_,eb_,rfl,rfl,by show(3:Nat)<=sizeLine;decide,.cons rfl (.cons ⟨_,rfl⟩ (.cons rfl .nil))⟩,fun H=>⟨[.ref _,.ref _,.ref _,.ref _],.inr ⟨_,_,_,ec_,rfl,rfl,by show(4:Nat)<=sizeLine;decide,.cons rfl (.cons rfl (.cons rfl (.cons rfl .nil)))⟩,.cons ⟨_,[],rfl,.inr ⟨_,_,_,ed0,rfl,rfl,by show(0:Nat)<=sizeLine;decide,.nil⟩,.nil⟩ (.cons ⟨_,[],rfl,.inr ⟨_,_,_,ed1,rfl,rfl,by show(0:Nat)<=sizeLine;decide,.nil⟩,.nil⟩ (.cons ⟨_,[],rfl,.inr ⟨_,_,_,ed2,rfl,rfl,by show(0:Nat)<=sizeLine;decide,.nil⟩,.nil⟩ (.cons ⟨_,[],rfl,.inr ⟨_,_,_,ed3,rfl,rfl,by show(0:Nat)<=sizeLine;decide,.nil⟩,.nil⟩ .nil)))⟩⟩,⟨pg_Shelf,hd_Shelf,po_Shelf,sa_Shelf⟩,na_Shelf_mixer,na_Shelf_rows,na_Shelf_held,⟨pg_Table,hd_Table,po_Table,sa_Table⟩,na_Table_mixer,na_Table_pace,na_Table_elder,na_Table_moved,na_Table_newer,na_Table_touches,⟨pg_Desk,hd_Desk,po_Desk,sa_Desk⟩,na_Desk_table,W.mg_none_of X G blt0,W.mg_none_of X G blt1,W.mg_none_of X G blt2,W.mg_none_of X G blt3,W.mg_none_of X G blt4,W.mg_none_of X G blt5,W.mg_none_of X G blt6,W.mg_none_of X G blt7,W.mg_none_of X G blt8,W.mg_none_of X G blt9,W.mg_none_of X G blt10,W.mg_none_of X G blt11,W.mg_none_of X G blt12,W.mg_none_of X G blt13,⟨_,W.mg_of X G cst2⟩,⟨_,W.mg_of X G cst3⟩,⟨_,W.mg_of X G cst4⟩,⟨_,W.mg_of X G cst5⟩,⟨_,W.mg_of X G cst6⟩,⟨_,W.mg_of X G cst7⟩,W.mg_none_of X G blt14,⟨W.mg_of X G q_NoRow,SW.wo_OwnX lp_ xo_NoRow⟩,W.mg_of X G q_SlowError,W.mg_of X G q_NoPlace,W.mg_of X G q_NoSize,W.mg_of X G q_NoState,SW.wo_ExcC lp_ ⟨⟨xa_NoRow,xb_NoRow,xc_NoRow,xd_NoRow,xe_NoRow,xf_NoRow,xg_NoRow⟩,xh_NoRow⟩,xs_NoRow,xv_NoRow,xn_NoRow,lamk⟩
 have FL:=u59;obtain⟨oc,od,kV,dc,pm,an,cd,ct,sl,rfl,_,_⟩:=id FL.ex;refine⟨lC,lP,W.fnOf "law" "law" (defArgs z41_) (defBody z41_) (defScope z41_) .none kV dc pm an cd ct,lp_,code_hd X lo_ le11 le18 le7 le9 le10 le0,fun s v=>.of_eq rfl,fun base _ _=>?_⟩;have T0:=q104_ (P:=l.prog) (w:=w) (base:=base) ⟨_,_,u0,⟨a0,i0,u0.kp⟩,SW.bd1 u0⟩ g;have T1:=q107_ (P:=l.prog) (w:=w) (base:=base) ⟨_,_,u1,⟨a1,i1,u1.kp⟩,SW.bd1 u1⟩ g T0;have T2:=q61_ (P:=l.prog) (w:=w) (base:=base) ⟨_,_,u2,W.mg_of X G a2,SW.bd1 u2⟩ g;have T3:=q94_ (P:=l.prog) (w:=w) (base:=base) ⟨_,_,u3,⟨a3,i3,u3.kp⟩,SW.bd2 u3⟩ g T2;have T4:=q102_ (P:=l.prog) (w:=w) (base:=base) ⟨_,_,u4,⟨a4,i4,u4.kp⟩,SW.bd2 u4⟩ g T3;have T5:=q96_ (P:=l.prog) (w:=w) (base:=base) ⟨_,_,u5,⟨a5,i5,u5.kp⟩,SW.bd2 u5⟩ g T4;have T6:=q24_ (P:=l.prog) (w:=w) (base:=base) ⟨_,_,u6,W.mg_of X G a6,SW.bd2 u6⟩ g;have T7:=q35_ (P:=l.prog) (w:=w) (base:=base) ⟨_,_,u7,W.mg_of X G a7,SW.bd2 u7⟩;have T8:=q100_ (P:=l.prog) (w:=w) (base:=base) ⟨_,_,u8,⟨a8,i8,u8.kp⟩,SW.bd2 u8⟩ g T6 T7;have T9:=q103_ (P:=l.prog) (w:=w) (base:=base) ⟨_,_,u9,⟨a9,i9,u9.kp⟩,SW.bd2 u9⟩ g T8;have T10:=q101_ (P:=l.prog) (w:=w) (base:=base) ⟨_,_,u10,⟨a10,i10,u10.kp⟩,SW.bd3 u10⟩ g T9;have T11:=q112_ (P:=l.prog) (w:=w) (base:=base) ⟨_,_,u11,⟨a11,i11,u11.kp⟩,SW.bd2 u11⟩ g T5 T10 T8;have T12:=q108_ (P:=l.prog) (w:=w) (base:=base) ⟨_,_,u12,⟨a12,i12,u12.kp⟩,SW.bd1 u12⟩ g T0;have T13:=q116_ (P:=l.prog) (w:=w) (base:=base) ⟨_,_,u13,⟨a13,i13,u13.kp⟩,SW.bd2 u13⟩ g T8;have T14:=T_go (P:=l.prog) (w:=w) (base:=base) ⟨_,_,u14,⟨a14,i14,u14.kp⟩,SW.bd2 u14⟩ g T1 T11 T12 T13 T8;have T15:=q98_ (P:=l.prog) (w:=w) (base:=base) ⟨_,_,u15,⟨a15,i15,u15.kp⟩,SW.bd2 u15⟩ T9 g;have T16:=q119_ (P:=l.prog) (w:=w) (base:=base) ⟨_,_,u16,⟨a16,i16,u16.kp⟩,SW.bd2 u16⟩ g T15;have T17:=q99_ (P:=l.prog) (w:=w) (base:=base) ⟨_,_,u17,⟨a17,i17,u17.kp⟩,SW.bd1 u17⟩ g;have T18:=q118_ (P:=l.prog) (w:=w) (base:=base) ⟨_,_,u18,⟨a18,i18,u18.kp⟩,SW.bd1 u18⟩ g T0 T17;have T19:=q48_ (P:=l.prog) (w:=w) (base:=base) ⟨_,_,u19,W.mg_of X G a19,SW.bd1 u19⟩ g T2;have T20:=q97_ (P:=l.prog) (w:=w) (base:=base) ⟨_,_,u20,⟨mk_Shelf,a20,i20,kc_Shelf⟩,W.mg_of X G q_Shelf,SW.bd3 u20⟩ g T19;have T21:=q105_ (P:=l.prog) (w:=w) (base:=base) ⟨_,_,u21,⟨a21,i21,u21.kp⟩,SW.bd1 u21⟩ g T18 T0 T20;have T22:=q113_ (P:=l.prog) (w:=w) (base:=base) ⟨_,_,u22,⟨a22,i22,u22.kp⟩,SW.bd3 u22⟩ g T14 T16 T21 T10;have T23:=q95_ (P:=l.prog) (w:=w) (base:=base) ⟨_,_,u23,⟨a23,i23,u23.kp⟩,SW.bd2 u23⟩ g T9;have T24:=q106_ (P:=l.prog) (w:=w) (base:=base) ⟨_,_,u24,⟨a24,i24,u24.kp⟩,SW.bd2 u24⟩ g T14 T16 T21 T23;have T25:=q110_ (P:=l.prog) (w:=w) (base:=base) ⟨_,_,u25,⟨a25,i25,u25.kp⟩,SW.bd2 u25⟩ g T14 T16 T21 T15;have T26:=q5_ (P:=l.prog) (w:=w) (base:=base) ⟨_,_,u26,W.mg_of X G a26,SW.bd2 u26⟩ g T22 T24 T25;have T27:=q16_ (P:=l.prog) (w:=w) (base:=base) ⟨_,_,u27,W.mg_of X G a27,SW.bd1 u27⟩ g T2;have T28:=q63_ (P:=l.prog) (w:=w) (base:=base) ⟨_,_,u28,W.mg_of X G a28,SW.bd1 u28⟩ g T2;have T29:=q26_ (P:=l.prog) (w:=w) (base:=base) ⟨_,_,u29,W.mg_of X G a29,SW.bd1 u29⟩ g T2;have T30:=q31_ (P:=l.prog) (w:=w) (base:=base) ⟨_,_,u30,W.mg_of X G a30,SW.bd1 u30⟩ g T2;have T31:=q39_ (P:=l.prog) (w:=w) (base:=base) ⟨_,_,u31,W.mg_of X G a31,SW.bd1 u31⟩ g T2;have T32:=q38_ (P:=l.prog) (w:=w) (base:=base) ⟨_,_,u32,W.mg_of X G a32,SW.bd1 u32⟩ g;have T33:=q50_ (P:=l.prog) (w:=w) (base:=base) ⟨_,_,u33,W.mg_of X G a33,SW.bd2 u33⟩ g T32;have T34:=q46_ (P:=l.prog) (w:=w) (base:=base) ⟨_,_,u34,W.mg_of X G a34,SW.bd2 u34⟩ g T20 T10;have T35:=q109_ (P:=l.prog) (w:=w) (base:=base) ⟨_,_,u35,⟨mk_Table,a35,i35,kc_Table⟩,W.mg_of X G q_Table,SW.bd4 u35⟩ g T34;have T36:=q114_ (P:=l.prog) (w:=w) (base:=base) ⟨_,_,u36,⟨a36,i36,u36.kp⟩,SW.bd1 u36⟩ g;have T37:=q111_ (P:=l.prog) (w:=w) (base:=base) ⟨_,_,u37,⟨a37,i37,u37.kp⟩,SW.bd1 u37⟩ g T36 T17;have T38:=q117_ (P:=l.prog) (w:=w) (base:=base) ⟨_,_,u38,⟨a38,i38,u38.kp⟩,SW.bd1 u38⟩ g;have T39:=q115_ (P:=l.prog) (w:=w) (base:=base) ⟨_,_,u39,⟨a39,i39,u39.kp⟩,SW.bd1 u39⟩ g T0;have T40:=q36_ (P:=l.prog) (w:=w) (base:=base) ⟨_,_,u40,W.mg_of X G a40,SW.bd2 u40⟩ g T32 T7;have T41:=q33_ (P:=l.prog) (w:=w) (base:=base) ⟨_,_,u41,W.mg_of X G a41,SW.bd3 u41⟩ g T33;have T42:=q3_ (P:=l.prog) (w:=w) (base:=base) ⟨_,_,u42,W.mg_of X G a42,SW.bd2 u42⟩ g T33;have T43:=q49_ (P:=l.prog) (w:=w) (base:=base) ⟨_,_,_,_,_,_,_,_,_,wo_lk lp_ ll_ (fun z=>by cases z),wo_codeIn lp_ lm_,wo_keepIn lp_ lk_,W.mg_of X G a43,Binds.all fun us hl=>len2 us hl (by intros;rfl)⟩ g T36 T0 T4 T40 T41 T42
 have T44:=D_init (P:=l.prog) (w:=w) (base:=base) ⟨_,_,u44,⟨mk_Desk,a44,i44,kc_Desk⟩,W.mg_of X G q_Desk,SW.bd1 u44⟩ g;have T45:=q6_ (P:=l.prog) (w:=w) (base:=base) ⟨_,_,u45,W.mg_of X G a45,SW.bd1 u45⟩ g;have T46:=q28_ (P:=l.prog) (w:=w) (base:=base) ⟨_,_,u46,W.mg_of X G a46,SW.bd1 u46⟩ g T45;have T47:=q52_ (P:=l.prog) (w:=w) (base:=base) ⟨_,_,u47,W.mg_of X G a47,SW.bd2 u47⟩ g T27 T28 T29 T30 T31;have T48:=q58_ (P:=l.prog) (w:=w) (base:=base) ⟨_,_,u48,W.mg_of X G a48,SW.bd1 u48⟩ g;have T49:=q59_ (P:=l.prog) (w:=w) (base:=base) ⟨_,_,u49,W.mg_of X G a49,SW.bd1 u49⟩ g;have T50:=q60_ (P:=l.prog) (w:=w) (base:=base) ⟨_,_,u50,W.mg_of X G a50,SW.bd1 u50⟩ g;have T51:=q0_ (P:=l.prog) (w:=w) (base:=base) ⟨_,_,u51,W.mg_of X G a51,SW.bd3 u51⟩ g T37 T39 T38 T48 T43 T49 T26 T50;have T52:=D_say (P:=l.prog) (w:=w) (base:=base) ⟨_,_,u52,⟨a52,i52,u52.kp⟩,SW.bd2 u52⟩ g T46 T47 T35 T51;have T53:=q62_ (P:=l.prog) (w:=w) (base:=base) ⟨_,_,u2,W.mg_of X G a2,SW.bd1 u2⟩ g;have T54:=q17_ (P:=l.prog) (w:=w) (base:=base) ⟨_,_,u27,W.mg_of X G a27,SW.bd1 u27⟩ g T53;have T55:=q64_ (P:=l.prog) (w:=w) (base:=base) ⟨_,_,u28,W.mg_of X G a28,SW.bd1 u28⟩ g T53;have T56:=q27_ (P:=l.prog) (w:=w) (base:=base) ⟨_,_,u29,W.mg_of X G a29,SW.bd1 u29⟩ g T53;have T57:=q32_ (P:=l.prog) (w:=w) (base:=base) ⟨_,_,u30,W.mg_of X G a30,SW.bd1 u30⟩ g T53;have T58:=q40_ (P:=l.prog) (w:=w) (base:=base) ⟨_,_,u31,W.mg_of X G a31,SW.bd1 u31⟩ g T53;have T59:=q7_ (P:=l.prog) (w:=w) (base:=base) ⟨_,_,u45,W.mg_of X G a45,SW.bd1 u45⟩ g;have T60:=q29_ (P:=l.prog) (w:=w) (base:=base) ⟨_,_,u46,W.mg_of X G a46,SW.bd1 u46⟩ g T59;have T61:=q53_ (P:=l.prog) (w:=w) (base:=base) ⟨_,_,u47,W.mg_of X G a47,SW.bd2 u47⟩ g T54 T55 T56 T57 T58;have T62:=D_sayNo (P:=l.prog) (w:=w) (base:=base) ⟨_,_,u52,⟨a52,i52,u52.kp⟩,SW.bd2 u52⟩ g T60 T61 T35 T51;have T63:=q4_ (P:=l.prog) (w:=w) (base:=base) ⟨_,_,u53,W.mg_of X G a53,SW.bd2 u53⟩ g;have T64:=q44_ (P:=l.prog) (w:=w) (base:=base) ⟨_,_,u54,W.mg_of X G a54,SW.bd1 u54⟩;have T65:=q54_ (P:=l.prog) (w:=w) (base:=base) ⟨_,_,u55,W.mg_of X G a55,SW.bd2 u55⟩;have T66:=q45_ (P:=l.prog) (w:=w) (base:=base) ⟨_,_,u56,W.mg_of X G a56,SW.bd0 u56⟩ g;have T67:=q43_ (P:=l.prog) (w:=w) (base:=base) ⟨_,_,u57,W.mg_of X G a57,SW.bd2 u57⟩ g T62;have T68:=q47_ (P:=l.prog) (w:=w) (base:=base) ⟨_,_,u58,W.mg_of X G a58,SW.bd1 u58⟩ g T52;exact ok_law FL g T44 T52 T63 T64 T65 T66 T67 T68
theorem walk{l:W.OpenLaw}{q:Program}{loose:List Str}{XP:(Str->Option Value)->Heap->Prop}{YP:World->Heap->Prop}{d:DefRec}{K:Params->W.Frag}(hn:l.most=some 63)(hdf:d.params.defaults=[])
 (hY:∀(w:World) (h:Heap),YP w h->(K w.params).In h)
 (F:∀(w:World) (mg:Str->Option Value) (fa:Addr) (h:Heap),(K w.params).In h->h.Ns mainGlobals mg->mg d.name=some (.ref fa) ->
  ∃(c P:Addr) (fd:FuncData),(K w.params).lookup P=some (W.tabObj #[])/\W.CodeHd h c P/\(∀(s:Shared) (u:Value),BindsTo s fd ⟨[u],[]⟩ [("script",u)]) /\ ∀ base:Heap,(wo (K w.params) P).In base->base.Ns mainGlobals mg->FnOk l.prog w (wo (K w.params) P) mg base CX0 12 fa fd ["script"] (spLawT (wo (K w.params) P) P)) :
 W.WalkO q loose XP YP l.row.toRowW d [] (fun f vs=>PySem.call f vs):=
 SW.walk_ofE (n:=63) (k:=12) (x:="script") (sp:=spLawT) hn (by decide) hdf ⟨rfl,by decide,by decide⟩ hY F (fun _ _ _ a ns hl hP hS=>⟨a,ns,rfl,hS,hl,hP,fun _=>rfl⟩)
end
end
end K
noncomputable def PySem.W.Fast.tw2279488465347670516:Nat:=0
noncomputable def PySem.W.Fast.tw13829597170766243328:Nat:=0
noncomputable def PySem.W.Fast.tw13165852881953630217:Nat:=0
noncomputable def PySem.W.Fast.tw16814830592986463972:Nat:=0
noncomputable def PySem.W.Fast.tw2208777214761165986:Nat:=0
noncomputable def PySem.W.Fast.tw9377832531646130659:Nat:=0
noncomputable def PySem.W.Fast.tw15177931616686079123:Nat:=0
noncomputable def PySem.W.Fast.tw9346279774293115247:Nat:=0
noncomputable def PySem.W.Fast.tw10741006902488158544:Nat:=0
noncomputable def PySem.W.Fast.tw16614495920851643104:Nat:=0
noncomputable def PySem.W.Fast.tw11836960208843661167:Nat:=0
noncomputable def PySem.W.Fast.tw9516255036873544134:Nat:=0
noncomputable def PySem.W.Fast.tw7674027053872487004:Nat:=0
noncomputable def PySem.W.Fast.tw7997458790891144306:Nat:=0
noncomputable def PySem.W.Fast.tw3184958094750881533:Nat:=0
noncomputable def PySem.W.Fast.tw1875848295024203309:Nat:=0
noncomputable def PySem.W.Fast.tw12253207386892112861:Nat:=0
noncomputable def PySem.W.Fast.tw13884345668621562689:Nat:=0
noncomputable def PySem.W.Fast.tw9660921792487310751:Nat:=0
noncomputable def PySem.W.Fast.tw9630697184922095345:Nat:=0
noncomputable def PySem.W.Fast.tw6857894653264677524:Nat:=0
noncomputable def PySem.W.Fast.tw7587200494977990615:Nat:=0
noncomputable def PySem.W.Fast.tw3873630332766203043:Nat:=0
noncomputable def PySem.W.Fast.tw12631483085535918867:Nat:=0
noncomputable def PySem.W.Fast.tw1784560322237186651:Nat:=0
noncomputable def PySem.W.Fast.tw13897204717767940766:Nat:=0
noncomputable def PySem.W.Fast.tw11932882844572979293:Nat:=0
noncomputable def PySem.W.Fast.tw11592184915409551914:Nat:=0
noncomputable def PySem.W.Fast.tw17021186748836333672:Nat:=0
noncomputable def PySem.W.Fast.tw18388923791014380765:Nat:=0
open PySem PySem.W PyProof.Rows L2
local macro_rules | `(tactic| walk_at "F")=>`(tactic| (refine' L2.fun_mk ?l ?c ?k;(case l=>k_is);(case c=>k_is);(case k=>k_is)))
set_option maxRecDepth 100000 in
set_option maxHeartbeats 0 in
theorem PySem.Challenge.cw_slowshift_k45_rows_refused_holds : PySem.Challenge.rw_slowshift_k45_rows_refused.Holds := by
 w_on;o_law;z_head;(case hw=>w_witness2)
 k_fill
 refine SW.walkX (fun _=>by kernel_rfl) (K.walk (l:=PySem.Challenge.rw_slowshift_k45_rows_refused) rfl rfl (fun w h Y=>Y) ?F)
 case F=>
  intro w mg fa h KX G hmg
  refine' K.all_mk KX G hmg ?q_Shelf ?pg_Shelf ?hd_Shelf ?po_Shelf ?sa_Shelf ?mk_Shelf ?kc_Shelf ?na_Shelf_mixer ?na_Shelf_rows ?na_Shelf_held ?q_Table ?pg_Table ?hd_Table ?po_Table ?sa_Table ?mk_Table ?kc_Table ?na_Table_mixer ?na_Table_pace ?na_Table_elder ?na_Table_moved ?na_Table_newer ?na_Table_touches ?q_Desk ?pg_Desk ?hd_Desk ?po_Desk ?sa_Desk ?mk_Desk ?kc_Desk ?na_Desk_table ?q_SlowError ?q_NoPlace ?q_NoSize ?q_NoState ?q_NoRow ?xo_NoRow ?xa_NoRow ?xb_NoRow ?xc_NoRow ?xd_NoRow ?xe_NoRow ?xf_NoRow ?xg_NoRow ?xh_NoRow ?xs_NoRow ?xv_NoRow ?xn_NoRow ?a0 ?i0 ?u0 ?a1 ?i1 ?u1 ?a2 ?u2 ?a3 ?i3 ?u3 ?a4 ?i4 ?u4 ?a5 ?i5 ?u5 ?a6 ?u6 ?a7 ?u7 ?a8 ?i8 ?u8 ?a9 ?i9 ?u9 ?a10 ?i10 ?u10 ?a11 ?i11 ?u11 ?a12 ?i12 ?u12 ?a13 ?i13 ?u13 ?a14 ?i14 ?u14 ?a15 ?i15 ?u15 ?a16 ?i16 ?u16 ?a17 ?i17 ?u17 ?a18 ?i18 ?u18 ?a19 ?u19 ?a20 ?i20 ?u20 ?a21 ?i21 ?u21 ?a22 ?i22 ?u22 ?a23 ?i23 ?u23 ?a24 ?i24 ?u24 ?a25 ?i25 ?u25 ?a26 ?u26 ?a27 ?u27 ?a28 ?u28 ?a29 ?u29 ?a30 ?u30 ?a31 ?u31 ?a32 ?u32 ?a33 ?u33 ?a34 ?u34 ?a35 ?i35 ?u35 ?a36 ?i36 ?u36 ?a37 ?i37 ?u37 ?a38 ?i38 ?u38 ?a39 ?i39 ?u39 ?a40 ?u40 ?a41 ?u41 ?a42 ?u42 ?a43 ?ll_ ?lm_ ?lk_ ?lo_ ?le11 ?le18 ?le7 ?le9 ?le10 ?lp_ ?le0 ?lb_ ?lc_ ?le1 ?le2 ?a44 ?i44 ?u44 ?a45 ?u45 ?a46 ?u46 ?a47 ?u47 ?a48 ?u48 ?a49 ?u49 ?a50 ?u50 ?a51 ?u51 ?a52 ?i52 ?u52 ?a53 ?u53 ?a54 ?u54 ?a55 ?u55 ?a56 ?u56 ?a57 ?u57 ?a58 ?u58 ?a59 ?u59 ?cst0 ?cst1 ?cst2 ?cst3 ?cst4 ?cst5 ?cst6 ?cst7 ?ta_SIZES ?tl_SIZES ?ea_ ?eb_ ?ec_ ?ed0 ?ed1 ?ed2 ?ed3 ?blt0 ?blt1 ?blt2 ?blt3 ?blt4 ?blt5 ?blt6 ?blt7 ?blt8 ?blt9 ?blt10 ?blt11 ?blt12 ?blt13 ?blt14
  (case q_Shelf=>k_is)
  (case pg_Shelf=>k_is)
  (case hd_Shelf=>k_is)
  (case po_Shelf=>k_is)
  (case sa_Shelf=>k_is)
  (case mk_Shelf=>k_is)
  (case kc_Shelf=>k_is)
  (case na_Shelf_mixer=>k_is)
  (case na_Shelf_rows=>k_is)
  (case na_Shelf_held=>k_is)
  (case q_Table=>k_is)
  (case pg_Table=>k_is)
  (case hd_Table=>k_is)
  (case po_Table=>k_is)
  (case sa_Table=>k_is)
  (case mk_Table=>k_is)
  (case kc_Table=>k_is)
  (case na_Table_mixer=>k_is)
  (case na_Table_pace=>k_is)
  (case na_Table_elder=>k_is)
  (case na_Table_moved=>k_is)
  (case na_Table_newer=>k_is)
  (case na_Table_touches=>k_is)
  (case q_Desk=>k_is)
  (case pg_Desk=>k_is)
  (case hd_Desk=>k_is)
  (case po_Desk=>k_is)
  (case sa_Desk=>k_is)
  (case mk_Desk=>k_is)
  (case kc_Desk=>k_is)
  (case na_Desk_table=>k_is)
  (case q_SlowError=>k_is)
  (case q_NoPlace=>k_is)
  (case q_NoSize=>k_is)
  (case q_NoState=>k_is)
  (case q_NoRow=>k_is)
  (case xo_NoRow=>kernel_rfl)
  (case xa_NoRow=>k_is)
  (case xb_NoRow=>k_is)
  (case xc_NoRow=>k_is)
  (case xd_NoRow=>k_is)
  (case xe_NoRow=>k_is)
  (case xf_NoRow=>k_is)
  (case xg_NoRow=>k_is)
  (case xh_NoRow=>kernel_rfl)
  (case xs_NoRow=>kernel_rfl)
  (case xv_NoRow=>kernel_rfl)
  (case xn_NoRow=>kernel_rfl)
  (case a0=>k_is)
  (case i0=>k_is)
  (case u0=>walk_at "F")
  (case a1=>k_is)
  (case i1=>k_is)
  (case u1=>walk_at "F")
  (case a2=>k_is)
  (case u2=>walk_at "F")
  (case a3=>k_is)
  (case i3=>k_is)
  (case u3=>walk_at "F")
  (case a4=>k_is)
  (case i4=>k_is)
  (case u4=>walk_at "F")
  (case a5=>k_is)
  (case i5=>k_is)
  (case u5=>walk_at "F")
  (case a6=>k_is)
  (case u6=>walk_at "F")
  (case a7=>k_is)
  (case u7=>walk_at "F")
  (case a8=>k_is)
  (case i8=>k_is)
  (case u8=>walk_at "F")
  (case a9=>k_is)
  (case i9=>k_is)
  (case u9=>walk_at "F")
  (case a10=>k_is)
  (case i10=>k_is)
  (case u10=>walk_at "F")
  (case a11=>k_is)
  (case i11=>k_is)
  (case u11=>walk_at "F")
  (case a12=>k_is)
  (case i12=>k_is)
  (case u12=>walk_at "F")
  (case a13=>k_is)
  (case i13=>k_is)
  (case u13=>walk_at "F")
  (case a14=>k_is)
  (case i14=>k_is)
  (case u14=>walk_at "F")
  (case a15=>k_is)
  (case i15=>k_is)
  (case u15=>walk_at "F")
  (case a16=>k_is)
  (case i16=>k_is)
  (case u16=>walk_at "F")
  (case a17=>k_is)
  (case i17=>k_is)
  (case u17=>walk_at "F")
  (case a18=>k_is)
  (case i18=>k_is)
  (case u18=>walk_at "F")
  (case a19=>k_is)
  (case u19=>walk_at "F")
  (case a20=>k_is)
  (case i20=>k_is)
  (case u20=>walk_at "F")
  (case a21=>k_is)
  (case i21=>k_is)
  (case u21=>walk_at "F")
  (case a22=>k_is)
  (case i22=>k_is)
  (case u22=>walk_at "F")
  (case a23=>k_is)
  (case i23=>k_is)
  (case u23=>walk_at "F")
  (case a24=>k_is)
  (case i24=>k_is)
  (case u24=>walk_at "F")
  (case a25=>k_is)
  (case i25=>k_is)
  (case u25=>walk_at "F")
  (case a26=>k_is)
  (case u26=>walk_at "F")
  (case a27=>k_is)
  (case u27=>walk_at "F")
  (case a28=>k_is)
  (case u28=>walk_at "F")
  (case a29=>k_is)
  (case u29=>walk_at "F")
  (case a30=>k_is)
  (case u30=>walk_at "F")
  (case a31=>k_is)
  (case u31=>walk_at "F")
  (case a32=>k_is)
  (case u32=>walk_at "F")
  (case a33=>k_is)
  (case u33=>walk_at "F")
  (case a34=>k_is)
  (case u34=>walk_at "F")
  (case a35=>k_is)
  (case i35=>k_is)
  (case u35=>walk_at "F")
  (case a36=>k_is)
  (case i36=>k_is)
  (case u36=>walk_at "F")
  (case a37=>k_is)
  (case i37=>k_is)
  (case u37=>walk_at "F")
  (case a38=>k_is)
  (case i38=>k_is)
  (case u38=>walk_at "F")
  (case a39=>k_is)
  (case i39=>k_is)
  (case u39=>walk_at "F")
  (case a40=>k_is)
  (case u40=>walk_at "F")
  (case a41=>k_is)
  (case u41=>walk_at "F")
  (case a42=>k_is)
  (case u42=>walk_at "F")
  (case a43=>k_is)
  (case ll_=>k_is)
  (case lm_=>k_is)
  (case lk_=>k_is)
  (case lo_=>k_is)
  (case le11=>exact rfl)
  (case le18=>exact rfl)
  (case le7=>exact rfl)
  (case le9=>exact rfl)
  (case le10=>exact rfl)
  (case lp_=>k_is)
  (case le0=>kernel_rfl)
  (case lb_=>k_is)
  (case lc_=>k_is)
  (case le1=>kernel_rfl)
  (case le2=>kernel_rfl)
  (case a44=>k_is)
  (case i44=>k_is)
  (case u44=>walk_at "F")
  (case a45=>k_is)
  (case u45=>walk_at "F")
  (case a46=>k_is)
  (case u46=>walk_at "F")
  (case a47=>k_is)
  (case u47=>walk_at "F")
  (case a48=>k_is)
  (case u48=>walk_at "F")
  (case a49=>k_is)
  (case u49=>walk_at "F")
  (case a50=>k_is)
  (case u50=>walk_at "F")
  (case a51=>k_is)
  (case u51=>walk_at "F")
  (case a52=>k_is)
  (case i52=>k_is)
  (case u52=>walk_at "F")
  (case a53=>k_is)
  (case u53=>walk_at "F")
  (case a54=>k_is)
  (case u54=>walk_at "F")
  (case a55=>k_is)
  (case u55=>walk_at "F")
  (case a56=>k_is)
  (case u56=>walk_at "F")
  (case a57=>k_is)
  (case u57=>walk_at "F")
  (case a58=>k_is)
  (case u58=>walk_at "F")
  (case a59=>k_is)
  (case u59=>walk_at "F")
  (case cst0=>k_is)
  (case cst1=>k_is)
  (case cst2=>k_is)
  (case cst3=>k_is)
  (case cst4=>k_is)
  (case cst5=>k_is)
  (case cst6=>k_is)
  (case cst7=>k_is)
  (case ta_SIZES=>k_is)
  (case tl_SIZES=>k_is)
  (case ea_=>k_is)
  (case eb_=>k_is)
  (case ec_=>k_is)
  (case ed0=>k_is)
  (case ed1=>k_is)
  (case ed2=>k_is)
  (case ed3=>k_is)
  (case blt0=>k_is)
  (case blt1=>k_is)
  (case blt2=>k_is)
  (case blt3=>k_is)
  (case blt4=>k_is)
  (case blt5=>k_is)
  (case blt6=>k_is)
  (case blt7=>k_is)
  (case blt8=>k_is)
  (case blt9=>k_is)
  (case blt10=>k_is)
  (case blt11=>k_is)
  (case blt12=>k_is)
  (case blt13=>k_is)
  (case blt14=>k_is)

