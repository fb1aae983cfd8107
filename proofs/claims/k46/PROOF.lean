import PyProof.Rows.All
import Wide.All
import OpenK.AllK
import Wide.FinOn
import Lean
import PyProof.EqAt
import PyProof.EqKinds
import PyProof.TupleCall
import KE.KIntText
import PyProof.StrCalls2
import PyProof.StrLawsTight
import PyProof.StrLawsChain
import PyProof.Rows.Range3
import PySem.Challenge.RW_slowshift_k46_whole_by_the_desk
set_option Elab.async false
set_option linter.all false
set_option maxRecDepth 100000
set_option genSizeOf false
set_option genSizeOfSpec false
set_option genInjectivity false
set_option maxHeartbeats 4000000
noncomputable section
namespace L2
open PySem PySem.Spec PyProof.Rows
abbrev Key:=Sum Int Str
def gI:Key->Value->Bool
 | .inl k,v=>Value.isInt k v
 | .inr x,v=>Value.isStrOf x v
def Cy(w:World):Key->Int
 | .inl k=>hashInt k
 | .inr x=>hashStr w x
theorem bi:∀{k:Key}{v:Value},gI k v=true->(∃ i t,k=Sum.inl i/\v=Value.int i t)∨(∃ x t,k=Sum.inr x/\v=Value.str x t)
 | .inl i,v,h=>by
   obtain⟨t,e⟩:=Value.isInt_shape (k:=i) (v:=v) h;exact .inl ⟨i,t,rfl,e⟩
 | .inr x,v,h=>by
   obtain⟨t,e⟩:=Value.isStrOf_shape (x:=x) (v:=v) h;exact .inr ⟨x,t,rfl,e⟩
theorem qH(i:Int)(t:Tok):gI (.inl i) (.int i t)=true:=by simp[gI,Value.isInt]
theorem rh(x:Str)(t:Tok):gI (.inr x) (.str x t)=true:=by simp[gI,Value.isStrOf]
theorem yh(a b:Int):decide ((Sum.inl a:Key)=Sum.inl b)=(a == b):=by
 by_cases e:a=b
 . subst e;simp
 have h:¬ (Sum.inl a:Key)=Sum.inl b:=fun q=>e (Sum.inl.inj q);rw[decide_eq_false h];exact(beq_eq_false_iff_ne.mpr e).symm
theorem yl(a b:Str):decide ((Sum.inr a:Key)=Sum.inr b)=decide (a=b):=by
 by_cases e:a=b
 . subst e;simp
 have h:¬ (Sum.inr a:Key)=Sum.inr b:=fun q=>e (Sum.inr.inj q);rw[decide_eq_false h,decide_eq_false e]
theorem zP(a:Int)(b:Str):decide ((Sum.inl a:Key)=Sum.inr b)=false:=decide_eq_false (fun q=>nomatch q)
theorem yU(a:Str)(b:Int):decide ((Sum.inr a:Key)=Sum.inl b)=false:=decide_eq_false (fun q=>nomatch q)
def ba(prog:Program)(w:World):PySem.KeyKind prog w Key where
 is:=gI
 hash:=Cy w
 inj:=fun v a b ha hb=>by
  rcases bi ha with ⟨i,t,rfl,rfl⟩ | ⟨x,t,rfl,rfl⟩
  . rcases bi hb with ⟨j,u,rfl,e⟩ | ⟨y,u,rfl,e⟩
    . injection e with e1 _;rw[e1]
    exact nomatch e
  rcases bi hb with ⟨j,u,rfl,e⟩ | ⟨y,u,rfl,e⟩
  . exact nomatch e
  injection e with e1 _;rw[e1]
 byValue:=fun k v h=>by
  rcases bi h with ⟨i,t,rfl,rfl⟩ | ⟨x,t,rfl,rfl⟩ <;> rfl
 pyHash:=fun hv h=>by
  rcases bi hv with ⟨i,t,rfl,rfl⟩ | ⟨x,t,rfl,rfl⟩
  . exact wpAny_pyHash_int h
  exact wpAny_pyHash_str h
 eqBool:=fun hu hv h=>by
  rcases bi hu with ⟨i,t,rfl,rfl⟩ | ⟨x,t,rfl,rfl⟩
  . rcases bi hv with ⟨j,u,rfl,rfl⟩ | ⟨y,u,rfl,rfl⟩
    . rw[yh]at h;exact wpAny_eqBool_int h
    rw[zP]at h;exact SeqAt.EqAt.int_str i t y u _ _ _ _ h
  rcases bi hv with ⟨j,u,rfl,rfl⟩ | ⟨y,u,rfl,rfl⟩
  . rw[yU]at h;exact SeqAt.EqAt.str_int x t j u _ _ _ _ h
  rw[yl]at h;exact wpAny_eqBool_str h
 «strs»:=fun k x t v h=>by
  rcases bi h with ⟨i,u,rfl,e⟩ | ⟨y,u,rfl,e⟩
  . exact nomatch e
  injection e with e1 _;subst e1;cases v <;> rfl
theorem nZ(prog:Program)(w:World)(i:Int)(t:Tok):(ba prog w).is (.inl i) (.int i t)=true:=qH i t
theorem mS(prog:Program)(w:World)(x:Str)(t:Tok):(ba prog w).is (.inr x) (.str x t)=true:=rh x t
end L2
namespace L2
open PySem PySem.Spec PyProof.Rows
set_option genInjectivity true in
inductive V where
 | non | bl (b:Bool) | int (i:Int) | str (x:Str) | byt (b:Array UInt8) | flt (b:UInt64) | ref (a:Addr) | ty (n:String)
 deriving DecidableEq
def aJ:V->Value->Prop
 | .non,u=>u=Value.none
 | .bl b,u=>u=Value.bool b
 | .int i,u=>∃ t,u=Value.int i t
 | .str x,u=>∃ t,u=Value.str x t
 | .byt b,u=>∃ t,u=Value.bytes b t
 | .flt b,u=>∃ t,u=Value.float b t
 | .ref a,u=>u=Value.ref a
 | .ty n,u=>u=Value.type n
abbrev aH:List V->List Value->Prop:=Paired aJ
theorem aH.length{xs:List V}{us:List Value}(r:aH xs us):xs.length=us.length:=Paired.length r
theorem aH.get:∀{xs:List V}{us:List Value}{i:Nat}{x:V},aH xs us->xs[i]?=some x -> ∃ u,us[i]?=some u/\aJ x u
 | _,_,_,_,.nil,e=>by simp at e
 | _,_,0,_,.cons r _,e=>by simp at e;subst e;exact⟨_,rfl,r⟩
 | _,_,i+1,x,.cons _ t,e=>by
   obtain⟨u,h1,h2⟩:=aH.get (i:=i) (x:=x) t (by simpa using e)
   exact⟨u,by simpa using h1,h2⟩
theorem aH.set{x:V}{u:Value}(r:aJ x u):∀{xs:List V}{us:List Value} (i:Nat),aH xs us->aH (xs.set i x) (us.set i u)
 | _,_,_,.nil=>.nil
 | _,_,0,.cons _ t=>.cons r t
 | _,_,i+1,.cons q t=>.cons q (aH.set r i t)
theorem aH.append:∀{xs ys:List V}{us ws:List Value},aH xs us->aH ys ws->aH (xs++ys) (us++ws)
 | _,_,_,_,.nil,s=>s
 | _,_,_,_,.cons r t,s=>.cons r (aH.append t s)
theorem aH.take:∀{xs:List V}{us:List Value} (n:Nat),aH xs us->aH (xs.take n) (us.take n)
 | _,_,0,_=>.nil
 | _,_,_+1,.nil=>.nil
 | _,_,n+1,.cons r t=>.cons r (aH.take n t)
theorem aH.drop:∀{xs:List V}{us:List Value} (n:Nat),aH xs us->aH (xs.drop n) (us.drop n)
 | _,_,0,r=>r
 | _,_,_+1,.nil=>.nil
 | _,_,n+1,.cons _ t=>aH.drop n t
def dU:Option V->Option Value->Prop
 | some v,some u=>aJ v u
 | none,none=>True
 | _,_=>False
def KV{κ:Type}:List (κ × V)->List (κ × Value)->Prop:=Paired fun(p:κ × V) (q:κ × Value)=>p.1=q.1/\aJ p.2 q.2
def kV:Key->V
 | .inl i=>.int i
 | .inr x=>.str x
inductive HO where
 | lst (xs:List V)
 | tup (xs:List V)
 | dK (kvs:List (Key×V)) | dT (kvs:List (List Key×V))
 | set (S:Int->Bool) (n:Nat)
 | ins (C dx:Addr) (fs:List (Str×V))
 | own (x:Addr)
 | xd (fs:List (Str×V))
 | met (f x:Addr)
 | rng (lo hi:Int)
 | frz (o:Obj) (u:HO)
 | tbl (ps:Array Value)
 | ext (φ:Heap->Prop)
abbrev Hp:=Addr->Option HO
def upd(H:Hp)(a:Addr)(o:HO):Hp:=fun b=>if b=a then some o else H b
theorem aa{H:Hp}{a:Addr}{o:HO}:upd H a o a=some o:=by unfold upd;rw[if_pos rfl]
theorem af{H:Hp}{a b:Addr}{o:HO}(h:b≠a):upd H a o b=H b:=by unfold upd;rw[if_neg h]
theorem iW{H:Hp}{a:Addr}{o u:HO}:upd (upd H a o) a u=upd H a u:=by
 funext b;unfold upd;split <;> rfl
theorem aR{H:Hp}{a b:Addr}{o u:HO}(h:H a=some o)(h':H b=some u)(d:o≠u):a≠b:=by
 intro e;subst e;rw[h]at h';exact d (Option.some.inj h')
theorem ah{H:Hp}{a b:Addr}{o:HO}(h:H a=some o)(h':H b=none):a≠b:=by
 intro e;subst e;rw[h]at h';cases h'
section
variable(P:Program)(w:World)
def bq(H:Hp)(h:Heap)(a:Addr):HO->Prop
 | .lst xs=>xs.length<=sizeLine /\ ∃(its:List Value) (n:Nat),aH xs its/\h.get? a=some { cls:=.type "list",data:=.seq its.toArray n }
 | .tup xs=>xs.length<=sizeLine /\ ∃ its:List Value,aH xs its/\IsTup h a its.toArray
 | .dK kvs=>kvs.length<=sizeLine/\(a == sysModules)=false /\ ∃ vs,KV kvs vs/\h.DictOf (ba P w) a vs
 | .dT kvs=>kvs.length<=sizeLine/\(a == sysModules)=false /\ ∃ xs:List (List Key×Addr×Value),
  Paired (fun(p:List Key×V) (q:List Key×Addr×Value)=>p.1=q.1/\H q.2.1=some (.tup (p.1.map kV))/\aJ p.2 q.2.2) kvs xs /\
  ∃ o es ep,h.get? a=some o/\o.ExactDict/\o.data=.dict es ep/\es.toList=xs.map (entryOfKey (tupleKind (ba P w)))/\(xs.map (·.1)).Nodup
 | .set S n=>h.SetOf (intKind P w) a S n
 | .ins C dx fs=>H dx=some (.own a)/\fs.length<=1000/\dx≠a/\h.get? a=some (W.instObj C dx) /\
  ∃ mA,h.Ns1 dx mA/\(∀ f,dU (fs.lookup f) (mA f))/\PySem.Within mA (fs.map (·.1))
 | .own _=>∃ o,h.get? a=some o
 | .xd fs=>∃ mA,h.Ns1 a mA /\ ∀ f,dU (fs.lookup f) (mA f)
 | .rng lo hi=>∃ t u v,h.get? a=some { cls:=.type "range",data:=.fields #[.int lo t,.int hi u,.int 1 v] }
 | .frz o u=>h.get? a=some o/\bq H h a u
 | .tbl ps=>h.get? a=some { cls:=.none,data:=.fields ps }
 | .met f x=>h.get? a=some (W.methodObj (.ref f) (.ref x))
 | .ext φ=>φ h/\(∃ o,h.get? a=some o) /\ ∀ h1 h2:Heap,φ h1->(∀ o,h1.get? a=some o->h2.get? a=some o) -> φ h2
def HOk(H:Hp)(h:Heap):Prop:=∀ a o,H a=some o->bq P w H h a o
end
section
variable{P:Program}{w:World}{H H':Hp}{h h':Heap}{a:Addr}{o:HO}
theorem bq.lt(x:bq P w H h a o):a < h.objs.size:=by
 cases o with
 | lst xs=>obtain⟨_,_,_,_,e⟩:=x;exact Heap.lt_size e
 | tup xs=>obtain⟨_,_,_,p⟩:=x;exact p.lt
 | dK kvs=>obtain⟨_,_,_,_,o,_,_,e,_⟩:=x;exact Heap.lt_size e
 | dT kvs=>obtain⟨_,_,_,_,o,_,_,e,_⟩:=x;exact Heap.lt_size e
 | set S n=>obtain⟨o,_,_,_,e,_⟩:=x;exact Heap.lt_size e
 | ins C dx fs=>obtain⟨_,_,_,e,_⟩:=x;exact Heap.lt_size e
 | own y=>obtain⟨_,e⟩:=x;exact Heap.lt_size e
 | xd fs=>obtain⟨_,⟨_,_,_,e,_⟩,_⟩:=x;exact Heap.lt_size e
 | rng lo hi=>obtain⟨_,_,_,e⟩:=x;exact Heap.lt_size e
 | frz ob u=>obtain⟨e,_⟩:=x;exact Heap.lt_size e
 | tbl ps=>exact Heap.lt_size (show h.get? a=some _ from x)
 | met f y=>exact Heap.lt_size (show h.get? a=some _ from x)
 | ext φ=>obtain⟨_,⟨_,e⟩,_⟩:=x;exact Heap.lt_size e
theorem Paired.mapP{α β:Type}{F G:α -> β -> Prop}:∀{l₁:List α}{l₂:List β},Paired F l₁ l₂ -> (∀ a b,F a b->G a b)->Paired G l₁ l₂
 | _,_,.nil,_=>.nil
 | _,_,.cons r t,f=>.cons (f _ _ r) (Paired.mapP t f)
theorem bq.stay(x:bq P w H h a o)(k:∀ b u,(b=a∨H b=some (.own a))->h.get? b=some u->h'.get? b=some u)
 (ho:∀ b,H b=some (.own a)->H' b=some (.own a)) (ht:∀ b xs,H b=some (.tup xs)->H' b=some (.tup xs)):bq P w H' h' a o:=by
 induction o with
 | lst xs=>obtain⟨z,its,n,r,e⟩:=x;exact⟨z,its,n,r,k _ _ (.inl rfl) e⟩
 | tup xs=>obtain⟨z,its,r,ob,e,c⟩:=x;exact⟨z,its,r,ob,k _ _ (.inl rfl) e,c⟩
 | dK kvs=>obtain⟨z,y,vs,r,ob,es,ep,e,c⟩:=x;exact⟨z,y,vs,r,ob,es,ep,k _ _ (.inl rfl) e,c⟩
 | dT kvs=>
   obtain⟨z,y,xs,r,ob,es,ep,e,c⟩:=x;exact⟨z,y,xs,Paired.mapP r fun p q z=>⟨z.1,ht _ _ z.2.1,z.2.2⟩,ob,es,ep,k _ _ (.inl rfl) e,c⟩
 | set S n=>obtain⟨ob,es,ep,t,e,c⟩:=x;exact⟨ob,es,ep,t,k _ _ (.inl rfl) e,c⟩
 | ins C dx fs=>
   obtain⟨d,z,ne,e,mA,⟨od,es,ep,e2,c⟩,r⟩:=x;exact⟨ho _ d,z,ne,k _ _ (.inl rfl) e,mA,⟨od,es,ep,k _ _ (.inr d) e2,c⟩,r⟩
 | own y=>obtain⟨ob,e⟩:=x;exact⟨ob,k _ _ (.inl rfl) e⟩
 | xd fs=>obtain⟨mA,⟨od,es,ep,e,c⟩,r⟩:=x;exact⟨mA,⟨od,es,ep,k _ _ (.inl rfl) e,c⟩,r⟩
 | rng lo hi=>obtain⟨t,u,v,e⟩:=x;exact⟨t,u,v,k _ _ (.inl rfl) e⟩
 | frz ob u ih=>obtain⟨e,q⟩:=x;exact⟨k _ _ (.inl rfl) e,ih q⟩
 | tbl ps=>
   have e:h.get? a=some { cls:=.none,data:=.fields ps }:=x;show h'.get? a=some { cls:=.none,data:=.fields ps };exact k a _ (.inl rfl) e
 | met f y=>
   have e:h.get? a=some (W.methodObj (.ref f) (.ref y)):=x;show h'.get? a=some (W.methodObj (.ref f) (.ref y));exact k a _ (.inl rfl) e
 | ext φ=>obtain⟨p,⟨o,e⟩,st⟩:=x;exact⟨st _ _ p fun o q=>k _ _ (.inl rfl) q,⟨o,k _ _ (.inl rfl) e⟩,st⟩
theorem HOk.lt(x:HOk P w H h)(e:H a=some o):a < h.objs.size:=(x a o e).lt
theorem HOk.fresh(x:HOk P w H h)(e:h.objs.size<=a):H a=none:=by
 cases q:H a with
 | none=>rfl
 | some u=>exact absurd (Nat.lt_of_lt_of_le (x.lt q) e) (Nat.lt_irrefl _)
theorem HOk.kept(x:HOk P w H h)(k:∀ b u,h.get? b=some u->h'.get? b=some u):HOk P w H h':=fun a o e=>
 (x a o e).stay (fun b u _ q=>k b u q) (fun _ q=>q) fun _ _ q=>q
theorem HOk.laid(x:HOk P w H h)(k:∀ b u,h.get? b=some u->h'.get? b=some u)(hp:h.objs.size<=a)(new:bq P w (upd H a o) h' a o):HOk P w (upd H a o) h':=fun b u e=>by
 have hn:=x.fresh hp;by_cases hb:b=a
 . subst hb;rw[aa]at e;cases e;exact new
 rw[af hb]at e;exact(x b u e).stay (fun c v _ q=>k c v q) (fun c q=>by rw[af (ah q hn)];exact q) fun c xs q=>by rw[af (ah q hn)];exact q
end
def Rd(H:Hp)(a:Addr)(u:HO):Prop:=H a=some u ∨ ∃ o,H a=some (.frz o u)
theorem Rd.ok{P:Program}{w:World}{H:Hp}{h:Heap}{a:Addr}{u:HO}(r:Rd H a u)(x:HOk P w H h):bq P w H h a u:=by
 rcases r with r | ⟨o,r⟩
 . exact x a u r
 obtain⟨_,q⟩:=x a _ r;exact q
def Mut:Option HO->Prop
 | some (.lst _)=>True
 | some (.dK _)=>True
 | some (.dT _)=>True
 | some (.set _ _)=>True
 | some (.ins _ _ _)=>True
 | some (.ext _)=>True
 | _=>False
section
variable{P:Program}{w:World}{H:Hp}{h h':Heap}{x e:Addr}{o':HO}
theorem HOk.write(ok:HOk P w H h)(mu:Mut (H x))(he:e=x∨H e=some (.own x))(k:∀ b u,b≠e->h.get? b=some u->h'.get? b=some u)(heo:∃ u,h'.get? e=some u)
 (new:bq P w (upd H x o') h' x o'):HOk P w (upd H x o') h':=fun b u q=>by
 have nown:∀ c y,H c=some (.own y)->c≠x:=fun c y r z=>by subst z;rw[r]at mu;exact mu
 have ntup:∀ c xs,H c=some (.tup xs)->c≠x:=fun c xs r z=>by subst z;rw[r]at mu;exact mu
 by_cases hb:b=x
 . subst hb;rw[aa]at q;cases q;exact new
 rw[af hb]at q;by_cases hbe:b=e
 . have q':H b=some (.own x):=by
    rcases he with z | z
    . exact absurd (hbe.trans z) hb
    rw[hbe];exact z
   rw[q]at q';cases q';obtain⟨v,hv⟩:=heo;exact⟨v,by rw[hbe];exact hv⟩
 refine(ok b u q).stay (fun c v hc r=>k c v ?_ r) (fun c r=>by rw[af (nown c b r)];exact r) fun c xs r=>by rw[af (ntup c xs r)];exact r
 rcases hc with rfl | hc
 . exact hbe
 rintro rfl;rcases he with z | z
 . exact nown c b hc z
 rw[hc]at z;cases z;exact hb rfl
end
structure Un(fs ex:List Addr)(H H':Hp)(h h':Heap):Prop where
 keep:∀ b o,h.get? b=some o->H b=none->b∉fs->b∉ex->h'.get? b=some o
 slot:∀ b o,h.get? b=some o->H b=none->b∈fs->b∉ex -> ∃ sl,h'.get? b=some { o with slots:=sl }
 free:∀ b o,h.get? b=some o->H b=none->b∉ex->H' b=none
 there:∀ b o,h.get? b=some o->b∉ex -> ∃ o',h'.get? b=some o'
 tups:∀ b xs,H b=some (.tup xs)->H' b=some (.tup xs)
 frzs:∀ b o u,H b=some (.frz o u)->H' b=some (.frz o u)
 tbls:∀ b ps,H b=some (.tbl ps) -> ∃ more,H' b=some (.tbl (ps++more))
section
variable{fs fs' ex ex':List Addr}{H H1 H2:Hp}{h h1 h2 h':Heap}{a x e:Addr}{o:HO}
theorem Un.any(u:Un fs ex H H1 h h1){b:Addr}{ob:Obj}(q:h.get? b=some ob)(n:H b=none)(hx:b∉ex):∃ sl,h1.get? b=some { ob with slots:=sl }:=by
 by_cases hb:b∈fs
 . exact u.slot b ob q n hb hx
 exact⟨ob.slots,u.keep b ob q n hb hx⟩
theorem Un.kept(k:∀ b u,h.get? b=some u->h'.get? b=some u):Un fs ex H H h h':=
 ⟨fun b ob q _ _ _=>k b ob q,fun b ob q _ _ _=>⟨ob.slots,k b ob q⟩,fun _ _ _ n _=>n,fun b ob q _=>⟨ob,k b ob q⟩,fun _ _ q=>q,fun _ _ _ q=>q,fun _ ps q=>⟨#[],by rw[q];simp⟩⟩
theorem Un.refl:Un fs ex H H h h:=Un.kept fun _ _ q=>q
theorem Un.laid(k:∀ b u,h.get? b=some u->h'.get? b=some u)(hp:h.objs.size<=a)(hn:H a=none):Un fs ex H (upd H a o) h h' where
 keep:=fun b u q _ _ _=>k b u q
 slot:=fun b u q _ _ _=>⟨u.slots,k b u q⟩
 free:=fun b u q n _=>by rw[af (Nat.ne_of_lt (Nat.lt_of_lt_of_le (Heap.lt_size q) hp))];exact n
 there:=fun b u q _=>⟨u,k b u q⟩
 tups:=fun b xs q=>by rw[af (ah q hn)];exact q
 frzs:=fun b u xs q=>by rw[af (ah q hn)];exact q
 tbls:=fun b ps q=>⟨#[],by rw[af (ah q hn),q];simp⟩
theorem Un.write(mu:Mut (H x))(he:e=x∨H e=some (.own x))(k:∀ b u,b≠e->h.get? b=some u->h'.get? b=some u)(heo:∃ u,h'.get? e=some u):Un fs ex H (upd H x o) h h':=by
 have hx:∀ b,H b=none->b≠x:=fun b n z=>by subst z;rw[n]at mu;exact mu
 have hb:∀ b,H b=none->b≠e:=fun b n z=>by
  subst z;rcases he with r | r
  . exact hx b n r
  rw[n]at r;cases r
 have hm:∀ b u,H b=some u -> ¬ Mut (some u)->b≠x:=fun b u q nm z=>by subst z;rw[q]at mu;exact nm mu
 refine⟨fun b u q n _ _=>k b u (hb b n) q,fun b u q n _ _=>⟨u.slots,k b u (hb b n) q⟩,fun b u q n _=>by rw[af (hx b n)];exact n,fun b u q _=>?_,
  fun b xs q=>by rw[af (hm b _ q fun z=>z)];exact q,fun b u xs q=>by rw[af (hm b _ q fun z=>z)];exact q,fun b ps q=>⟨#[],by rw[af (hm b _ q fun z=>z),q];simp⟩⟩
 by_cases hbe:b=e
 . subst hbe;exact heo
 exact⟨u,k b u hbe q⟩
end
def trk(h:Heap)(H:Hp):List Addr:=(List.range h.objs.size).filter fun a=>(H a).isSome
def lM(h:Heap)(H:Hp):Heap:=W.hideAll h (trk h H)
theorem rm(h:Heap)(H:Hp):(lM h H).objs.size=h.objs.size:=W.hideAll_size _ _
theorem uf{h:Heap}{H:Hp}{b:Addr}{o:Obj}(e:h.get? b=some o)(n:H b=none):(lM h H).get? b=some o:=
 W.hideAll_get _ e fun hm=>by
  have q:(H b).isSome=true:=(List.mem_filter.mp hm).2;rw[n]at q;simp at q
theorem vJ{h:Heap}{H:Hp}{b:Addr}{o:Obj}(e:(lM h H).get? b=some o):h.get? b=some o/\H b=none:=by
 have e':h.get? b=some o:=W.of_hideAll (trk h H) e;refine⟨e',?_⟩;cases q:H b with
 | none=>rfl
 | some x=>
   have hm:b∈trk h H:=List.mem_filter.mpr ⟨List.mem_range.mpr (Heap.lt_size e'),by simp[q]⟩
   have z:(lM h H).get? b=none:=W.hideAll_none (trk h H) hm;rw[z]at e;cases e
end L2
namespace L2
open PySem PySem.Spec PyProof.Rows
structure Mod(K:W.Frag)(mg:Str->Option Value)(base:Heap):Prop where
 kin:K.In base
 glob:base.Ns mainGlobals mg
 blt:∃ mb,base.Ns builtinsNs mb /\ ∀ x:Str,x ≠ "__name__" -> mb x=bootBuiltins x
 nolimit:base.NoLimit
structure Cx where
 prog:Program
 w:World
 K:W.Frag
 mg:Str->Option Value
 base:Heap
 A:Around
 N:List Str
 s₀:Shared
 H₀:Hp
 env:Env
 outer:List Env
 stack:List Env
 ex:List Addr
 fn:Str->Bool
 calm:Bool
 pn:List (Addr×Obj)
 xe:Value->Shared->Prop
def frs(l:List Env):List Addr:=l.filterMap (·.frame)
abbrev Cx.fs(X:Cx):List Addr:=frs X.outer
def Vis(sc:Scope)(x:Str):Prop:=sc.names.lookup x=some .local∨sc.names.lookup x=some .cell∨sc.names.lookup x=some .free
def Loc(sc:Scope)(x:Str):Prop:=sc.names.lookup x=some .local∨sc.names.lookup x=some .cell
def CJ(env:Env)(h:Heap)(m:Str->Option Value)(x:Str)(u:Value):Prop:=
 (env.kindOf x=some .local/\m x=some u)∨((env.kindOf x=some .cell∨env.kindOf x=some .free) /\ ∃ c,env.cells.lookup x=some c/\h.IsCell c (some u))
structure Cx.Ok(X:Cx):Prop where
 mod:Mod X.K X.mg X.base
 kind:X.env.scope.kind=.function
 glob:X.env.globals=mainGlobals
 blt:X.env.builtins=builtinsNs
 above:X.s₀.heap.objs.size<=X.env.locals
 inj:∀ x y c,X.env.cells.lookup x=some c->X.env.cells.lookup y=some c->x=y
 has:∀ x,(X.env.kindOf x=some .cell∨X.env.kindOf x=some .free) -> ∃ c,X.env.cells.lookup x=some c
 cab:∀ x c,X.fn x=true->X.env.cells.lookup x=some c->X.s₀.heap.objs.size<=c
 hd:X.calm=true->X.A.handled=none
 frames:X.A.frames=some X.stack
 stk:X.stack=X.outer∨(X.stack=X.env::X.outer/\X.env.frame=some X.env.locals)
 exf:∀ b∈X.ex,b≠X.env.locals /\ ∀ x c,X.env.cells.lookup x=some c->c≠b
 bs:∀ b o,X.base.get? b=some o->X.s₀.heap.get? b=some o/\X.H₀ b=none
 bsz:X.base.objs.size<=X.s₀.heap.objs.size
 noex:∀ b o,X.base.get? b=some o->b∉X.ex
 exfs:∀ b∈X.ex,b∉X.fs
 funs:X.s₀.heap.FunFrames X.base X.outer
 frf:∀ b∈X.fs,X.H₀ b=none
structure Inv(X:Cx)(pins:List (Addr×Obj))(U:List (Option V))(H:Hp)(s:Shared):Prop where
 ok:X.Ok
 os:s.os=X.s₀.os
 bare:AllBare s.gens
 base:Un X.fs X.ex X.H₀ H X.s₀.heap s.heap
 loc:∃ m,s.heap.Ns X.env.locals m /\ ∀(i:Nat) (x:Str) (v:V),X.N[i]?=some x -> U[i]?=some (some v)->Vis X.env.scope x -> ∃ u,aJ v u/\CJ X.env s.heap m x u
 cell:∀ x c,X.env.cells.lookup x=some c -> ∃ v,s.heap.IsCell c v
 free:H X.env.locals=none
 freeC:∀ x c,X.env.cells.lookup x=some c->H c=none
 pin:∀ p∈X.pn++pins,s.heap.get? p.1=some p.2/\H p.1=none/\p.1≠X.env.locals/\p.1∉X.fs /\ ∀ v,p.2.data ≠ .cell v
 hok:HOk X.prog X.w H s.heap
 len:U.length=X.N.length
section
variable{X:Cx}{pins:List (Addr×Obj)}{U:List (Option V)}{H H':Hp}{s:Shared}{h':Heap}
theorem Cx.Ok.nofr(ok:X.Ok){b:Addr}{o:Obj}(e:X.base.get? b=some o):b∉X.fs:=fun hb=>by
 have:=(ok.funs.mem hb).1;rw[e]at this;cases this
theorem Inv.bs(I:Inv X pins U H s):∀ b o,X.base.get? b=some o->s.heap.get? b=some o/\H b=none:=fun b o e=>
 ⟨I.base.keep b o (I.ok.bs b o e).1 (I.ok.bs b o e).2 (I.ok.nofr e) (I.ok.noex b o e),I.base.free b o (I.ok.bs b o e).1 (I.ok.bs b o e).2 (I.ok.noex b o e)⟩
theorem Inv.bk(I:Inv X pins U H s):∀ b o,X.base.get? b=some o->s.heap.get? b=some o:=fun b o e=>(I.bs b o e).1
theorem Inv.mod(I:Inv X pins U H s):Mod X.K X.mg X.base:=I.ok.mod
theorem Inv.kIn(I:Inv X pins U H s):X.K.In s.heap:=I.ok.mod.kin.keeps I.bk
theorem Inv.lt(I:Inv X pins U H s):X.env.locals < s.heap.objs.size:=let⟨_,hn,_⟩:=I.loc;hn.lt
theorem Inv.sz(I:Inv X pins U H s):X.s₀.heap.objs.size<=s.heap.objs.size:=Nat.le_trans I.ok.above (Nat.le_of_lt I.lt)
theorem Inv.nofs(I:Inv X pins U H s){a:Addr}(h:s.heap.objs.size<=a):a∉X.fs:=fun hb=>by
 obtain⟨_,o,ho,_⟩:=I.ok.funs.mem hb;exact absurd (Nat.lt_of_lt_of_le (Heap.lt_size ho) (Nat.le_trans I.sz h)) (Nat.lt_irrefl _)
theorem Inv.cne(I:Inv X pins U H s):∀ x c,X.env.cells.lookup x=some c->c≠X.env.locals:=fun x c e z=>by
 obtain⟨v,o,ho,hd⟩:=I.cell x c e;obtain⟨m,⟨o',es,ep,ho',hd',_⟩,_⟩:=I.loc;rw[z,ho']at ho;cases ho;rw[hd']at hd;cases hd
theorem Inv.funs(I:Inv X pins U H s):s.heap.FunFrames X.base X.outer:=by
 have all:∀(l:List Env),(∀ b∈frs l,b∈X.fs)->X.s₀.heap.FunFrames X.base l->s.heap.FunFrames X.base l:=by
  intro l
  induction l with
  | nil=>intro _ _;trivial
  | cons env r ih=>
    intro hs hl;obtain⟨hk,⟨L,o,hf,hn,ho,hd⟩,hr⟩:=hl;have hL:L∈X.fs:=hs L (by unfold frs;rw[List.filterMap_cons,hf];exact List.mem_cons_self)
    obtain⟨sl,e⟩:=I.base.slot L o ho (I.ok.frf L hL) hL fun z=>I.ok.exfs L z hL;exact⟨hk,⟨L,_,hf,hn,e,hd⟩,ih (fun b hb=>hs b (by unfold frs;rw[List.filterMap_cons,hf];exact List.mem_cons_of_mem _ hb)) hr⟩
 exact all X.outer (fun _ hb=>hb) I.ok.funs
theorem Inv.stack(I:Inv X pins U H s):s.heap.FunFrames X.base X.stack:=by
 rcases I.ok.stk with e | ⟨e,hf⟩
 . rw[e];exact I.funs
 rw[e];obtain⟨m,hn,_⟩:=I.loc;refine .cons (by rw[I.ok.kind];decide) hf hn ?_ I.funs
 exact Heap.get?_none_of_le (Nat.le_trans I.ok.bsz I.ok.above)
theorem Inv.stkSub(I:Inv X pins U H s):∀ b∈frs X.stack,b∈X.env.locals::X.fs:=fun b hb=>by
 rcases I.ok.stk with e | ⟨e,hf⟩
 . rw[e]at hb;exact List.mem_cons_of_mem _ hb
 rw[e]at hb;unfold frs at hb;rw[List.filterMap_cons,hf]at hb;exact hb
theorem Inv.stkFree(I:Inv X pins U H s):∀ b∈frs X.stack,H b=none:=fun b hb=>by
 rcases List.mem_cons.mp (I.stkSub b hb)with e | hb
 . rw[e];exact I.free
 obtain⟨_,o,ho,_⟩:=I.ok.funs.mem hb;exact I.base.free b o ho (I.ok.frf b hb) fun z=>I.ok.exfs b z hb
theorem Inv.step{g':Array GenState}{t':Nat}{d':Drawn}{ch:List Addr}(I:Inv X pins U H s)
 (hch:∀ b∈ch,(b∈X.ex∨X.s₀.heap.objs.size<=b)/\b≠X.env.locals/\(∀ x c,X.env.cells.lookup x=some c->c≠b) /\ ∀ p∈X.pn++pins,p.1≠b)
 (keep:∀ b o,b≠X.env.locals->b∉X.fs->b∉ch->s.heap.get? b=some o->H b=none->h'.get? b=some o)
 (slot:∀ b o,b≠X.env.locals->b∈X.fs->b∉ch->s.heap.get? b=some o->H b=none -> ∃ sl,h'.get? b=some { o with slots:=sl }) (free:∀ b o,b∉ch->s.heap.get? b=some o->H b=none->H' b=none)
 (there:∀ b o,b∉ch->s.heap.get? b=some o -> ∃ o',h'.get? b=some o')
 (tups:∀ b xs,H b=some (.tup xs)->H' b=some (.tup xs)) (frzs:∀ b o u,H b=some (.frz o u)->H' b=some (.frz o u)) (tbls:∀ b ps,H b=some (.tbl ps) -> ∃ more,H' b=some (.tbl (ps++more)))
 (ns:∀ m,s.heap.Ns X.env.locals m->h'.Ns X.env.locals m) (hok:HOk X.prog X.w H' h') (hg:AllBare g') :
 Inv X pins U H' { s with heap:=h',gens:=g',drawn:=d',toks:=t' }:=by
 have neL:∀ b o,X.s₀.heap.get? b=some o->b≠X.env.locals:=fun b o e=>Nat.ne_of_lt (Nat.lt_of_lt_of_le (Heap.lt_size e) I.ok.above);have neC:∀ b o,X.s₀.heap.get? b=some o->b∉X.ex->b∉ch:=fun b o e hx hb=>by
  rcases(hch b hb).1 with z | z
  . exact hx z
  exact absurd (Nat.lt_of_lt_of_le (Heap.lt_size e) z) (Nat.lt_irrefl _)
 have cellK:∀ x c,X.env.cells.lookup x=some c -> ∀ v,s.heap.IsCell c v->h'.IsCell c v:=fun x c e v ⟨o,ho,hd⟩=>by
  have nch:c∉ch:=fun z=>(hch c z).2.2.1 x c e rfl;by_cases hc:c∈X.fs
  . obtain⟨sl,q⟩:=slot c o (I.cne x c e) hc nch ho (I.freeC x c e)
    exact⟨_,q,hd⟩
  exact⟨o,keep c o (I.cne x c e) hc nch ho (I.freeC x c e),hd⟩
 refine⟨I.ok,I.os,hg,⟨fun b o e n hb hx=>?_,fun b o e n hb hx=>?_,fun b o e n hx=>?_,fun b o e hx=>?_,fun b xs e=>tups b xs (I.base.tups b xs e),fun b o xs e=>frzs b o xs (I.base.frzs b o xs e),fun b ps e=>?_⟩,?_,fun x c e=>?_,?_,fun x c e=>?_,fun p hp=>?_,hok,I.len⟩
 . exact keep b o (neL b o e) hb (neC b o e hx) (I.base.keep b o e n hb hx) (I.base.free b o e n hx)
 . obtain⟨sl,e1⟩:=I.base.slot b o e n hb hx
   obtain⟨sl',e2⟩:=slot b _ (neL b o e) hb (neC b o e hx) e1 (I.base.free b o e n hx);exact⟨sl',e2⟩
 . obtain⟨o',e1⟩:=I.base.there b o e hx
   exact free b o' (neC b o e hx) e1 (I.base.free b o e n hx)
 . obtain⟨o',e1⟩:=I.base.there b o e hx
   exact there b o' (neC b o e hx) e1
 . obtain⟨m1,e1⟩:=I.base.tbls b ps e
   obtain⟨m2,e2⟩:=tbls b _ e1;exact⟨m1++m2,by rw[e2,Array.append_assoc]⟩
 . obtain⟨m,hn,hl⟩:=I.loc
   refine⟨m,ns m hn,fun i x v e1 e2 e3=>?_⟩;obtain⟨u,r,l⟩:=hl i x v e1 e2 e3;refine⟨u,r,?_⟩;rcases l with l | ⟨k,c,e,z⟩
   . exact .inl l
   exact .inr ⟨k,c,e,cellK x c e _ z⟩
 . obtain⟨v,z⟩:=I.cell x c e
   exact⟨v,cellK x c e v z⟩
 . obtain⟨m,⟨o,_,_,ho,_⟩,_⟩:=I.loc
   exact free _ o (fun z=>(hch _ z).2.1 rfl) ho I.free
 . obtain⟨v,o,ho,hd⟩:=I.cell x c e
   exact free c o (fun z=>(hch c z).2.2.1 x c e rfl) ho (I.freeC x c e)
 obtain⟨e,n,ne,nf,d⟩:=I.pin p hp;have nch:p.1∉ch:=fun z=>(hch p.1 z).2.2.2 p hp rfl;exact⟨keep p.1 p.2 ne nf nch e n,free p.1 p.2 nch e n,ne,nf,d⟩
theorem Inv.un{t':Nat}(I:Inv X pins U H s)(u:Un X.fs [] H H' s.heap h')(hok:HOk X.prog X.w H' h'):Inv X pins U H' { s with heap:=h',toks:=t' }:=by
 obtain⟨m,⟨o,es,ep,ho,r⟩,_⟩:=id I.loc;obtain⟨sl,hL⟩:=u.any ho I.free (by simp)
 exact I.step (g':=s.gens) (d':=s.drawn) (ch:=[]) (fun _ z=>nomatch z) (fun b o _ hb _ e n=>u.keep b o e n hb (by simp)) (fun b o _ hb _ e n=>u.slot b o e n hb (by simp)) (fun b o _ e n=>u.free b o e n (by simp)) (fun b o _ e=>u.there b o e (by simp)) u.tups u.frzs u.tbls (fun m' hm=>by
  obtain⟨o',es',ep',ho',r'⟩:=hm;rw[ho]at ho';cases ho';exact⟨_,es',ep',hL,r'⟩) hok I.bare
theorem Inv.call{g':Array GenState}{t':Nat}{d':Drawn}{ch:List Addr}(I:Inv X pins U H s)(u:Un (frs X.stack) ch H H' s.heap h')(hok:HOk X.prog X.w H' h')(hg:AllBare g')
 (hch:∀ b∈ch,(b∈X.ex∨X.s₀.heap.objs.size<=b)/\b≠X.env.locals/\(∀ x c,X.env.cells.lookup x=some c->c≠b) /\ ∀ p∈X.pn++pins,p.1≠b) :
 Inv X pins U H' { s with heap:=h',gens:=g',drawn:=d',toks:=t' }:=by
 obtain⟨m,⟨o,es,ep,ho,r⟩,_⟩:=id I.loc;obtain⟨sl,hL⟩:=u.any ho I.free fun z=>(hch _ z).2.1 rfl;exact I.step (ch:=ch) hch (fun b o hL hb hc e n=>u.keep b o e n (fun z=>(List.mem_cons.mp (I.stkSub b z)).elim hL hb) hc) (fun b o _ _ hc e n=>u.any e n hc) (fun b o hc e n=>u.free b o e n hc) (fun b o hc e=>u.there b o e hc) u.tups u.frzs u.tbls (fun m' hm=>by
  obtain⟨o',es',ep',ho',r'⟩:=hm;rw[ho]at ho';cases ho';exact⟨_,es',ep',hL,r'⟩) hok hg
theorem Inv.turned{t':Nat}{it:Addr}(I:Inv X pins U H s)(k:∀ b o,b≠it->s.heap.get? b=some o->h'.get? b=some o)(hn:H it=none)(hL:it≠X.env.locals)
 (h1:it∈X.ex∨X.s₀.heap.objs.size<=it) (h2:∀ x c,X.env.cells.lookup x=some c->c≠it) (h3:∀ p∈X.pn++pins,p.1≠it):Inv X pins U H { s with heap:=h',toks:=t' }:=by
 have nit:∀ b u,H b=some u->b≠it:=fun b u e z=>by rw[z,hn]at e;cases e
 refine I.step (g':=s.gens) (d':=s.drawn) (ch:=[it]) (fun b hb=>?_) (fun b o _ _ hc e _=>k b o (fun z=>hc (by simp[z])) e) (fun b o _ _ hc e _=>⟨o.slots,k b o (fun z=>hc (by simp[z])) e⟩) (fun _ _ _ _ n=>n)
  (fun b o hc e=>⟨o,k b o (fun z=>hc (by simp[z])) e⟩) (fun _ _ e=>e) (fun _ _ _ e=>e) (fun b ps e=>⟨#[],by rw[e];simp⟩) (fun m hm=>?_) (fun b u e=>?_) I.bare
 . have e:b=it:=by simpa using hb
   subst e;exact⟨h1,hL,h2,h3⟩
 . obtain⟨o,es,ep,ho,r⟩:=hm
   exact⟨o,es,ep,k _ o (Ne.symm hL) ho,r⟩
 refine(I.hok b u e).stay (fun c v hc q=>k c v ?_ q) (fun _ q=>q) fun _ _ q=>q;rcases hc with z | z
 . rw[z];exact nit b u e
 exact nit c _ z
theorem Inv.tok(I:Inv X pins U H s)(t:Nat):Inv X pins U H { s with toks:=t }:=I.un (h':=s.heap) (t':=t) Un.refl I.hok
theorem Inv.kept{t':Nat}(I:Inv X pins U H s)(k:∀ b u,s.heap.get? b=some u->h'.get? b=some u):Inv X pins U H { s with heap:=h',toks:=t' }:=I.un (Un.kept k) (I.hok.kept k)
theorem Inv.laid{a:Addr}{o:HO}{t':Nat}(I:Inv X pins U H s)(k:∀ b u,s.heap.get? b=some u->h'.get? b=some u)(hp:s.heap.objs.size<=a)(new:bq X.prog X.w (upd H a o) h' a o) :
 Inv X pins U (upd H a o) { s with heap:=h',toks:=t' }:=I.un (Un.laid k hp (I.hok.fresh hp)) (I.hok.laid k hp new)
theorem Inv.write{x e:Addr}{o:HO}{t':Nat}(I:Inv X pins U H s)(mu:Mut (H x))(he:e=x∨H e=some (.own x))(k:∀ b u,b≠e->s.heap.get? b=some u->h'.get? b=some u)(heo:∃ u,h'.get? e=some u)
 (new:bq X.prog X.w (upd H x o) h' x o):Inv X pins U (upd H x o) { s with heap:=h',toks:=t' }:=I.un (Un.write mu he k heo) (I.hok.write mu he k heo new)
theorem Inv.pins_of{pins':List (Addr×Obj)}(I:Inv X pins U H s)(h:∀ p∈pins',s.heap.get? p.1=some p.2/\H p.1=none/\p.1≠X.env.locals/\p.1∉X.fs /\ ∀ v,p.2.data ≠ .cell v):Inv X pins' U H s:=
 ⟨I.ok,I.os,I.bare,I.base,I.loc,I.cell,I.free,I.freeC,fun p hp=>(List.mem_append.mp hp).elim (fun z=>I.pin p (List.mem_append_left _ z)) (h p),I.hok,I.len⟩
theorem nQ{N:List Str}(hN:N.Nodup){i j:Nat}{x:Str}(a:N[i]?=some x)(b:N[j]?=some x):i=j:=by
 obtain⟨h1,e1⟩:=List.getElem?_eq_some_iff.mp a;obtain⟨h2,e2⟩:=List.getElem?_eq_some_iff.mp b;exact(List.getElem_inj hN).mp (e1.trans e2.symm)
theorem qQ{M:Model}{A:Around}{E:Value->Shared->Prop}{i:Nat}{x:Str}{v:V}{u:Value}{Q:Unit->Shared->Prop}(I:Inv X pins U H s)(hN:X.N.Nodup)(hi:X.N[i]?=some x)(hx:Loc X.env.scope x)(r:aJ v u)
 (h:∀ s',Inv X pins (U.set i (some v)) H s'->(∃ a,Heap.SameBut a s.heap s'.heap/\(a=X.env.locals∨X.env.cells.lookup x=some a))->Q () s') (hf:X.fn x=true∨X.env.scope.names.lookup x=some .local:=by first | exact .inl rfl | exact .inr rfl | assumption):wpAny M A (storeName X.env x u) Q E s:=by
 obtain⟨m,hn,hl⟩:=id I.loc;have hcls:(X.env.scope.kind == .class || (X.env.scope.kind == .module && X.env.locals != X.env.globals))=false:=by rw[I.ok.kind];rfl
 have hiσ:i < U.length:=by rw[I.len];exact(List.getElem?_eq_some_iff.mp hi).1
 have cne:=I.cne;have tracked:∀{a:Addr}{h':Heap},(∃ o,s.heap.get? a=some o/\H a=none)->Heap.SameBut a s.heap h'->HOk X.prog X.w H h':=fun {a h'} ha hs b ob e=>by
  obtain⟨_,_,hfree⟩:=ha;refine(I.hok b ob e).stay (fun c w' hc q=>(hs.2 c ?_).trans q) (fun _ q=>q) fun _ _ q=>q;rintro rfl;rcases hc with rfl | hc
  . rw[hfree]at e;cases e
  rw[hfree]at hc;cases hc
 rcases hx with hk | hk
 . refine wpAny_storeName_local hk hn (fun h' hn' hs=>?_) hcls
   obtain⟨oL,_,_,hoL,_⟩:=id hn;refine h _ ⟨I.ok,I.os,I.bare,⟨fun b o e n hb hx=>?_,fun b o e n hb hx=>?_,I.base.free,fun b o e hx=>?_,I.base.tups,I.base.frzs,I.base.tbls⟩,⟨_,hn',fun j y v' e1 e2 e3=>?_⟩,fun y c e=>?_,I.free,I.freeC,fun p hp=>?_,tracked ⟨oL,hoL,I.free⟩ hs,by simpa using I.len⟩ ⟨_,hs,.inl rfl⟩
   . exact(hs.2 b (Nat.ne_of_lt (Nat.lt_of_lt_of_le (Heap.lt_size e) I.ok.above))).trans (I.base.keep b o e n hb hx)
   . obtain⟨sl,e1⟩:=I.base.slot b o e n hb hx
     exact⟨sl,(hs.2 b (Nat.ne_of_lt (Nat.lt_of_lt_of_le (Heap.lt_size e) I.ok.above))).trans e1⟩
   . obtain⟨o',e1⟩:=I.base.there b o e hx
     exact⟨o',(hs.2 b (Nat.ne_of_lt (Nat.lt_of_lt_of_le (Heap.lt_size e) I.ok.above))).trans e1⟩
   . by_cases hj:j=i
     . subst hj
       rw[hi]at e1;cases e1;rw[List.getElem?_set_self hiσ]at e2;cases e2;exact⟨u,r,.inl ⟨hk,by simp⟩⟩
     rw[List.getElem?_set_ne (Ne.symm hj)]at e2;obtain⟨u',r',q⟩:=hl j y v' e1 e2 e3;refine⟨u',r',?_⟩;rcases q with ⟨k,e⟩ | ⟨k,c,e,z⟩
     . refine .inl ⟨k,?_⟩
       have:y≠x:=fun e=>hj (nQ hN e1 (e ▸ hi));simp[this,e]
     exact .inr ⟨k,c,e,z.sameBut hs (cne y c e)⟩
   . obtain⟨w',z⟩:=I.cell y c e
     exact⟨w',z.sameBut hs (cne y c e)⟩
   obtain⟨e,n,ne,nf,d⟩:=I.pin p hp;exact⟨(hs.2 p.1 ne).trans e,n,ne,nf,d⟩
 have hfn:X.fn x=true:=by
  rcases hf with z | z
  . exact z
  rw[z]at hk;cases hk
 obtain⟨c,hc⟩:=I.ok.has x (.inl hk);obtain⟨w',z⟩:=I.cell x c hc;refine wpAny_storeName_cell I.ok.kind hk hc z (fun h' hc' hs=>?_);obtain⟨oc,hoc,hocd⟩:=id z;refine h { s with heap:=h' } ⟨I.ok,I.os,I.bare,⟨fun b o e n hb hx=>?_,fun b o e n hb hx=>?_,I.base.free,fun b o e hx=>?_,I.base.tups,I.base.frzs,I.base.tbls⟩,⟨m,hn.sameBut hs (Ne.symm (cne x c hc)),fun j y v' e1 e2 e3=>?_⟩,fun y c' e=>?_,I.free,I.freeC,fun p hp=>?_,tracked ⟨oc,hoc,I.freeC x c hc⟩ hs,by simpa using I.len⟩ ⟨c,hs,.inr hc⟩
 . exact(hs.2 b (Nat.ne_of_lt (Nat.lt_of_lt_of_le (Heap.lt_size e) (I.ok.cab x c hfn hc)))).trans (I.base.keep b o e n hb hx)
 . obtain⟨sl,e1⟩:=I.base.slot b o e n hb hx
   exact⟨sl,(hs.2 b (Nat.ne_of_lt (Nat.lt_of_lt_of_le (Heap.lt_size e) (I.ok.cab x c hfn hc)))).trans e1⟩
 . obtain⟨o',e1⟩:=I.base.there b o e hx
   exact⟨o',(hs.2 b (Nat.ne_of_lt (Nat.lt_of_lt_of_le (Heap.lt_size e) (I.ok.cab x c hfn hc)))).trans e1⟩
 . by_cases hj:j=i
   . subst hj
     rw[hi]at e1;cases e1;rw[List.getElem?_set_self hiσ]at e2;cases e2;exact⟨u,r,.inr ⟨.inl hk,c,hc,hc'⟩⟩
   rw[List.getElem?_set_ne (Ne.symm hj)]at e2;obtain⟨u',r',q⟩:=hl j y v' e1 e2 e3;refine⟨u',r',?_⟩;rcases q with q | ⟨k,c',e,z'⟩
   . exact .inl q
   refine .inr ⟨k,c',e,z'.sameBut hs ?_⟩;rintro rfl;exact hj (nQ hN e1 (I.ok.inj _ _ _ e hc ▸ hi))
 . by_cases hcc:c'=c
   . subst hcc;exact⟨_,hc'⟩
   obtain⟨w2,z2⟩:=I.cell y c' e;exact⟨w2,z2.sameBut hs hcc⟩
 obtain⟨e,n,ne,nf,d⟩:=I.pin p hp;refine⟨(hs.2 p.1 ?_).trans e,n,ne,nf,d⟩;intro q;rw[q,hoc]at e;have q':oc=p.2:=Option.some.inj e;exact d w' (by rw[← q'];exact hocd)
theorem mZ{M:Model}{A:Around}{E:Value->Shared->Prop}{i:Nat}{x:Str}{v:V}{u:Value}{Q:Unit->Shared->Prop}(I:Inv X pins U H s)(hN:X.N.Nodup)(hi:X.N[i]?=some x)(hx:Loc X.env.scope x)(r:aJ v u)
 (h:∀ s',Inv X pins (U.set i (some v)) H s'->Q () s') (hf:X.fn x=true∨X.env.scope.names.lookup x=some .local:=by first | exact .inl rfl | exact .inr rfl | assumption):wpAny M A (storeName X.env x u) Q E s:=
 qQ I hN hi hx r (fun s' I' _=>h s' I') hf
theorem Inv.call'{s':Shared}{ch:List Addr}(I:Inv X pins U H s)(ho:s'.os=s.os)(u:Un (frs X.stack) ch H H' s.heap s'.heap)(hok:HOk X.prog X.w H' s'.heap)(hg:AllBare s'.gens)
 (hch:∀ b∈ch,(b∈X.ex∨X.s₀.heap.objs.size<=b)/\b≠X.env.locals/\(∀ x c,X.env.cells.lookup x=some c->c≠b) /\ ∀ p∈X.pn++pins,p.1≠b):Inv X pins U H' s':=by
 obtain⟨h',g',d',t',o'⟩:=s';have e:o'=s.os:=ho;subst e;exact I.call (g':=g') (t':=t') (d':=d') u hok hg hch
end
abbrev XK:=Value->Option Addr->Hp->Prop
abbrev St:=List (Option V)
abbrev VK:=V->Hp->Prop
abbrev TE:=St->Hp->VK->Prop
abbrev TT:=St->Hp->(Bool->Hp->Prop)->Prop
abbrev TA:=St->Hp->(List V->Hp->Prop)->Prop
structure fJ where
 nx:St->Hp->Prop
 rt:VK
 bk:St->Hp->Prop:=fun _ _=>False
 ct:St->Hp->Prop:=fun _ _=>False
abbrev TS:=fJ->St->Hp->Prop
def EP(X:Cx)(pins:List (Addr×Obj))(U:St)(Q:VK)(u:Value)(s':Shared):Prop:=∃ v H',Inv X pins U H' s'/\aJ v u/\Q v H'
def TP(X:Cx)(pins:List (Addr×Obj))(U:St)(Q:Bool->Hp->Prop)(b:Bool)(s':Shared):Prop:=∃ H',Inv X pins U H' s'/\Q b H'
def AP(X:Cx)(pins:List (Addr×Obj))(U:St)(Q:List V->Hp->Prop)(us:List Value)(s':Shared):Prop:=∃ vs H',Inv X pins U H' s'/\aH vs us/\Q vs H'
def SP(X:Cx)(pins:List (Addr×Obj))(D:fJ)(f:Flow)(s':Shared):Prop:=
 match f with
 | .next=>∃ U' H',Inv X pins U' H' s'/\D.nx U' H'
 | .brk=>∃ U' H',Inv X pins U' H' s'/\D.bk U' H'
 | .cont=>∃ U' H',Inv X pins U' H' s'/\D.ct U' H'
 | .ret u=>∃ v U' H',Inv X pins U' H' s'/\aJ v u/\D.rt v H'
def PE(X:Cx)(e:Expr)(t:TE):Prop:=
 ∀(pins:List (Addr×Obj)) (s:Shared) (U:St) (H:Hp) (Q:VK),Inv X pins U H s->t U H Q->wpAny (model X.prog X.w) X.A (eval e X.env) (EP X pins U Q) X.xe s
def PT(X:Cx)(e:Expr)(t:TT):Prop:=
 ∀(pins:List (Addr×Obj)) (s:Shared) (U:St) (H:Hp) (Q:Bool->Hp->Prop),Inv X pins U H s->t U H Q->wpAny (model X.prog X.w) X.A (isTrue e X.env (eval e X.env)) (TP X pins U Q) X.xe s
def PW(X:Cx)(e:Expr)(t:TT):Prop:=
 ∀(whole:Sem Value) (pins:List (Addr×Obj)) (s:Shared) (U:St) (H:Hp) (Q:Bool->Hp->Prop),Inv X pins U H s->t U H Q->wpAny (model X.prog X.w) X.A (isTrue e X.env whole) (TP X pins U Q) X.xe s
theorem PW.pt{X:Cx}{e:Expr}{t:TT}(h:PW X e t):PT X e t:=h _
def PA(X:Cx)(es:List Expr)(t:TA):Prop:=
 ∀(pos:Pos) (pins:List (Addr×Obj)) (s:Shared) (U:St) (H:Hp) (Q:List V->Hp->Prop),Inv X pins U H s->t U H Q->wpAny (model X.prog X.w) X.A (spliced (backTo pos (starEach es X.env))) (AP X pins U Q) X.xe s
def PS(X:Cx)(st:Stmt)(t:TS):Prop:=
 ∀(pins:List (Addr×Obj)) (s:Shared) (U:St) (H:Hp) (D:fJ),Inv X pins U H s->t D U H->wpAny (model X.prog X.w) X.A (exec st X.env) (SP X pins D) X.xe s
def PSs(X:Cx)(st:List Stmt)(t:TS):Prop:=
 ∀(pins:List (Addr×Obj)) (s:Shared) (U:St) (H:Hp) (D:fJ),Inv X pins U H s->t D U H->wpAny (model X.prog X.w) X.A (execs st X.env) (SP X pins D) X.xe s
theorem thn{α:Type}{t:Sem α}{Q Q':α -> Shared->Prop}{M:Model}{A:Around}{E:Value->Shared->Prop}{s:Shared}(h:wpAny M A t Q E s)(hQ:∀ a s,Q a s->Q' a s):wpAny M A t Q' E s:=wpAny_mono h hQ fun _ _ x=>x
end L2
namespace L2
open PySem PySem.Spec PyProof.Rows
section
variable{X:Cx}
def d_(i:Nat):TE:=fun U H Q=>∃ v,U[i]?=some (some v)/\Q v H
def tC(v:V):TE:=fun _ H Q=>Q v H
theorem xY{i:Nat}{x:Str}{pos:Pos}(hN:X.N[i]?=some x)(hv:Vis X.env.scope x)(hd:(x == ("__debug__":Str))=false:=by decide)(hcd:(x == ("__classdict__":Str))=false:=by decide):PE X (.Name x pos) (d_ i):=by
 intro pins s U H Q I h;obtain⟨v,e,h⟩:=h;obtain⟨m,hn,hl⟩:=I.loc;obtain⟨u,r,l⟩:=hl i x v hN e hv;have fin:EP X pins U Q u s:=⟨v,H,I,r,h⟩;rcases l with ⟨hk,hm⟩ | ⟨hk,c,hc,hcell⟩
 . exact wpAny_Name (wpAny_loadName_local I.ok.kind hk hn hm fin) hd
 rcases hk with hk | hk
 . exact wpAny_Name (wpAny_loadName_cell I.ok.kind hk hc hcell fin) hd
 exact wpAny_Name (wpAny_loadName_free I.ok.kind hk hc hcell fin hcd) hd
theorem zy{i j pos}:PE X (.Constant (.int i) j pos) (tC (.int i)):=fun _ _ _ H _ I h=>wpAny_Constant_int ⟨.int i,H,I.tok _,⟨_,rfl⟩,h⟩
theorem AL{b j pos}:PE X (.Constant (.bool b) j pos) (tC (.bl b)):=fun _ _ _ H _ I h=>Constant_bool ⟨.bl b,H,I,rfl,h⟩
theorem zB{j pos}:PE X (.Constant .none j pos) (tC .non):=fun _ _ _ H _ I h=>Constant_none ⟨.non,H,I,rfl,h⟩
theorem yk{x j pos}:PE X (.Constant (.str x) j pos) (tC (.str x)):=fun _ _ _ H _ I h=>Calls.Constant_str ⟨.str x,H,I.tok _,⟨_,rfl⟩,h⟩
def Gl(X:Cx)(x:Str):Prop:=X.env.kindOf x=some .globalImplicit
theorem iU{E:Value->Shared->Prop}{pins:List (Addr×Obj)}{s:Shared}{U:St}{H:Hp}{x:Str}{u:Value}{pos:Pos}{Q:Value->Shared->Prop}(I:Inv X pins U H s)(hg:Gl X x)(hm:X.mg x=some u)(h:Q u s)
 (hd:(x == ("__debug__":Str))=false:=by decide):wpAny (model X.prog X.w) X.A (eval (.Name x pos) X.env) Q E s:=
 Calls.Name_function_global I.ok.kind hg (Calls.loadGlobal_global (by rw[I.ok.glob];exact I.mod.glob.keeps I.bk) hm h) hd
theorem je{E:Value->Shared->Prop}{pins:List (Addr×Obj)}{s:Shared}{U:St}{H:Hp}{x:Str}{u:Value}{pos:Pos}{Q:Value->Shared->Prop}(I:Inv X pins U H s)(hg:Gl X x)(hm:X.mg x=none)(hv:bootBuiltins x=some u)(h:Q u s)
 (hn:x ≠ "__name__":=by decide) (hd:(x == ("__debug__":Str))=false:=by decide):wpAny (model X.prog X.w) X.A (eval (.Name x pos) X.env) Q E s:=by
 obtain⟨mb,h1,h2⟩:=I.mod.blt;exact Calls.Name_function_global I.ok.kind hg (Calls.loadGlobal_builtin (by rw[I.ok.glob];exact I.mod.glob.keeps I.bk) hm (by rw[I.ok.blt];exact h1.keeps I.bk) ((h2 x hn).trans hv) h) hd
theorem lK{x:Str}{v:V}{u:Value}{pos:Pos}(hg:Gl X x)(hm:X.mg x=some u)(r:aJ v u)(hd:(x == ("__debug__":Str))=false:=by decide):PE X (.Name x pos) (tC v):=
 fun _ _ _ H _ I h=>iU I hg hm ⟨v,H,I,r,h⟩ hd
theorem vR{x:Str}{v:V}{u:Value}{pos:Pos}(hg:Gl X x)(hm:X.mg x=none)(hv:bootBuiltins x=some u)(r:aJ v u)(hn:x ≠ "__name__":=by decide)(hd:(x == ("__debug__":Str))=false:=by decide):PE X (.Name x pos) (tC v):=
 fun _ _ _ H _ I h=>je I hg hm hv ⟨v,H,I,r,h⟩ hn hd
variable{a b:Expr}{ta tb:TE}{pos:Pos}
def PC(X:Cx)(op:CmpOp)(a b:Expr)(t:TE):Prop:=
 ∀(pins:List (Addr×Obj)) (s:Shared) (U:St) (H:Hp) (Q:VK),Inv X pins U H s->t U H Q ->
   wpAny (model X.prog X.w) X.A (eval a X.env) (fun v s₁=>wpAny (model X.prog X.w) X.A (eval b X.env) (fun u s₂=>wpAny (model X.prog X.w) X.A (compareOp op v u) (EP X pins U Q) X.xe s₂) X.xe s₁) X.xe s
def tB(t:TE):TT:=fun U H Q=>t U H fun x H1=>∃ c,x=.bl c/\Q c H1
theorem uz{op:CmpOp}{t:TE}(h:PC X op a b t)(h1:behindInMarks op b=false:=by first | exact nobehind _ (by decide) (by decide) | rfl):PT X (.Compare a [op] [b] pos) (tB t):=by
 intro pins s U H Q I hw;refine wpAny_isTrue_Compare1 (thn (h pins s U H _ I hw) fun v s1 h1=>thn h1 fun u s2 h2=>thn h2 fun c s3 ⟨x,H1,I1,r1,q1⟩=>?_) h1;obtain⟨d,rfl,q⟩:=q1;cases r1;exact wpAny_truthy_bool ⟨H1,I1,q⟩
theorem zo{e:Expr}{t:TE}(h:PE X e t)(he:∀ whole,isTrue e X.env whole=(do let v ← whole;standAt e.pos;holding [v] (truthy v)):=by intro _;rfl):PT X e (tB t):=by
 intro pins s U H Q I hw;refine isTrue_plain (thn (h pins s U H _ I hw) fun v s1 ⟨x,H1,I1,r1,q1⟩=>?_) (he _);obtain⟨d,rfl,q⟩:=q1;cases r1;exact wpAny_truthy_bool ⟨H1,I1,q⟩
variable{tA tB':TT}{rest:List Expr}
def zr(t u:TT):TT:=fun U H Q=>t U H fun c H1=>if c=true then u U H1 Q else Q false H1
def tOr(t u:TT):TT:=fun U H Q=>t U H fun c H1=>if c=true then Q true H1 else u U H1 Q
def z9(t:TT):TT:=fun U H Q=>t U H fun c H1=>Q (!c) H1
theorem wf(ha:PT X a tA):PW X (.BoolOp .And [a] pos) tA:=by
 intro wh pins s U H Q I h;refine isTrue_and (thn (ha pins s U H Q I h) fun c s1 e=>?_);cases c with
 | true=>exact isTrue_and_nil e
 | false=>exact e
theorem Av(ha:PT X a tA):PW X (.BoolOp .Or [a] pos) tA:=by
 intro wh pins s U H Q I h;refine isTrue_or (thn (ha pins s U H Q I h) fun c s1 e=>?_);cases c with
 | false=>exact isTrue_or_nil e
 | true=>exact e
theorem As(ha:PT X a tA)(hb:PW X (.BoolOp .And (b::rest) pos) tB'):PW X (.BoolOp .And (a::b::rest) pos) (zr tA tB'):=by
 intro wh pins s U H Q I h;refine isTrue_and (thn (ha pins s U H _ I h) fun c s1 zz=>?_);obtain⟨H1,I1,q1⟩:=zz;cases c with
 | true=>exact hb wh pins s1 U H1 Q I1 q1
 | false=>exact⟨H1,I1,q1⟩
theorem By(ha:PT X a tA)(hb:PW X (.BoolOp .Or (b::rest) pos) tB'):PW X (.BoolOp .Or (a::b::rest) pos) (tOr tA tB'):=by
 intro wh pins s U H Q I h;refine isTrue_or (thn (ha pins s U H _ I h) fun c s1 zz=>?_);obtain⟨H1,I1,q1⟩:=zz;cases c with
 | true=>exact⟨H1,I1,q1⟩
 | false=>exact hb wh pins s1 U H1 Q I1 q1
theorem zD(ha:PT X a tA):PT X (.UnaryOp .Not a pos) (z9 tA):=by
 intro pins s U H Q I h;exact isTrue_not (ha pins s U H (fun c H1=>Q (!c) H1) I h)
def uY(ta tb:TE):TE:=fun U H Q=>ta U H fun x H1=>∃ c,x=.bl c/\if c=true then tb U H1 Q else Q (.bl false) H1
def zt(ta tb:TE):TE:=fun U H Q=>ta U H fun x H1=>∃ c,x=.bl c/\if c=true then Q (.bl true) H1 else tb U H1 Q
def uQ(ta:TE):TE:=fun U H Q=>ta U H fun x H1=>∃ c,x=.bl c/\Q (.bl (!c)) H1
theorem Ak{op}{t:TE}(h:PE X a t):PE X (.BoolOp op [a] pos) t:=fun pins s U H Q I hw=>BoolOp_one (h pins s U H Q I hw)
theorem yP(ha:PE X a ta)(hb:PE X (.BoolOp .And (b::rest) pos) tb):PE X (.BoolOp .And (a::b::rest) pos) (uY ta tb):=by
 intro pins s U H Q I h;refine BoolOp_and (thn (ha pins s U H _ I h) fun v s1 zz=>?_);obtain⟨x,H1,I1,r1,q1⟩:=zz;obtain⟨c,rfl,q1⟩:=q1;cases r1;refine wpAny_truthy_bool ?_;cases c with
 | true=>exact hb pins s1 U H1 Q I1 q1
 | false=>exact⟨.bl false,H1,I1,rfl,q1⟩
theorem A3(ha:PE X a ta)(hb:PE X (.BoolOp .Or (b::rest) pos) tb):PE X (.BoolOp .Or (a::b::rest) pos) (zt ta tb):=by
 intro pins s U H Q I h;refine BoolOp_or (thn (ha pins s U H _ I h) fun v s1 zz=>?_);obtain⟨x,H1,I1,r1,q1⟩:=zz;obtain⟨c,rfl,q1⟩:=q1;cases r1;refine wpAny_truthy_bool ?_;cases c with
 | false=>exact hb pins s1 U H1 Q I1 q1
 | true=>exact⟨.bl true,H1,I1,rfl,q1⟩
theorem zv(ha:PE X a ta):PE X (.UnaryOp .Not a pos) (uQ ta):=by
 intro pins s U H Q I h;refine UnaryOp_ (thn (ha pins s U H _ I h) fun v s1 zz=>?_);obtain⟨x,H1,I1,r1,q1⟩:=zz;obtain⟨c,rfl,q1⟩:=q1;cases r1;exact not_of (wpAny_truthy_bool ⟨.bl (!c),H1,I1,rfl,q1⟩)
def tIf(t:TT)(ta tb:TE):TE:=fun U H Q=>t U H fun c H1=>if c=true then ta U H1 Q else tb U H1 Q
theorem uS{c:Expr}(hc:PT X c tA)(ha:PE X a ta)(hb:PE X b tb):PE X (.IfExp c a b pos) (tIf tA ta tb):=by
 intro pins s U H Q I h;refine wpAny_IfExp (thn (hc pins s U H _ I h) fun d s1 zz=>?_);obtain⟨H1,I1,q1⟩:=zz;cases d with
 | true=>exact ha pins s1 U H1 Q I1 q1
 | false=>exact hb pins s1 U H1 Q I1 q1
end
end L2
namespace L2
open PySem PySem.Spec PyProof.Rows
def SqL(K:W.Frag)(H:Hp)(a:Addr)(xs:List V):Prop:=
 Rd H a (.lst xs) ∨
  ∃(o:Obj) (its:Array Value) (n:Nat),K.lookup a=some o/\o.cls=.type "list" /\ o.dict=none/\o.data=.seq its n/\its.size<=sizeLine/\aH xs its.toList
def SqT(K:W.Frag)(H:Hp)(a:Addr)(xs:List V):Prop:=
 Rd H a (.tup xs) ∨
  ∃(o:Obj) (its:Array Value) (n:Nat),K.lookup a=some o/\o.cls=.type "tuple" /\ o.data=.seq its n/\its.size<=sizeLine/\aH xs its.toList
def CP:Value->Option V
 | .none=>some .non
 | .bool b=>some (.bl b)
 | .int i _=>some (.int i)
 | .str x _=>some (.str x)
 | .bytes b _=>some (.byt b)
 | .float b _=>some (.flt b)
 | .ref a=>some (.ref a)
 | .type n=>some (.ty n)
 | _=>none
theorem aJ.abs{x:V}{u:Value}(r:aJ x u):CP u=some x:=by
 cases x with
 | non=>cases r;rfl
 | bl _=>cases r;rfl
 | int _=>obtain⟨t,rfl⟩:=r;rfl
 | str _=>obtain⟨t,rfl⟩:=r;rfl
 | byt _=>obtain⟨t,rfl⟩:=r;rfl
 | flt _=>obtain⟨t,rfl⟩:=r;rfl
 | ref _=>cases r;rfl
 | ty _=>cases r;rfl
theorem aJ.inj{x y:V}{u:Value}(r:aJ x u)(q:aJ y u):x=y:=Option.some.inj (r.abs.symm.trans q.abs)
theorem aH.inj:∀{xs ys:List V}{us:List Value},aH xs us->aH ys us->xs=ys
 | _,_,_,.nil,.nil=>rfl
 | _,_,_,.cons r t,.cons r' t'=>by rw[r.inj r',aH.inj t t']
section
variable{X:Cx}{pins:List (Addr×Obj)}{U:St}{H:Hp}{s:Shared}{a:Addr}{xs ys:List V}
theorem SqL.of{K:W.Frag}(h:H a=some (.lst xs)):SqL K H a xs:=.inl (.inl h)
theorem SqT.of{K:W.Frag}(h:H a=some (.tup xs)):SqT K H a xs:=.inl (.inl h)
theorem Inv.list(I:Inv X pins U H s)(h:SqL X.K H a xs):∃ its:List Value,aH xs its/\PlainL s.heap a its.toArray/\xs.length<=sizeLine:=by
 rcases h with h | ⟨o,its,n,hk,hc,hd,hs,hz,r⟩
 . obtain⟨z,its,n,r,e⟩:=h.ok I.hok
   exact⟨its,r,⟨_,n,e,rfl,rfl,rfl⟩,z⟩
 refine⟨its.toList,r,⟨o,n,I.kIn a o hk,hc,hd,by simpa using hs⟩,?_⟩
 have e:=r.length;simp only[Array.length_toList]at e;omega
theorem Inv.tuple(I:Inv X pins U H s)(h:SqT X.K H a xs):∃ its:List Value,aH xs its/\IsTup s.heap a its.toArray/\xs.length<=sizeLine:=by
 rcases h with h | ⟨o,its,n,hk,hc,hs,hz,r⟩
 . obtain⟨z,its,r,p⟩:=h.ok I.hok
   exact⟨its,r,p,z⟩
 refine⟨its.toList,r,⟨o,I.kIn a o hk,hc,n,by simpa using hs⟩,?_⟩
 have e:=r.length;simp only[Array.length_toList]at e;omega
theorem Inv.list_inj(I:Inv X pins U H s)(h:SqL X.K H a xs)(h':SqL X.K H a ys):xs=ys:=by
 obtain⟨its,r,⟨o,n,e,_,_,d⟩,_⟩:=I.list h;obtain⟨its',r',⟨o',n',e',_,_,d'⟩,_⟩:=I.list h';rw[e]at e';cases e';rw[d]at d';injection d' with d1 _;have:its=its':=by simpa using congrArg Array.toList d1
 subst this;exact r.inj r'
theorem Inv.tuple_inj(I:Inv X pins U H s)(h:SqT X.K H a xs)(h':SqT X.K H a ys):xs=ys:=by
 obtain⟨its,r,⟨o,e,_,n,d⟩,_⟩:=I.tuple h;obtain⟨its',r',⟨o',e',_,n',d'⟩,_⟩:=I.tuple h';rw[e]at e';cases e';rw[d]at d';injection d' with d1 _;have:its=its':=by simpa using congrArg Array.toList d1
 subst this;exact r.inj r'
end
abbrev Cx.wish(X:Cx)(E:Value->Shared->Prop):Cx:={ X with xe:=E }
abbrev Cx.nox(X:Cx):Cx:=X.wish fun _ _=>False
theorem Cx.Ok.wish{X:Cx}(ok:X.Ok)(E:Value->Shared->Prop):(X.wish E).Ok:=
 ⟨ok.mod,ok.kind,ok.glob,ok.blt,ok.above,ok.inj,ok.has,ok.cab,ok.hd,ok.frames,ok.stk,ok.exf,ok.bs,ok.bsz,ok.noex,ok.exfs,ok.funs,ok.frf⟩
theorem Cx.Ok.unwish{X:Cx}{E:Value->Shared->Prop}(ok:(X.wish E).Ok):X.Ok:=
 ⟨ok.mod,ok.kind,ok.glob,ok.blt,ok.above,ok.inj,ok.has,ok.cab,ok.hd,ok.frames,ok.stk,ok.exf,ok.bs,ok.bsz,ok.noex,ok.exfs,ok.funs,ok.frf⟩
section
variable{X:Cx}{pins:List (Addr×Obj)}{U:St}{H:Hp}{s:Shared}{E:Value->Shared->Prop}
theorem Inv.wish(I:Inv X pins U H s)(E:Value->Shared->Prop):Inv (X.wish E) pins U H s:=⟨I.ok.wish E,I.os,I.bare,I.base,I.loc,I.cell,I.free,I.freeC,I.pin,I.hok,I.len⟩
theorem Inv.unwish(I:Inv (X.wish E) pins U H s):Inv X pins U H s:=⟨I.ok.unwish,I.os,I.bare,I.base,I.loc,I.cell,I.free,I.freeC,I.pin,I.hok,I.len⟩
theorem SP.unwish{D:fJ}{f:Flow}{s':Shared}(h:SP (X.wish E) pins D f s'):SP X pins D f s':=by
 cases f with
 | next=>obtain⟨U',H',I,q⟩:=h;exact⟨U',H',I.unwish,q⟩
 | brk=>obtain⟨U',H',I,q⟩:=h;exact⟨U',H',I.unwish,q⟩
 | cont=>obtain⟨U',H',I,q⟩:=h;exact⟨U',H',I.unwish,q⟩
 | ret u=>obtain⟨v,U',H',I,r,q⟩:=h;exact⟨v,U',H',I.unwish,r,q⟩
theorem PSs.nox{st:List Stmt}{t:TS}(h:PSs X.nox st t):PSs X st t:=fun pins s U H D I hw=>
 wpAny_mono (h pins s U H D (I.wish _) hw) (fun _ _ q=>q.unwish) fun _ _ z=>False.elim z
end
section
variable{X:Cx}{st:Stmt}{rest:List Stmt}{t u:TS}{e:Expr}{te:TE}{pos:Pos}
def sF:TS:=fun D U H=>D.nx U H
def rN(t u:TS):TS:=fun D U H=>t { D with nx:=u D } U H
theorem xl:PSs X [] sF:=fun _ _ U H _ I h=>wpAny_execs_nil ⟨U,H,I,h⟩
theorem ub(h1:PS X st t)(h2:PSs X rest u):PSs X (st::rest) (rN t u):=by
 intro pins s U H D I h;refine wpAny_execs_cons (thn (h1 pins s U H { D with nx:=u D } I h) fun f s1 q=>?_);cases f with
 | next=>
   obtain⟨U',H',I',q⟩:=q;exact h2 pins s1 U' H' D I' q
 | ret v=>exact q
 | brk=>exact q
 | cont=>exact q
theorem wQ(h1:PS X st t):PSs X [st] t:=by
 intro pins s U H D I h;refine wpAny_execs_cons (thn (h1 pins s U H D I h) fun f s1 q=>?_);cases f with
 | next=>exact wpAny_execs_nil q
 | ret v=>exact q
 | brk=>exact q
 | cont=>exact q
theorem Inv.quiet{pins:List (Addr×Obj)}{U:St}{H:Hp}{s:Shared}(I:Inv X pins U H s):interactive X.env=false:=by simp[interactive,I.ok.kind]
def kK(te:TE):TS:=fun D U H=>te U H fun _ H1=>D.nx U H1
theorem vL(he:PE X e te)(hs:swapsWith e none pos.line X.env=pure false:=by rfl):PS X (.Expr e pos) (kK te):=by
 intro pins s U H D I h;exact wpAny_Expr_any (thn (he pins s U H _ I h) fun v s1 ⟨x,H1,I1,r1,q1⟩=>⟨U,H1,I1,q1⟩) I.quiet hs
def rW(te:TE):TS:=fun D U H=>te U H D.rt
theorem yf(he:PE X e te):PS X (.Return (some e) pos) (rW te):=by
 intro pins s U H D I h;exact wpAny_Return_some (thn (he pins s U H _ I h) fun v s1 ⟨x,H1,I1,r1,q1⟩=>⟨x,U,H1,I1,r1,q1⟩)
def uM:TS:=fun D _ H=>D.rt .non H
theorem xi:PS X (.Return none pos) uM:=fun _ _ U H _ I h=>wpAny_Return_none ⟨.non,U,H,I,rfl,h⟩
def zM(c:TT)(t u:TS):TS:=fun D U H=>c U H fun b H1=>if b=true then t D U H1 else u D U H1
theorem Cb{c:Expr}{a b:List Stmt}{tc:TT}(hc:PT X c tc)(ha:PSs X a t)(hb:PSs X b u):PS X (.If c a b pos) (zM tc t u):=by
 intro pins s U H D I h;refine wpAny_If (thn (hc pins s U H _ I h) fun d s1 zz=>?_);obtain⟨H1,I1,q1⟩:=zz;cases d with
 | true=>exact ha pins s1 U H1 D I1 q1
 | false=>exact hb pins s1 U H1 D I1 q1
def tT:TS:=fun _ _ _=>False
theorem tm:PS X st tT:=fun _ _ _ _ _ _ h=>h.elim
end
abbrev TG:=V->St->Hp->(St->Hp->Prop)->Prop
abbrev TGs:=List V->St->Hp->(St->Hp->Prop)->Prop
def PG(X:Cx)(target:Expr)(t:TG):Prop:=
 ∀(pins:List (Addr×Obj)) (s:Shared) (U:St) (H:Hp) (v:V) (u:Value) (Q:St->Hp->Prop),Inv X pins U H s->aJ v u->t v U H Q ->
   wpAny (model X.prog X.w) X.A (assign target X.env u) (fun _ s'=>∃ U' H',Inv X pins U' H' s'/\Q U' H') X.xe s
def PGs(X:Cx)(ts:List Expr)(t:TGs):Prop:=
 ∀(pins:List (Addr×Obj)) (s:Shared) (U:St) (H:Hp) (vs:List V) (us:List Value) (Q:St->Hp->Prop),Inv X pins U H s->aH vs us->t vs U H Q ->
   wpAny (model X.prog X.w) X.A (assignInOrder ((assignEach ts X.env).map (·.2)) us) (fun _ s'=>∃ U' H',Inv X pins U' H' s'/\Q U' H') X.xe s
abbrev vn:=V->V->V->Hp->(Hp->Prop)->Prop
def zI(X:Cx)(t:vn):Prop:=
 ∀(pins:List (Addr×Obj)) (s:Shared) (U:St) (H:Hp) (o i v:V) (ov iv u:Value) (Q:Hp->Prop),Inv X pins U H s->aJ o ov->aJ i iv->aJ v u->t o i v H Q ->
   wpAny (model X.prog X.w) X.A (setItem ov iv u) (fun _ s'=>∃ H',Inv X pins U H' s'/\Q H') X.xe s
section
variable{X:Cx}{pos:Pos}
def iB(i:Nat):TG:=fun v U H Q=>Q (U.set i (some v)) H
theorem iO{i:Nat}{x:Str}(hN:X.N.Nodup)(hi:X.N[i]?=some x)(hx:Loc X.env.scope x)(hf:X.fn x=true∨X.env.scope.names.lookup x=some .local:=by first | exact .inl rfl | exact .inr rfl | assumption):PG X (.Name x pos) (iB i):=by
 intro pins s U H v u Q I r h;exact wpAny_assign_Name (mZ I hN hi hx r (fun s' I'=>⟨_,H,I',h⟩) hf)
def AO:TGs:=fun vs U H Q=>vs=[]/\Q U H
def xN(t:TG)(u:TGs):TGs:=fun vs U H Q=>∃ v r,vs=v::r/\t v U H fun U' H'=>u r U' H' Q
theorem wb:PGs X [] AO:=by
 intro pins s U H vs us Q I r h;obtain⟨e,h⟩:=h;subst e;cases r;exact assignInOrder_nil ⟨U,H,I,h⟩
theorem ud{e:Expr}{es:List Expr}{t:TG}{u:TGs}(h1:PG X e t)(h2:PGs X es u)
 (hs:(assignEach (e::es) X.env).map (·.2)=assign e X.env::(assignEach es X.env).map (·.2):=by rfl):PGs X (e::es) (xN t u):=by
 intro pins s U H vs us Q I r h;obtain⟨v,vr,e1,h⟩:=h;subst e1;cases r with
 | cons r rr=>
   rw[hs];refine assignInOrder_cons (thn (h1 pins s U H _ _ _ I r h) fun _ s1 zz=>?_);obtain⟨U1,H1,I1,q1⟩:=zz;exact h2 pins s1 U1 H1 _ _ Q I1 rr q1
def yd(K:W.Frag)(n:Nat)(t:TGs):TG:=fun v U H Q=>∃ a xs,v=.ref a/\SqT K H a xs/\xs.length=n/\t xs U H Q
theorem vG{es:List Expr}{k:Nat}{t:TGs}{n:Nat}(hc:X.calm=true)(h:PGs X es t)
 (hn:(assignEach es X.env).length=n:=by rfl) (hst:(assignEach es X.env).findIdx? (·.1)=none:=by rfl):PG X (.Tuple es k pos) (yd X.K n t):=by
 intro pins s U H v u Q I r hw;obtain⟨a,xs,e1,hq,hl,hw⟩:=hw;subst e1;cases r;obtain⟨its,rv,ht,hz⟩:=I.tuple hq;refine assign_Tuple_tuple (I.ok.hd hc) ht (by simp[hn,← hl,rv.length]) hst fun h' hx=>?_
 have I1:Inv X pins U H { s with heap:=h' }:=I.kept (t':=s.toks) fun b o e=>hx b o (Nat.ne_of_lt (Heap.lt_size e)) e;exact h pins _ U H xs _ Q I1 (by simpa using rv) hw
def zw(to ti:TE)(t:vn):TG:=fun v U H Q=>to U H fun o H1=>ti U H1 fun i H2=>t o i v H2 fun H3=>Q U H3
theorem zm{o i:Expr}{to ti:TE}{t:vn}(ho:PE X o to)(hi:PE X i ti)(hs:zI X t)
 (ha:∀ v,assign (.Subscript o i pos) X.env v=(do
  let ov ← holding [v] (eval o X.env)
  let iv ← holding [v,ov] (eval i X.env)
  standAt pos
  holding [v,ov,iv] (setItem ov iv v)
  release [v,ov,iv] []):=by intro _;rfl):PG X (.Subscript o i pos) (zw to ti t):=by
 intro pins s U H v u Q I r h;rw[ha];refine wpAny_bind (wpAny_holding (thn (ho pins s U H _ I h) fun ov s1 zz=>?_));obtain⟨x,H1,I1,r1,q1⟩:=zz;refine wpAny_bind (wpAny_holding (thn (hi pins s1 U H1 _ I1 q1) fun iv s2 zz=>?_));obtain⟨y,H2,I2,r2,q2⟩:=zz;refine wpAny_bind (wpAny_standAt (wpAny_bind (wpAny_holding (thn (hs pins s2 U H2 x y v ov iv u _ I2 r1 r2 r q2) fun _ s3 zz=>?_))));obtain⟨H3,I3,q3⟩:=zz;exact wpAny_release ⟨U,H3,I3,q3⟩
def vf(te:TE)(g:TG):TS:=fun D U H=>te U H fun x H1=>g x U H1 D.nx
theorem yJ{tg e:Expr}{te:TE}{g:TG}(he:PE X e te)(hg:PG X tg g)(hs:swapsWithSole [tg] e pos.line X.env=pure false:=by rfl)(hw:swappedStores [tg] e X.env=pure none:=by rfl)
 (h1:(assignEach [tg] X.env).map (·.2)=[assign tg X.env]:=by rfl):PS X (.Assign [tg] e pos) (vf te g):=by
 intro pins s U H D I h;refine wpAny_Assign_stores (thn (he pins s U H _ I h) fun v s1 ⟨x,H1,I1,r1,q1⟩=>?_) hs hw;rw[h1];exact thn (hg pins s1 U H1 x v _ I1 r1 q1) fun _ s2 q=>q
theorem An{i:Nat}{x:Str}{e:Expr}{te:TE}{pos':Pos}(hN:X.N.Nodup)(hi:X.N[i]?=some x)(hx:Loc X.env.scope x)(he:PE X e te)(hs:swapsWith e (some (.Name x pos')) pos.line X.env=pure false:=by rfl)(hf:X.fn x=true∨X.env.scope.names.lookup x=some .local:=by first | exact .inl rfl | exact .inr rfl | assumption) :
 PS X (.Assign [.Name x pos'] e pos) (vf te (iB i)):=by
 intro pins s U H D I h;refine wpAny_Assign_Name (thn (he pins s U H _ I h) fun v s1 ⟨y,H1,I1,r1,q1⟩=>?_) hs;exact mZ I1 hN hi hx r1 (fun s2 I2=>⟨_,H1,I2,q1⟩) hf
end
section
variable{X:Cx}{pos:Pos}
end
structure It where
 go:Nat->Hp->Prop
 yld:Nat->Hp->V->Hp->Prop
 stop:Nat->Hp->Prop
def eF(X:Cx)(pins:List (Addr×Obj))(H:Hp)(b:Addr):Prop:=
 H b=none/\b≠X.env.locals/\b∉X.fs/\(b∈X.ex∨X.s₀.heap.objs.size<=b)/\(∀ x c,X.env.cells.lookup x=some c->c≠b) /\ ∀ p∈X.pn++pins,p.1≠b
theorem Inv.fpOk{X:Cx}{pins:List (Addr×Obj)}{U:St}{H H':Hp}{s:Shared}{b:Addr}(I:Inv X pins U H s)(hb:s.heap.objs.size<=b)(hn:H' b=none):eF X pins H' b:=by
 refine⟨hn,Nat.ne_of_gt (Nat.lt_of_lt_of_le I.lt hb),I.nofs hb,.inr (Nat.le_trans I.sz hb),fun x c e z=>?_,fun p hp z=>?_⟩
 . obtain⟨v,q⟩:=I.cell x c e
   exact absurd (Nat.lt_of_lt_of_le q.lt (by rw[z];exact hb)) (Nat.lt_irrefl _)
 exact absurd (Nat.lt_of_lt_of_le (Heap.lt_size (I.pin p hp).1) (by rw[z];exact hb)) (Nat.lt_irrefl _)
structure oJ(P:Program)(w:World)(K:W.Frag)(tg:Expr)(J:It)(fp:List Addr)(it:Addr)(tn:Nat->Heap->Prop):Prop where
 mem:it∈fp
 obj:∀ i h,tn i h -> ∀ b∈fp,∃ o,h.get? b=some o /\ ∀ v,o.data ≠ .cell v
 keep:∀ i h h',tn i h->(∀ b∈fp,∀ o,h.get? b=some o->h'.get? b=some o)->tn i h'
 item:∀(X:Cx),X.prog=P->X.w=w->X.K=K->X.calm=true -> ∀(i:Nat) (pins:List (Addr×Obj)) (s:Shared) (U:St) (H:Hp) (E:Value->Shared->Prop),Inv X pins U H s->(∀ b∈fp,eF X pins H b)->tn i s.heap->J.go i H ->
  wpAny (model P w) X.A (pyNext (.ref it)) (fun r s1=>∃ u,r=some u /\
   wpAny (model P w) X.A (letOwnedTupleGo tg (.ref it) u) (fun _ s2=>∃ x H',Inv X pins U H' s2/\aJ x u/\J.yld i H x H'/\tn (i+1) s2.heap /\ ∀ b∈fp,H' b=none) E s1) E s
 done:∀(X:Cx),X.prog=P->X.w=w->X.K=K->X.calm=true -> ∀(i:Nat) (pins:List (Addr×Obj)) (s:Shared) (U:St) (H:Hp) (E:Value->Shared->Prop),Inv X pins U H s->(∀ b∈fp,eF X pins H b)->tn i s.heap->J.stop i H ->
  wpAny (model P w) X.A (pyNext (.ref it)) (fun r s1=>r=none/\Inv X pins U H s1) E s
 self:∀(A:Around) (i:Nat) (s:Shared) (Q:Value->Shared->Prop) (E:Value->Shared->Prop),tn i s.heap->Q (.ref it) s->wpAny (model P w) A (pyIter (.ref it)) Q E s
abbrev TI:=St->Hp->(It->Hp->Prop)->Prop
def PIE(X:Cx)(pins:List (Addr×Obj))(U:St)(tg:Expr)(R:It->Hp->Prop)(itv:Value)(s2:Shared):Prop:=
 ∃(it:Addr) (fp:List Addr) (tn:Nat->Heap->Prop) (J:It) (H':Hp),itv=.ref it/\Inv X pins U H' s2/\oJ X.prog X.w X.K tg J fp it tn/\tn 0 s2.heap/\(∀ b∈fp,eF X pins H' b)/\R J H'
def PI(X:Cx)(tg iter:Expr)(wi:TI):Prop:=
 ∀(pins:List (Addr×Obj)) (s:Shared) (U:St) (H:Hp) (R:It->Hp->Prop),Inv X pins U H s->wi U H R ->
   wpAny (model X.prog X.w) X.A (eval iter X.env) (fun v s1=>wpAny (model X.prog X.w) X.A (pyIter v) (PIE X pins U tg R) X.xe s1) X.xe s
theorem qa{M:Model}{A:Around}{E:Value->Shared->Prop}{s:Shared}{tg:Expr}{it:Addr}{u:Value}{o:Obj}{n:String}{vs:Array Value}{Q:Unit->Shared->Prop}(ho:s.heap.get? it=some o)(hc:o.cls=.type n)(hd:o.data=.fields vs)
 (hn:["enumerate","zip","dict_itemiterator","dict_reverseitemiterator","odict_iterator","itertools.zip_longest","itertools.pairwise"].contains n=false) (hQ:Q () s):wpAny M A (letOwnedTupleGo tg (.ref it) u) Q E s:=by
 unfold letOwnedTupleGo;cases tg <;> first
  | exact wpAny_pure hQ
  | (cases u <;> first
   | exact wpAny_pure hQ
   | (refine wpAny_bind (wpAny_load ho ?_)
      rw[hc,hd];show wpAny M A (if(["enumerate","zip","dict_itemiterator","dict_reverseitemiterator","odict_iterator","itertools.zip_longest","itertools.pairwise"].contains n && vs[0]? == some (rawInt _))=true then _ else _) Q E s;rw[if_neg (by intro h;rw[hn,Bool.false_and]at h;cases h)]
      exact wpAny_pure hQ))
def Itl(K:W.Frag)(a:Addr):It:=
 ⟨fun i H=>∃ xs x,SqL K H a xs/\xs[i]?=some x,fun i H x H'=>H'=H /\ ∀ xs,SqL K H a xs->xs[i]?=some x,fun i H=>∃ xs,SqL K H a xs/\xs.length<=i⟩
def Itt(K:W.Frag)(a:Addr):It:=
 ⟨fun i H=>∃ xs x,SqT K H a xs/\xs[i]?=some x,fun i H x H'=>H'=H /\ ∀ xs,SqT K H a xs->xs[i]?=some x,fun i H=>∃ xs,SqT K H a xs/\xs.length<=i⟩
def Itr(lo:Int)(n:Nat):It:=⟨fun i _=>i < n,fun i H x H'=>H'=H/\x=.int (lo+i),fun i _=>n<=i⟩
theorem rL{P:Program}{w:World}{K:W.Frag}{tg:Expr}(a it:Addr):oJ P w K tg (Itl K a) [it] it (fun i h=>h.IsListIter it a i) where
 mem:=by simp
 obj:=fun i h st b hb=>by
  have e:b=it:=by simpa using hb
  subst e;obtain⟨o,e,c,d⟩:=st;exact⟨o,e,fun v z=>by rw[d]at z;cases z⟩
 keep:=fun i h h' st k=>st.at fun o e=>k it (by simp) o e
 item:=by
  intro X hP hw hK hc i pins s U H E I hf st hg;subst hP hw hK;obtain⟨xs,x,hq,hx⟩:=hg;obtain⟨its,rv,p,hz⟩:=I.list hq;obtain⟨u,hu,ru⟩:=rv.get hx;obtain⟨f0,f1,f2,f3,f4,f5⟩:=hf it (by simp)
  refine wpAny_pyNext_list_item st p.isList (x:=u) (by simpa using hu) fun h' st' sb=>?_
  have I1:Inv X pins U H { s with heap:=h' }:=I.turned (t':=s.toks) (fun b o hb e=>(sb.2 b hb).trans e) f0 f1 f3 f4 f5;obtain⟨o,e,c,d⟩:=id st';exact⟨u,rfl,qa (s:={ s with heap:=h' }) e c d (by decide) ⟨x,H,I1,ru,⟨rfl,fun ys hy=>by rw[I.list_inj hy hq];exact hx⟩,st',fun b hb=>(hf b hb).1⟩⟩
 done:=by
  intro X hP hw hK hc i pins s U H E I hf st hg;subst hP hw hK;obtain⟨xs,hq,hx⟩:=hg;obtain⟨its,rv,p,hz⟩:=I.list hq;obtain⟨f0,f1,f2,f3,f4,f5⟩:=hf it (by simp)
  have hl:=rv.length;exact wpAny_pyNext_list_end (I.ok.hd hc) st p.isList (by simp;omega) fun h' eb=>⟨rfl,I.turned (t':=s.toks) (fun b o hb e=>eb b o hb e) f0 f1 f3 f4 f5⟩
 self:=fun _ _ _ _ _ st h=>wpAny_pyIter_listiter st h
theorem oS{P:Program}{w:World}{K:W.Frag}{tg:Expr}(a it:Addr):oJ P w K tg (Itt K a) [it] it (fun i h=>h.IsTupleIter it a i) where
 mem:=by simp
 obj:=fun i h st b hb=>by
  have e:b=it:=by simpa using hb
  subst e;obtain⟨o,e,c,d⟩:=st;exact⟨o,e,fun v z=>by rw[d]at z;cases z⟩
 keep:=fun i h h' st k=>st.at fun o e=>k it (by simp) o e
 item:=by
  intro X hP hw hK hc i pins s U H E I hf st hg;subst hP hw hK;obtain⟨xs,x,hq,hx⟩:=hg;obtain⟨its,rv,p,hz⟩:=I.tuple hq;obtain⟨u,hu,ru⟩:=rv.get hx;obtain⟨f0,f1,f2,f3,f4,f5⟩:=hf it (by simp)
  refine wpAny_pyNext_tuple_item st (show s.heap.IsTuple a its.toArray from p) (x:=u) (by simpa using hu) fun h' st' sb=>?_
  have I1:Inv X pins U H { s with heap:=h' }:=I.turned (t':=s.toks) (fun b o hb e=>(sb.2 b hb).trans e) f0 f1 f3 f4 f5;obtain⟨o,e,c,d⟩:=id st';exact⟨u,rfl,qa (s:={ s with heap:=h' }) e c d (by decide) ⟨x,H,I1,ru,⟨rfl,fun ys hy=>by rw[I.tuple_inj hy hq];exact hx⟩,st',fun b hb=>(hf b hb).1⟩⟩
 done:=by
  intro X hP hw hK hc i pins s U H E I hf st hg;subst hP hw hK;obtain⟨xs,hq,hx⟩:=hg;obtain⟨its,rv,p,hz⟩:=I.tuple hq;obtain⟨f0,f1,f2,f3,f4,f5⟩:=hf it (by simp)
  have hl:=rv.length;exact wpAny_pyNext_tuple_end (I.ok.hd hc) st (show s.heap.IsTuple a its.toArray from p) (by simp;omega) fun h' eb=>⟨rfl,I.turned (t':=s.toks) (fun b o hb e=>eb b o hb e) f0 f1 f3 f4 f5⟩
 self:=fun _ _ _ _ _ st h=>wpAny_pyIter_tupleiter st h
theorem oT{P:Program}{w:World}{K:PySem.W.Frag}{tg:Expr}(it:Addr)(lo:Int)(n:Nat):oJ P w K tg (Itr lo n) [it] it (fun i h=>IsRangeIter h it (lo+(i:Nat)*1) ((n:Int) - (i:Nat)) 1) where
 mem:=by simp
 obj:=fun i h st b hb=>by
  have e:b=it:=by simpa using hb
  subst e;exact⟨_,st,fun v z=>by
   have z':Data.fields _=Data.cell v:=z;cases z'⟩
 keep:=fun i h h' st k=>k it (by simp) _ st
 item:=by
  intro X hP hw hK hc i pins s U H E I hf st hg;subst hP hw hK;obtain⟨f0,f1,f2,f3,f4,f5⟩:=hf it (by simp)
  have W:=Walks.range (prog:=X.prog) (w:=X.w) (I.ok.hd hc) it lo 1 n;refine W.item i s _ _ hg st fun v h' tk hv st' kk=>?_;obtain⟨t,rfl⟩:=hv;have I1:Inv X pins U H { s with heap:=h',toks:=tk }:=I.turned (fun b o hb e=>kk b o (by simpa using hb) e) f0 f1 f3 f4 f5
  refine⟨_,rfl,qa (s:={ s with heap:=h',toks:=tk }) (n:="range_iterator") st' rfl rfl (by decide) ⟨.int (lo+i),H,I1,⟨t,?_⟩,⟨rfl,rfl⟩,st',fun b hb=>(hf b hb).1⟩⟩
  rw[Int.mul_one]
 done:=by
  intro X hP hw hK hc i pins s U H E I hf st hg;subst hP hw hK;obtain⟨f0,f1,f2,f3,f4,f5⟩:=hf it (by simp)
  exact wpAny_pyNext_range_end (I.ok.hd hc) st (by have:n<=i:=hg;omega) fun h' eb=>⟨rfl,I.turned (t':=s.toks) (fun b o hb e=>eb b o hb e) f0 f1 f3 f4 f5⟩
 self:=fun _ _ _ _ _ st h=>wpAny_pyIter_rangeiter st h
end L2
namespace L2
open PySem PySem.Spec PyProof.Rows
section
variable{X:Cx}{tg:Expr}
def tY(K:W.Frag)(tl:TE):TI:=fun U H R=>tl U H fun x H1=>∃ a,x=.ref a/\(∃ xs,SqL K H1 a xs)/\R (Itl K a) H1
def yT(K:W.Frag)(tl:TE):TI:=fun U H R=>tl U H fun x H1=>∃ a,x=.ref a/\(∃ xs,SqT K H1 a xs)/\R (Itt K a) H1
theorem xj{l:Expr}{tl:TE}(hl:PE X l tl):PI X tg l (tY X.K tl):=by
 intro pins s U H R I h;refine thn (hl pins s U H _ I h) fun v s1 zz=>?_;obtain⟨x,H1,I1,r1,q1⟩:=zz;obtain⟨a,e,⟨xs,hq⟩,q⟩:=q1;subst e;cases r1;obtain⟨its,rv,p,hz⟩:=I1.list hq;refine wpAny_pyIter_list p.isList ?_;refine⟨s1.heap.objs.size,[s1.heap.objs.size],_,_,H1,rfl,I1.kept (t':=s1.toks) fun b o e=>Heap.get?_push_of_some _ e,rL a _,⟨_,Heap.get?_push_size _ rfl,rfl,rfl⟩,fun b hb=>?_,q⟩;have e:b=s1.heap.objs.size:=by simpa using hb
 subst e;exact I1.fpOk (Nat.le_refl _) (I1.hok.fresh (Nat.le_refl _))
theorem zi{l:Expr}{tl:TE}(hl:PE X l tl):PI X tg l (yT X.K tl):=by
 intro pins s U H R I h;refine thn (hl pins s U H _ I h) fun v s1 zz=>?_;obtain⟨x,H1,I1,r1,q1⟩:=zz;obtain⟨a,e,⟨xs,hq⟩,q⟩:=q1;subst e;cases r1;obtain⟨its,rv,p,hz⟩:=I1.tuple hq;refine wpAny_pyIter_tuple (show s1.heap.IsTuple a its.toArray from p) ?_;refine⟨s1.heap.objs.size,[s1.heap.objs.size],_,_,H1,rfl,I1.kept (t':=s1.toks) fun b o e=>Heap.get?_push_of_some _ e,oS a _,⟨_,Heap.get?_push_size _ rfl,rfl,rfl⟩,fun b hb=>?_,q⟩;have e:b=s1.heap.objs.size:=by simpa using hb
 subst e;exact I1.fpOk (Nat.le_refl _) (I1.hok.fresh (Nat.le_refl _))
theorem tJ{pins:List (Addr×Obj)}{U:St}{H:Hp}{s:Shared}{R:It->Hp->Prop}{E:Value->Shared->Prop}{lo hi:Int}{t u v:Tok}{tk:Nat}(I:Inv X pins U H s)(h1:-(2 ^ 62)<=lo)(h2:lo < 2 ^ 62)(h3:-(2 ^ 62)<=hi)(h4:hi < 2 ^ 62)
 (q:R (Itr lo (hi - lo).toNat) H):wpAny (model X.prog X.w) X.A (pyIter (.ref s.heap.objs.size)) (PIE X pins U tg R) E { s with heap:=s.heap.push { cls:=.type "range",data:=.fields #[.int lo t,.int hi u,.int 1 v] },toks:=tk }:=by
 refine wpAny_pyIter_range (IsRange.new ..) (small_one h1 h2 h3 h4) ?_;have I1:Inv X pins U H { s with heap:=s.heap.push { cls:=.type "range",data:=.fields #[.int lo t,.int hi u,.int 1 v] },toks:=tk }:=I.kept fun b o e=>Heap.get?_push_of_some _ e;refine⟨(s.heap.push { cls:=.type "range",data:=.fields #[.int lo t,.int hi u,.int 1 v] }).objs.size,[(s.heap.push { cls:=.type "range",data:=.fields #[.int lo t,.int hi u,.int 1 v] }).objs.size],_,_,H,rfl,
  I1.kept (t':=tk) fun b o e=>Heap.get?_push_of_some _ e,oT _ lo (hi - lo).toNat,?_,fun b hb=>?_,q⟩
 . have e1:lo+((0:Nat):Int)*1=lo:=by simp
   have e2:(((hi - lo).toNat:Nat):Int) - ((0:Nat):Int)=Builtin.Range.rangeSize lo hi 1:=by rw[rangeSize_one];split <;> omega
   show IsRangeIter _ _ (lo+((0:Nat):Int)*1) ((((hi - lo).toNat:Nat):Int) - ((0:Nat):Int)) 1;rw[e1,e2];exact Heap.get?_push_size _ rfl
 have e:b=(s.heap.push { cls:=.type "range",data:=.fields #[.int lo t,.int hi u,.int 1 v] }).objs.size:=by simpa using hb
 subst e;exact I1.fpOk (Nat.le_refl _) (I1.hok.fresh (Nat.le_refl _))
def qp(ta:TA):TI:=fun U H R=>ta U H fun vs H1=>∃ j:Int,vs=[.int j] /\ -(2 ^ 62)<=j/\j < 2 ^ 62/\R (Itr 0 j.toNat) H1
theorem rQ{a:Expr}{ta:TA}{p pos:Pos}(hg:Gl X "range")(hm:X.mg "range"=none)(ha:PA X [a] ta)(hs:starEach [a] X.env=[(false,eval a X.env)]:=by rfl):PI X tg (.Call (.Name "range" p) [a] [] pos) (qp ta):=by
 intro pins s U H R I h;refine Call_ (je I hg hm boot_range (PyProof.Rows.callWith_type1 (thn (ha pos pins s U H _ I h) fun us s1 ⟨vs,H1,I1,r1,q1⟩=>?_) hs rfl));obtain⟨j,e,q1,q2,q⟩:=q1;subst e;cases r1 with
 | cons r rr=>
   cases rr;obtain⟨t,rfl⟩:=r;exact call_range_1 (tJ I1 (by omega) (by omega) q1 q2 (by simpa using q))
def y_(wi:TI)(g:TG)(tb:TS):TS:=fun D U H=>wi U H fun J H1=>∃ W:Nat->Nat->St->Hp->Prop,(∃ m,W 0 m U H1) /\ ∀ i m U H,W i m U H ->
 (J.stop i H/\D.nx U H)∨(J.go i H /\ ∃ N:St->Hp->Prop,(∀ U' H',N U' H' -> ∃ m',m' < m/\W (i+1) m' U' H') /\ ∀ x H',J.yld i H x H'->g x U H' fun U2 H2=>tb { D with nx:=N,ct:=N,bk:=D.nx } U2 H2)
def hZ(fp:List Addr)(h:Heap):List (Addr×Obj):=fp.filterMap fun b=>(h.get? b).map fun o=>(b,o)
theorem cz{fp:List Addr}{h:Heap}{b:Addr}{o:Obj}(hb:b∈fp)(e:h.get? b=some o):(b,o)∈hZ fp h:=List.mem_filterMap.mpr ⟨b,hb,by rw[e];rfl⟩
theorem qD{fp:List Addr}{h:Heap}{p:Addr×Obj}(hp:p∈hZ fp h):p.1∈fp/\h.get? p.1=some p.2:=by
 obtain⟨b,hb,e⟩:=List.mem_filterMap.mp hp;cases q:h.get? b with
 | none=>rw[q]at e;cases e
 | some o=>
   rw[q]at e;have e':(b,o)=p:=Option.some.inj e;subst e';exact⟨hb,q⟩
theorem Inv.pinned{pins:List (Addr×Obj)}{U:St}{H:Hp}{s:Shared}{fp:List Addr}(I:Inv X pins U H s)(hf:∀ b∈fp,eF X pins H b)(ho:∀ b∈fp,∃ o,s.heap.get? b=some o /\ ∀ v,o.data ≠ .cell v):Inv X (pins++hZ fp s.heap) U H s:=
 I.pins_of fun p hp=>(List.mem_append.mp hp).elim (fun z=>I.pin p (List.mem_append_right _ z)) fun z=>by
  obtain⟨hb,e⟩:=qD z;obtain⟨f0,f1,f2,_⟩:=hf p.1 hb;obtain⟨o,e',d⟩:=ho p.1 hb;rw[e]at e';cases e';exact⟨e,f0,f1,f2,d⟩
theorem Inv.unpinned{pins pl:List (Addr×Obj)}{U:St}{H:Hp}{s:Shared}(I:Inv X (pins++pl) U H s):Inv X pins U H s:=I.pins_of fun p hp=>I.pin p (List.mem_append_right _ (List.mem_append_left _ hp))
theorem zY{iter:Expr}{body:List Stmt}{wi:TI}{g:TG}{tb:TS}{pos:Pos}(hp:PassesOwn (model X.prog X.w) X.A X.env X.xe)(hc:X.calm=true)(hi:PI X tg iter wi)(hg:PG X tg g)(hb:PSs X body tb)
 (hs:∀ x,foldedSetIterable iter X.env x=pure x:=by intro _;rfl):PS X (.For tg iter body [] pos) (y_ wi g tb):=by
 intro pins s U H D I h;refine wpAny_For (thn (hi pins s U H _ I h) fun v s1 h1=>thn h1 fun itv s2 h2=>?_) hs;obtain⟨it,fp,tn,J,H2,e,I2,T,st2,f2,W,⟨m0,w0⟩,turn⟩:=h2;subst e
 -- what stays true of the iterator's objects through the loop
 have stat:∀{H':Hp},(∀ b∈fp,H' b=none) -> ∀ b∈fp,eF X pins H' b:=fun hn b hb=>⟨hn b hb,(f2 b hb).2⟩;refine codeAny_forLoop_any (fun n s'=>∃ i U' H',Inv X pins U' H' s'/\tn i s'.heap/\(∀ b∈fp,H' b=none)/\W i n U' H') ?_ m0 ⟨0,U,H2,I2,st2,fun b hb=>(f2 b hb).1,w0⟩;rintro n s3 ⟨i,U3,H3,I3,st3,fr3,w3⟩;rcases turn i n U3 H3 w3 with ⟨stop,qn⟩ | ⟨go,N,hN,step⟩
 . refine wpAny_passesOwn hp (thn (T.done X rfl rfl rfl hc i pins s3 U3 H3 X.xe I3 (stat fr3) st3 stop) fun r s4 zz=>?_)
   obtain⟨hr,I4⟩:=zz;subst hr;exact wpAny_execs_nil ⟨U3,H3,I4,qn⟩
 refine wpAny_passesOwn hp (thn (T.item X rfl rfl rfl hc i pins s3 U3 H3 X.xe I3 (stat fr3) st3 go) fun r s4 zz=>?_);obtain⟨u,hr,h4⟩:=zz;subst hr;refine wpAny_passesOwn hp (thn h4 fun _ s5 zz=>?_);obtain⟨x,H5,I5,r5,y5,st5,fr5⟩:=zz;have I5':=I5.pinned (stat fr5) (T.obj _ _ st5);refine wpAny_passesOwn hp (thn (hg _ s5 U3 H5 x u _ I5' r5 (step x H5 y5)) fun _ s6 zz=>?_);obtain⟨U6,H6,I6,q6⟩:=zz;refine wpAny_passesOwn hp (thn (hb _ s6 U6 H6 _ I6 q6) fun f s7 q7=>?_);have again:∀{U7:St}{H7:Hp},Inv X (pins++hZ fp s5.heap) U7 H7 s7->N U7 H7 -> ∃ m,m < n /\ ∃ i U' H',Inv X pins U' H' s7/\tn i s7.heap/\(∀ b∈fp,H' b=none)/\W i m U' H':=fun {U7 H7} I7 n7=>by
  obtain⟨m',hm,w7⟩:=hN U7 H7 n7;refine⟨m',hm,i+1,U7,H7,I7.unpinned,T.keep _ _ _ st5 fun b hb o e=>(I7.pin (b,o) (List.mem_append_right _ (List.mem_append_right _ (cz hb e)))).1,fun b hb=>?_,w7⟩;obtain⟨o,e,d⟩:=T.obj _ _ st5 b hb;exact(I7.pin (b,o) (List.mem_append_right _ (List.mem_append_right _ (cz hb e)))).2.1
 cases f with
 | next=>obtain⟨U7,H7,I7,n7⟩:=q7;exact again I7 n7
 | cont=>obtain⟨U7,H7,I7,n7⟩:=q7;exact again I7 n7
 | brk=>obtain⟨U7,H7,I7,q7⟩:=q7;exact⟨U7,H7,I7.unpinned,q7⟩
 | ret v=>obtain⟨x7,U7,H7,I7,r7,q7⟩:=q7;exact⟨x7,U7,H7,I7.unpinned,r7,q7⟩
end
theorem nR{K:PySem.W.Frag}{a:Addr}{xs:List V}{g:TG}{tb:TS}{D:fJ}{U:St}{H:Hp}(Pv:Nat->St->Hp->Prop)(h0:Pv 0 U H)(hl:∀ i U H,i<=xs.length->Pv i U H->SqL K H a xs)
 (hs:∀ i x U H,xs[i]?=some x->Pv i U H->g x U H fun U2 H2=>tb { D with nx:=Pv (i+1),ct:=Pv (i+1),bk:=D.nx } U2 H2) (hd:∀ U H,Pv xs.length U H->D.nx U H) :
 ∃ W:Nat->Nat->St->Hp->Prop,(∃ m,W 0 m U H) /\ ∀ i m U H,W i m U H ->
   ((Itl K a).stop i H/\D.nx U H)∨((Itl K a).go i H /\ ∃ N:St->Hp->Prop,(∀ U' H',N U' H' -> ∃ m',m' < m/\W (i+1) m' U' H') /\ ∀ x H',(Itl K a).yld i H x H'->g x U H' fun U2 H2=>tb { D with nx:=N,ct:=N,bk:=D.nx } U2 H2):=by
 refine⟨fun i m U H=>m=xs.length - i/\i<=xs.length/\Pv i U H,⟨xs.length,by simp,Nat.zero_le _,h0⟩,?_⟩
 rintro i m U H ⟨rfl,hi,p⟩;have q:=hl i U H hi p;by_cases hlt:i < xs.length
 . refine .inr ⟨⟨xs,xs[i],q,by simp[hlt]⟩,Pv (i+1),fun U' H' p'=>⟨xs.length - (i+1),by omega,rfl,hlt,p'⟩,fun x H' y=>?_⟩
   obtain⟨e,y⟩:=y;subst e;exact hs i x U _ (y xs q) p
 have e:i=xs.length:=by omega
 subst e;exact .inl ⟨⟨xs,q,Nat.le_refl _⟩,hd U H p⟩
theorem pM{K:PySem.W.Frag}{a:Addr}{xs:List V}{g:TG}{tb:TS}{D:fJ}{U:St}{H:Hp}(Pv:Nat->St->Hp->Prop)(h0:Pv 0 U H)(hl:∀ i U H,i<=xs.length->Pv i U H->SqT K H a xs)
 (hs:∀ i x U H,xs[i]?=some x->Pv i U H->g x U H fun U2 H2=>tb { D with nx:=Pv (i+1),ct:=Pv (i+1),bk:=D.nx } U2 H2) (hd:∀ U H,Pv xs.length U H->D.nx U H) :
 ∃ W:Nat->Nat->St->Hp->Prop,(∃ m,W 0 m U H) /\ ∀ i m U H,W i m U H ->
   ((Itt K a).stop i H/\D.nx U H)∨((Itt K a).go i H /\ ∃ N:St->Hp->Prop,(∀ U' H',N U' H' -> ∃ m',m' < m/\W (i+1) m' U' H') /\ ∀ x H',(Itt K a).yld i H x H'->g x U H' fun U2 H2=>tb { D with nx:=N,ct:=N,bk:=D.nx } U2 H2):=by
 refine⟨fun i m U H=>m=xs.length - i/\i<=xs.length/\Pv i U H,⟨xs.length,by simp,Nat.zero_le _,h0⟩,?_⟩
 rintro i m U H ⟨rfl,hi,p⟩;have q:=hl i U H hi p;by_cases hlt:i < xs.length
 . refine .inr ⟨⟨xs,xs[i],q,by simp[hlt]⟩,Pv (i+1),fun U' H' p'=>⟨xs.length - (i+1),by omega,rfl,hlt,p'⟩,fun x H' y=>?_⟩
   obtain⟨e,y⟩:=y;subst e;exact hs i x U _ (y xs q) p
 have e:i=xs.length:=by omega
 subst e;exact .inl ⟨⟨xs,q,Nat.le_refl _⟩,hd U H p⟩
theorem lI{lo:Int}{n:Nat}{g:TG}{tb:TS}{D:fJ}{U:St}{H:Hp}(Pv:Nat->St->Hp->Prop)(h0:Pv 0 U H)
 (hs:∀ i U H,i < n->Pv i U H->g (.int (lo+i)) U H fun U2 H2=>tb { D with nx:=Pv (i+1),ct:=Pv (i+1),bk:=D.nx } U2 H2) (hd:∀ U H,Pv n U H->D.nx U H) :
 ∃ W:Nat->Nat->St->Hp->Prop,(∃ m,W 0 m U H) /\ ∀ i m U H,W i m U H ->
   ((Itr lo n).stop i H/\D.nx U H)∨((Itr lo n).go i H /\ ∃ N:St->Hp->Prop,(∀ U' H',N U' H' -> ∃ m',m' < m/\W (i+1) m' U' H') /\ ∀ x H',(Itr lo n).yld i H x H'->g x U H' fun U2 H2=>tb { D with nx:=N,ct:=N,bk:=D.nx } U2 H2):=by
 refine⟨fun i m U H=>m=n - i/\i<=n/\Pv i U H,⟨n,by simp,Nat.zero_le _,h0⟩,?_⟩
 rintro i m U H ⟨rfl,hi,p⟩;by_cases hlt:i < n
 . refine .inr ⟨hlt,Pv (i+1),fun U' H' p'=>⟨n - (i+1),by omega,rfl,hlt,p'⟩,fun x H' y=>?_⟩
   obtain⟨e,y⟩:=y;subst e y;exact hs i U _ hlt p
 have e:i=n:=by omega
 subst e;exact .inl ⟨Nat.le_refl _,hd U H p⟩
end L2
namespace L2
open PySem PySem.Spec PyProof.Rows
abbrev R2:=V->V->Hp->VK->Prop
def OpR(X:Cx)(f:Value->Value->Sem Value)(r:R2):Prop:=
 ∀(pins:List (Addr×Obj)) (s:Shared) (U:St) (H:Hp) (x y:V) (v u:Value) (Q:VK),Inv X pins U H s->aJ x v->aJ y u->r x y H Q ->
   wpAny (model X.prog X.w) X.A (f v u) (EP X pins U Q) X.xe s
def UnR(X:Cx)(f:Value->Sem Value)(r:V->Hp->VK->Prop):Prop:=
 ∀(pins:List (Addr×Obj)) (s:Shared) (U:St) (H:Hp) (x:V) (v:Value) (Q:VK),Inv X pins U H s->aJ x v->r x H Q ->
   wpAny (model X.prog X.w) X.A (f v) (EP X pins U Q) X.xe s
def bR(X:Cx)(f:Value)(r:List V->Hp->VK->Prop):Prop:=
 ∀(pins:List (Addr×Obj)) (s:Shared) (U:St) (H:Hp) (xs:List V) (us:List Value) (Q:VK),Inv X pins U H s->aH xs us->r xs H Q ->
   wpAny (model X.prog X.w) X.A (call f us) (EP X pins U Q) X.xe s
def tOp(r:R2)(ta tb:TE):TE:=fun U H Q=>ta U H fun x H1=>tb U H1 fun y H2=>r x y H2 Q
def tUn(r:V->Hp->VK->Prop)(ta:TE):TE:=fun U H Q=>ta U H fun x H1=>r x H1 Q
def rI(C:Int->Int->Prop)(g:Int->Int->V):R2:=fun x y H Q=>∃ i j,x=.int i/\y=.int j/\C i j/\Q (g i j) H
def rI0(g:Int->Int->V):R2:=fun x y H Q=>∃ i j,x=.int i/\y=.int j/\Q (g i j) H
def rU(g:Int->V):V->Hp->VK->Prop:=fun x H Q=>∃ i,x=.int i/\Q (g i) H
section
variable{X:Cx}{a b c:Expr}{ta tb tc:TE}{pos:Pos}
theorem zl(ha:PE X a ta)(hb:PE X b tb){pins:List (Addr×Obj)}{s:Shared}{U:St}{H:Hp}{R:V->V->Hp->Prop}(I:Inv X pins U H s)
 (h:ta U H fun x H1=>tb U H1 fun y H2=>R x y H2) {Q:Value->Shared->Prop}{f:Value->Value->Sem Value}
 (hf:∀ v u s2 x y H2,Inv X pins U H2 s2->aJ x v->aJ y u->R x y H2->wpAny (model X.prog X.w) X.A (f v u) Q X.xe s2) :
 wpAny (model X.prog X.w) X.A (eval a X.env) (fun v s₁=>wpAny (model X.prog X.w) X.A (eval b X.env) (fun u s₂=>wpAny (model X.prog X.w) X.A (f v u) Q X.xe s₂) X.xe s₁) X.xe s:=by
 refine thn (ha pins s U H _ I h) fun v s1 zz=>?_;obtain⟨x,H1,I1,r1,q1⟩:=zz;refine thn (hb pins s1 U H1 _ I1 q1) fun u s2 zz=>?_;obtain⟨y,H2,I2,r2,q2⟩:=zz;exact hf v u s2 x y H2 I2 r1 r2 q2
theorem B7{op:Operator}{r:R2}(ho:OpR X (binaryOp op) r)(ha:PE X a ta)(hb:PE X b tb):PE X (.BinOp a op b pos) (tOp r ta tb):=by
 intro pins s U H Q I h;exact wpAny_BinOp (zl ha hb I h fun v u s2 x y H2 I2 rx ry q=>ho pins s2 U H2 x y v u Q I2 rx ry q)
theorem A_{op:UnaryOp}{r:V->Hp->VK->Prop}(ho:UnR X (unaryOp op) r)(ha:PE X a ta):PE X (.UnaryOp op a pos) (tUn r ta):=by
 intro pins s U H Q I h;exact UnaryOp_ (thn (ha pins s U H _ I h) fun v s1 ⟨x,H1,I1,r1,q1⟩=>ho pins s1 U H1 x v Q I1 r1 q1)
theorem opI{f:Value->Value->Sem Value}{C:Int->Int->Prop}{g:Int->Int->Int}
 (rule:∀(i j:Int) (t u:Tok) (s:Shared) (Q:Value->Shared->Prop) (E:Value->Shared->Prop),C i j->Q (.int (g i j) s.toks) { s with toks:=s.toks+1 } -> wpAny (model X.prog X.w) X.A (f (.int i t) (.int j u)) Q E s) :
 OpR X f (rI C fun i j=>.int (g i j)):=by
 intro pins s U H x y v u Q I rx ry h;obtain⟨i,j,rfl,rfl,hc,q⟩:=h;obtain⟨t,rfl⟩:=rx;obtain⟨t',rfl⟩:=ry;exact rule i j t t' s _ _ hc ⟨.int (g i j),H,I.tok _,⟨_,rfl⟩,q⟩
theorem Bt{f:Value->Value->Sem Value}{g:Int->Int->Int}
 (rule:∀(i j:Int) (t u:Tok) (s:Shared) (Q:Value->Shared->Prop) (E:Value->Shared->Prop),Q (.int (g i j) s.toks) { s with toks:=s.toks+1 } -> wpAny (model X.prog X.w) X.A (f (.int i t) (.int j u)) Q E s) :
 OpR X f (rI0 fun i j=>.int (g i j)):=by
 intro pins s U H x y v u Q I rx ry h;obtain⟨i,j,rfl,rfl,q⟩:=h;obtain⟨t,rfl⟩:=rx;obtain⟨t',rfl⟩:=ry;exact rule i j t t' s _ _ ⟨.int (g i j),H,I.tok _,⟨_,rfl⟩,q⟩
theorem vS{f:Value->Value->Sem Value}{g:Int->Int->Bool}
 (rule:∀(i j:Int) (t u:Tok) (s:Shared) (Q:Value->Shared->Prop) (E:Value->Shared->Prop),Q (.bool (g i j)) s->wpAny (model X.prog X.w) X.A (f (.int i t) (.int j u)) Q E s) :
 OpR X f (rI0 fun i j=>.bl (g i j)):=by
 intro pins s U H x y v u Q I rx ry h;obtain⟨i,j,rfl,rfl,q⟩:=h;obtain⟨t,rfl⟩:=rx;obtain⟨t',rfl⟩:=ry;exact rule i j t t' s _ _ ⟨.bl (g i j),H,I,rfl,q⟩
def zC(i j:Int):Prop:=0<=j/\j<=1000000/\i.natAbs < 2 ^ 64
def tQ(i j:Int):Prop:=(-(2 ^ 64) < i/\i < 2 ^ 64)∨(-(2 ^ 64) < j/\j < 2 ^ 64)
theorem tQ.ok{i j:Int}(h:tQ i j):IntMulOk i j:=by
 rcases h with ⟨h1,h2⟩ | ⟨h1,h2⟩
 . exact .of_left (intBits_le_64 h1 h2)
 exact .of_right (intBits_le_64 h1 h2)
theorem oX(k:Nat):(0:Int)<=2 ^ k:=by
 rw[two_pow_cast];exact Int.natCast_nonneg _
theorem bX:OpR X (binaryOp .Add) (rI0 fun i j=>.int (i+j)):=Bt fun _ _ _ _ _ _ _ q=>add_int q
theorem lZ:OpR X (binaryOp .Sub) (rI0 fun i j=>.int (i - j)):=Bt fun _ _ _ _ _ _ _ q=>sub_int q
theorem eB:OpR X (binaryOp .Mult) (rI tQ fun i j=>.int (i*j)):=opI fun _ _ _ _ _ _ _ hc q=>mul_int q hc.ok
theorem dH:OpR X (binaryOp .Mod) (rI (fun _ j=>0 < j) fun i j=>.int (i % j)):=opI fun i j _ _ _ _ _ hc q=>by
 have h1:(0:Int) < j:=hc;exact mod_int' (by omega) (by rw[Int.fmod_eq_emod_of_nonneg i (by omega)];exact q)
theorem jC:OpR X (binaryOp .Pow) (rI zC fun i j=>.int (i ^ j.toNat)):=opI fun _ _ _ _ _ _ _ hc q=>pow_int_small hc.1 hc.2.1 hc.2.2 q
theorem zU:OpR X (binaryOp .RShift) (rI (fun _ j=>0<=j) fun i j=>.int (i / 2 ^ j.toNat)):=opI fun i j _ _ _ _ _ hc q=>
 rshift_int hc (by rw[Int.fdiv_eq_ediv_of_nonneg i (oX _)];exact q)
theorem unI{f:Value->Sem Value}{g:Int->Int}
 (rule:∀(i:Int) (t:Tok) (s:Shared) (Q:Value->Shared->Prop) (E:Value->Shared->Prop),Q (.int (g i) s.toks) { s with toks:=s.toks+1 } -> wpAny (model X.prog X.w) X.A (f (.int i t)) Q E s) :
 UnR X f (rU fun i=>.int (g i)):=by
 intro pins s U H x v Q I rx h;obtain⟨i,rfl,q⟩:=h;obtain⟨t,rfl⟩:=rx;exact rule i t s _ _ ⟨.int (g i),H,I.tok _,⟨_,rfl⟩,q⟩
theorem oF:UnR X (unaryOp .USub) (rU fun i=>.int (-i)):=unI fun _ _ _ _ _ q=>neg_int q
end
def Cq:V->V->Bool
 | .non,.non=>true | .non,.int _=>true | .int _,.non=>true | .non,.bl _=>true | .bl _,.non=>true | .non,.str _=>true | .str _,.non=>true
 | .int _,.int _=>true | .bl _,.bl _=>true | .str _,.str _=>true | .byt _,.byt _=>true
 | .int _,.str _=>true | .str _,.int _=>true | .bl _,.str _=>true | .str _,.bl _=>true
 | _,_=>false
def rEq:R2:=fun x y H Q=>Cq x y=true/\Q (.bl (decide (x=y))) H
def rNe:R2:=fun x y H Q=>Cq x y=true/\Q (.bl (!decide (x=y))) H
theorem p9{i j:Int}:decide (V.int i=V.int j)=(i == j):=by
 rw[Bool.eq_iff_iff];simp
theorem ui{i j:Bool}:decide (V.bl i=V.bl j)=(i == j):=by
 rw[Bool.eq_iff_iff];simp
theorem qb{i j:Str}:decide (V.str i=V.str j)=(i == j):=by
 rw[Bool.eq_iff_iff];simp
theorem pK{i j:Array UInt8}:decide (V.byt i=V.byt j)=(i.toList == j.toList):=by
 rw[Bool.eq_iff_iff];cases i;cases j;simp
section
variable{X:Cx}{a b c:Expr}{ta tb tc:TE}{pos:Pos}
theorem aU{pins:List (Addr×Obj)}{U:St}{H:Hp}{s:Shared}{Q:VK}{k k':Bool}(I:Inv X pins U H s)(q:Q (.bl k) H)(e:k=k'):EP X pins U Q (.bool k') s:=by
 subst e;exact⟨.bl k,H,I,rfl,q⟩
theorem bN:OpR X (compareOp .Eq) rEq:=by
 intro pins s U H x y v u Q I rx ry h;obtain⟨hs,q⟩:=h;cases x with
 | non=>
   cases rx;cases y with
   | non=>cases ry;exact PySem.EqNone.eq_none_none (aU I q (by simp))
   | bl j=>cases ry;exact PySem.EqNone.eq_none_bool (aU I q (by simp))
   | int j=>obtain⟨t',rfl⟩:=ry;exact PySem.EqNone.eq_none_int (aU I q (by simp))
   | str j=>obtain⟨t',rfl⟩:=ry;exact PySem.EqNone.eq_none_str (aU I q (by simp))
   | _=>exact absurd (show false=true from hs) Bool.false_ne_true
 | bl i=>
   cases rx;cases y with
   | non=>cases ry;exact PySem.EqNone.eq_bool_none (aU I q (by simp))
   | bl j=>cases ry;exact eq_bool (aU I q ui)
   | str j=>obtain⟨t',rfl⟩:=ry;exact PySem.EqMixed.eq_bool_str (aU I q (by simp))
   | _=>exact absurd (show false=true from hs) Bool.false_ne_true
 | int i=>
   obtain⟨t,rfl⟩:=rx;cases y with
   | non=>cases ry;exact PySem.EqNone.eq_int_none (aU I q (by simp))
   | int j=>obtain⟨t',rfl⟩:=ry;exact eq_int (aU I q p9)
   | str j=>obtain⟨t',rfl⟩:=ry;exact PySem.EqMixed.eq_int_str (aU I q (by simp))
   | _=>exact absurd (show false=true from hs) Bool.false_ne_true
 | str i=>
   obtain⟨t,rfl⟩:=rx;cases y with
   | non=>cases ry;exact PySem.EqNone.eq_str_none (aU I q (by simp))
   | bl j=>cases ry;exact PySem.EqMixed.eq_str_bool (aU I q (by simp))
   | int j=>obtain⟨t',rfl⟩:=ry;exact PySem.EqMixed.eq_str_int (aU I q (by simp))
   | str j=>obtain⟨t',rfl⟩:=ry;exact eq_str (aU I q qb)
   | _=>exact absurd (show false=true from hs) Bool.false_ne_true
 | byt i=>
   obtain⟨t,rfl⟩:=rx;cases y with
   | byt j=>obtain⟨t',rfl⟩:=ry;exact W.eq_bytes (aU I q pK)
   | _=>exact absurd (show false=true from hs) Bool.false_ne_true
 | _=>cases y <;> exact absurd (show false=true from hs) Bool.false_ne_true
theorem gL:OpR X (compareOp .NotEq) rNe:=by
 intro pins s U H x y v u Q I rx ry h;obtain⟨hs,q⟩:=h;cases x with
 | non=>
   cases rx;cases y with
   | non=>cases ry;exact PySem.EqNone.ne_none_none (aU I q (by simp))
   | bl j=>cases ry;exact PySem.EqNone.ne_none_bool (aU I q (by simp))
   | int j=>obtain⟨t',rfl⟩:=ry;exact PySem.EqNone.ne_none_int (aU I q (by simp))
   | str j=>obtain⟨t',rfl⟩:=ry;exact PySem.EqNone.ne_none_str (aU I q (by simp))
   | _=>exact absurd (show false=true from hs) Bool.false_ne_true
 | bl i=>
   cases rx;cases y with
   | non=>cases ry;exact PySem.EqNone.ne_bool_none (aU I q (by simp))
   | bl j=>cases ry;exact ne_bool (aU I q (congrArg not ui))
   | str j=>obtain⟨t',rfl⟩:=ry;exact PySem.EqMixed.ne_bool_str (aU I q (by simp))
   | _=>exact absurd (show false=true from hs) Bool.false_ne_true
 | int i=>
   obtain⟨t,rfl⟩:=rx;cases y with
   | non=>cases ry;exact PySem.EqNone.ne_int_none (aU I q (by simp))
   | int j=>obtain⟨t',rfl⟩:=ry;exact ne_int (aU I q (congrArg not p9))
   | str j=>obtain⟨t',rfl⟩:=ry;exact PySem.EqMixed.ne_int_str (aU I q (by simp))
   | _=>exact absurd (show false=true from hs) Bool.false_ne_true
 | str i=>
   obtain⟨t,rfl⟩:=rx;cases y with
   | non=>cases ry;exact PySem.EqNone.ne_str_none (aU I q (by simp))
   | bl j=>cases ry;exact PySem.EqMixed.ne_str_bool (aU I q (by simp))
   | int j=>obtain⟨t',rfl⟩:=ry;exact PySem.EqMixed.ne_str_int (aU I q (by simp))
   | str j=>obtain⟨t',rfl⟩:=ry;exact ne_str (aU I q (congrArg not qb))
   | _=>exact absurd (show false=true from hs) Bool.false_ne_true
 | byt i=>
   obtain⟨t,rfl⟩:=rx;cases y with
   | byt j=>obtain⟨t',rfl⟩:=ry;exact W.ne_bytes (aU I q (congrArg not pK))
   | _=>exact absurd (show false=true from hs) Bool.false_ne_true
 | _=>cases y <;> exact absurd (show false=true from hs) Bool.false_ne_true
theorem mY:OpR X (compareOp .Lt) (rI0 fun i j=>.bl (decide (i < j))):=vS fun _ _ _ _ _ _ _ q=>lt_int q
theorem cF:OpR X (compareOp .LtE) (rI0 fun i j=>.bl (decide (i<=j))):=vS fun _ _ _ _ _ _ _ q=>le_int q
theorem xM:OpR X (compareOp .Gt) (rI0 fun i j=>.bl (decide (j < i))):=vS fun _ _ _ _ _ _ _ q=>gt_int q
theorem xQ:OpR X (compareOp .GtE) (rI0 fun i j=>.bl (decide (j<=i))):=vS fun _ _ _ _ _ _ _ q=>ge_int q
theorem rJ:OpR X (compareOp .In) (fun x y H Q=>∃ i j,x=.str i/\y=.str j/\Q (.bl (!(Builtin.Str.occurrences j i 0 j.length 1).isEmpty)) H):=by
 intro pins s U H x y v u Q I rx ry h;obtain⟨i,j,rfl,rfl,q⟩:=h;obtain⟨t,rfl⟩:=rx;obtain⟨t',rfl⟩:=ry;exact in_str (aU I q rfl)
theorem fh:OpR X (compareOp .Is) (fun x y H Q=>y=.non/\Q (.bl (decide (x=.non))) H):=by
 intro pins s U H x y v u Q I rx ry h;obtain⟨rfl,q⟩:=h;cases ry;refine is_none_gen (aU I q ?_);cases x <;> first
  | (cases rx;rfl)
  | (obtain⟨t,rfl⟩:=rx;rfl)
theorem en:OpR X (compareOp .IsNot) (fun x y H Q=>y=.non/\Q (.bl (!decide (x=.non))) H):=by
 intro pins s U H x y v u Q I rx ry h;obtain⟨rfl,q⟩:=h;cases ry;refine isnot_none_gen (aU I q ?_);cases x <;> first
  | (cases rx;rfl)
  | (obtain⟨t,rfl⟩:=rx;rfl)
theorem lY:OpR X (compareOp .NotIn) (fun x y H Q=>∃ i j,x=.str i/\y=.str j/\Q (.bl (!(!(Builtin.Str.occurrences j i 0 j.length 1).isEmpty))) H):=by
 intro pins s U H x y v u Q I rx ry h;obtain⟨i,j,rfl,rfl,q⟩:=h;obtain⟨t,rfl⟩:=rx;obtain⟨t',rfl⟩:=ry;exact notIn_str (aU I q rfl)
theorem vh(b:Expr){op:CmpOp}(h:op ≠ .In:=by decide)(h2:op ≠ .NotIn:=by decide):behindInMarks op b=false:=by
 have e1:(op == CmpOp.In)=false:=by cases op <;> first | rfl | exact absurd rfl h
 have e2:(op == CmpOp.NotIn)=false:=by cases op <;> first | rfl | exact absurd rfl h2
 cases b <;> simp[behindInMarks,e1,e2]
theorem pN{op:CmpOp}{r:R2}(ho:OpR X (compareOp op) r)(ha:PE X a ta)(hb:PE X b tb)(hm:behindInMarks op b=false):PE X (.Compare a [op] [b] pos) (tOp r ta tb):=by
 intro pins s U H Q I h;exact wpAny_Compare1 (zl ha hb I h fun v u s2 x y H2 I2 rx ry q=>ho pins s2 U H2 x y v u Q I2 rx ry q) hm
def kX(t:TE):TT:=fun U H Q=>t U H fun x H'=>∃ k,x=.bl k/\Q k H'
theorem qk{op:CmpOp}{r:R2}(ho:OpR X (compareOp op) r)(ha:PE X a ta)(hb:PE X b tb)(hm:behindInMarks op b=false):PT X (.Compare a [op] [b] pos) (kX (tOp r ta tb)):=by
 intro pins s U H Q I h;refine wpAny_isTrue_Compare1 (thn (ha pins s U H _ I h) fun v s1 ⟨x,H1,I1,r1,q1⟩=>thn (hb pins s1 U H1 _ I1 q1) fun u s2 ⟨y,H2,I2,r2,q2⟩=>
  thn (ho pins s2 U H2 x y v u _ I2 r1 r2 q2) fun c s3 ⟨z,H3,I3,r3,k,e,q3⟩=>?_) hm
 subst e;cases r3;exact wpAny_truthy_bool ⟨H3,I3,q3⟩
def i6(r r':R2)(ta tb tc:TE):TE:=fun U H Q=>ta U H fun x H1=>tb U H1 fun y H2=>r x y H2 fun z H3=>∃ k,z=.bl k /\
 (if k=true then tc U H3 fun w' H4=>r' y w' H4 Q else Q (.bl false) H3)
theorem tD{op op':CmpOp}{r r':R2}(ho:OpR X (compareOp op) r)(ho':OpR X (compareOp op') r')(ha:PE X a ta)(hb:PE X b tb)(hc:PE X c tc)
 (hm:lastMarks [op,op'] [b,c]=false:=by with_unfolding_all rfl):PE X (.Compare a [op,op'] [b,c] pos) (i6 r r' ta tb tc):=by
 intro pins s U H Q I h;refine Compare_chain (thn (ha pins s U H _ I h) fun v s1 ⟨x,H1,I1,r1,q1⟩=>chain_link (thn (hb pins s1 U H1 _ I1 q1) fun u s2 ⟨y,H2,I2,r2,q2⟩=>
  thn (ho pins s2 U H2 x y v u _ I2 r1 r2 q2) fun d s3 ⟨z,H3,I3,r3,k,e,q3⟩=>?_)) hm
 subst e;cases r3;refine wpAny_truthy_bool ?_;cases k with
 | false=>exact ite_ff ⟨.bl false,H3,I3,rfl,q3⟩
 | true=>exact ite_tt (chain_last (thn (hc pins s3 U H3 _ I3 q3) fun w' s4 ⟨z',H4,I4,r4,q4⟩=>ho' pins s4 U H4 y z' u w' Q I4 r2 r4 q4))
theorem vy{op op':CmpOp}{r r':R2}(ho:OpR X (compareOp op) r)(ho':OpR X (compareOp op') r')(ha:PE X a ta)(hb:PE X b tb)(hc:PE X c tc)
 (hm:lastMarks [op,op'] [b,c]=false:=by with_unfolding_all rfl):PT X (.Compare a [op,op'] [b,c] pos) (kX (i6 r r' ta tb tc)):=by
 intro pins s U H Q I h;refine isTrue_chain (thn (ha pins s U H _ I h) fun v s1 ⟨x,H1,I1,r1,q1⟩=>test_link (thn (hb pins s1 U H1 _ I1 q1) fun u s2 ⟨y,H2,I2,r2,q2⟩=>
  thn (ho pins s2 U H2 x y v u _ I2 r1 r2 q2) fun d s3 ⟨z,H3,I3,r3,k,e,q3⟩=>?_)) hm
 subst e;cases r3;refine wpAny_truthy_bool ?_;cases k with
 | false=>
   obtain⟨k',e',q'⟩:=q3;cases e';exact ite_ff ⟨H3,I3,q'⟩
 | true=>
   refine ite_tt (test_last (thn (hc pins s3 U H3 _ I3 q3) fun w' s4 ⟨z',H4,I4,r4,q4⟩=>thn (ho' pins s4 U H4 y z' u w' _ I4 r2 r4 q4) fun d' s5 zz=>?_));obtain⟨z2,H5,I5,r5,k2,e2,q5⟩:=zz;subst e2;cases r5;exact wpAny_truthy_bool ⟨H5,I5,q5⟩
theorem jc:(sizeLine:Nat) < 2 ^ 63:=by rw[sizeLine_eq];decide
theorem bD:OpR X (binaryOp .Add) (fun x y H Q=>∃ i j,x=.str i/\y=.str j/\i.length+j.length<=sizeLine/\Q (.str (i++j)) H):=by
 intro pins s U H x y v u Q I rx ry h;obtain⟨i,j,rfl,rfl,hz,q⟩:=h;obtain⟨t,rfl⟩:=rx;obtain⟨t',rfl⟩:=ry;exact add_str (fun t' tk=>⟨.str (i++j),H,I.tok _,⟨_,rfl⟩,q⟩) hz
theorem cZ{x:V}{us:List Value}(r:aH [x] us):∃ u,us=[u]/\aJ x u:=by
 cases r with
 | cons r1 r2=>cases r2;exact⟨_,rfl,r1⟩
theorem pU{x y:V}{us:List Value}(r:aH [x,y] us):∃ u w',us=[u,w']/\aJ x u/\aJ y w':=by
 cases r with
 | cons r1 r2=>
   cases r2 with
   | cons r3 r4=>cases r4;exact⟨_,_,rfl,r1,r3⟩
theorem rK(hc:X.calm=true):bR X (.builtin "max") (fun xs H Q=>∃ i j,xs=[.int i,.int j]/\Q (.int (if j > i then j else i)) H):=by
 intro pins s U H xs us Q I r h;obtain⟨i,j,rfl,q⟩:=h;obtain⟨u,w',rfl,⟨t,rfl⟩,⟨t',rfl⟩⟩:=pU r;refine max_two_ints (I.ok.hd hc) fun h' tk k=>⟨_,H,I.kept k,?_,q⟩;by_cases hj:j > i
 . rw[if_pos hj,if_pos hj];exact⟨_,rfl⟩
 rw[if_neg hj,if_neg hj];exact⟨_,rfl⟩
theorem kj(hc:X.calm=true):bR X (.builtin "min") (fun xs H Q=>∃ i j,xs=[.int i,.int j]/\Q (.int (if j < i then j else i)) H):=by
 intro pins s U H xs us Q I r h;obtain⟨i,j,rfl,q⟩:=h;obtain⟨u,w',rfl,⟨t,rfl⟩,⟨t',rfl⟩⟩:=pU r;refine min_two_ints (I.ok.hd hc) fun h' tk k=>⟨_,H,I.kept k,?_,q⟩;by_cases hj:j < i
 . rw[if_pos hj,if_pos hj];exact⟨_,rfl⟩
 rw[if_neg hj,if_neg hj];exact⟨_,rfl⟩
theorem kH:bR X (.type "int") (fun xs H Q=>(∃ i,xs=[.int i]/\Q (.int i) H) ∨ ∃ k,xs=[.bl k]/\Q (.int (if k then 1 else 0)) H):=by
 intro pins s U H xs us Q I r h;rcases h with ⟨i,rfl,q⟩ | ⟨k,rfl,q⟩
 . obtain⟨u,rfl,t,rfl⟩:=cZ r
   exact call_int_int ⟨.int i,H,I,⟨_,rfl⟩,q⟩
 obtain⟨u,rfl,r1⟩:=cZ r;cases r1;exact call_int_bool ⟨.int (if k then 1 else 0),H,I.tok _,⟨_,rfl⟩,q⟩
theorem aQ:bR X (.type "str") (fun xs H Q=>∃ i,xs=[.int i]/\i.natAbs.log2 < 1920/\Q (.str (toString i)) H):=by
 intro pins s U H xs us Q I r h;obtain⟨i,rfl,hz,q⟩:=h;obtain⟨u,rfl,t,rfl⟩:=cZ r;exact PySem.P.str_of_int hz ⟨.str _,H,I.tok _,⟨_,rfl⟩,q⟩
end
end L2
namespace L2
open PySem PySem.Spec PyProof.Rows
structure pF(h:Heap)(x dx C:Addr)(mA:Str->Option Value):Prop where
 obj:h.get? x=some (W.instObj C dx)
 ns:h.Ns1 dx mA
 ne:dx≠x
theorem qK{h:Heap}{dx:Addr}{mA:Str->Option Value}(n:h.Ns1 dx mA):∃ od,h.get? dx=some od /\ ∀ name,W.lookIn name od=some (mA name):=by
 obtain⟨o,es,ep,ho,hd,hk,_,hm⟩:=n;refine⟨o,ho,fun name=>?_⟩;have e:=hm name;unfold nsFind findBy at e;rw[← Array.find?_toList]at e;unfold W.lookIn;rw[hd]
 dsimp only
 split
 . rename_i y q
   rw[q]at e;exact congrArg some e
 rename_i q;rw[q]at e;have a:es.toList.any (·.refKey)=false:=by
  rw[List.any_eq_false];intro y hy;obtain⟨z,t,hkey⟩:=hk y (Array.mem_toList_iff.mp hy);simp[DictEntry.refKey,hkey]
 have a':¬ es.toList.any (·.refKey)=true:=by rw[a];exact Bool.false_ne_true
 rw[if_neg a'];exact congrArg some e
theorem pF.look{h:Heap}{x dx C:Addr}{mA:Str->Option Value}(I:pF h x dx C mA):∃ od,W.InstAt h x (W.instObj C dx) C (some od) /\ ∀ name,W.lookIn name od=some (mA name):=
 let⟨od,ho,hl⟩:=qK I.ns
 ⟨od,⟨I.obj,rfl,rfl,ho⟩,hl⟩
section
variable{prog:Program}{w:World}{A:Around}{E:Value->Shared->Prop}{s:Shared}{K:W.Frag}{x dx C f:Addr}{mA:Str->Option Value}{name:Str}{v:Value}
theorem wv{expr:Bool}{Q:Value->Shared->Prop}(X:K.In s.heap)(I:pF s.heap x dx C mA)(hg:W.plainGet K C name=true)(hh:W.hasDictIn K C=true)
 (ha:W.findIn K (.ref C) name=some none) (hv:mA name=some v) (hv':W.handedIn v=true) (h:Q v { s with toks:=s.toks+1 }) :
 wpAny (model prog w) A (getAttr (.ref x) name expr) Q E s:=by
 obtain⟨od,J,hl⟩:=I.look;exact W.get_value X J (W.plainGet_of hg).1 (W.findObj_own hh ha rfl (by rw[hl,hv])) hv' h
theorem vF{pl:Sem Bool}{Q:Value×List Value->Shared->Prop}(X:K.In s.heap)(I:pF s.heap x dx C mA)(hg:W.plainGet K C name=true)
 (hf:W.findIn K (.ref C) name=some (some (.ref f))) (ht:W.isFn K (.ref f)=true) (hv:mA name=none) (h:Q (.ref f,[.ref x]) s) :
 wpAny (model prog w) A (getMethod (.ref x) name pl) Q E s:=by
 obtain⟨od,J,hl⟩:=I.look;exact W.method_fn X J (W.plainGet_of hg).1 (W.plainGet_of hg).2 hf (beq_iff_eq.mp ht) (by show(W.lookIn name od).map (·.isSome)=some false;rw[hl,hv];rfl) h
theorem wR{ns:List Str}{Q:Unit->Shared->Prop}(X:K.In s.heap)(I:pF s.heap x dx C mA)
 (hs:W.findIn K (.ref C) "__setattr__"=some (some (.builtin "object.__setattr__"))) (hp:W.plainOver K C=true) (ht:W.takerIn K C name=some none) (hh:W.hasDictIn K C=true)
 (hw:PySem.Within mA ns) (hsz:ns.length<=sizeLine)
 (h:∀ h',pF h' x dx C (fun y=>if y=name then some v else mA y)->Heap.SameBut dx s.heap h'->Q () { s with heap:=h',toks:=s.toks+2 }) :
 wpAny (model prog w) A (setAttr (.ref x) name v) Q E s:=by
 obtain⟨od,J,hl⟩:=I.look;refine W.set_plain X J hs (W.osa_open (s:={ s with toks:=s.toks+1 }) (r:=none) X J hp ht fun b=>?_);obtain⟨cd,hc,hd'⟩:=W.any_some hh;have hx:s.heap.get? x=some ⟨.ref C,some dx,.plain,#[]⟩:=I.obj;refine wpAny_bind (wpAny_pure (wpAny_bind (wpAny_bind (wpAny_loadPart hx (wpAny_bind (W.Looks.here (s:={ s with toks:=s.toks+1 }) (W.looks_clsIn X hc) ?_))))));rw[hd'];refine wpAny_pure (a:=some dx) (wpAny_bind (wpAny_pure (wpAny_bind ?_)));refine wpAny_nsSet1 (s:={ s with toks:=s.toks+1 }) I.ns fun h' hn2 hs2=>?_;obtain⟨oD,esD,epD,hoD,hdD,hcD⟩:=hn2.count (PySem.Within.cons name v hw);refine wpAny_bind (wpAny_lookBehind hoD (by rw[hdD];exact pastItsLine_dict (Nat.le_trans hcD (by rw[List.length_cons];omega))) ?_)
 exact wpAny_pure (h _ ⟨(hs2.2 _ (Ne.symm I.ne)).trans I.obj,hn2,I.ne⟩ hs2)
theorem vk{R:Result->Shared->Prop}{vs:List Value}{kw:List (Str×Value)}(X:K.In s.heap)(hm:W.makesIn K C=true)
 (hi:W.findIn K (.ref C) "__init__"=some (some (.ref f))) (hf:W.typeIn K (.ref f)=some (.type "function"))
 (h:codeAny (model prog w) (A.under (.builtin "type.__call__" ⟨.ref C::vs,kw⟩)) (.call (.ref f) ⟨.ref (s.heap.objs.size+1)::vs,kw⟩) (W.InitBack (s.heap.objs.size+1) R)
  { s with heap:=(s.heap.push W.emptyDict).push (W.instObj C s.heap.objs.size) }) :
 codeAny (model prog w) A (.call (.ref C) ⟨vs,kw⟩) R s:=by
 obtain⟨hh,g,d,t,os⟩:=s;exact W.make_core (W.makes_of X hm) (W.looks_findIn X hi) (fun self=>W.bind_fn X self hf) (.inl rfl) h
end
def aX(f:Str)(v:V):List (Str×V)->List (Str×V)
 | []=>[(f,v)]
 | (g,x)::r=>if g=f then(g,v)::r else(g,x)::aX f v r
theorem bo(f g:Str)(v:V):∀ fs:List (Str×V),(aX f v fs).lookup g=if g=f then some v else fs.lookup g
 | []=>by
   show List.lookup g [(f,v)]=_;by_cases h:g=f
   . have hb:(g == f)=true:=beq_iff_eq.mpr h
     simp only[List.lookup,hb,if_pos h]
   have hb:(g == f)=false:=beq_eq_false_iff_ne.mpr h;simp only[List.lookup,hb,if_neg h]
 | (k,x)::r=>by
   have ih:=bo f g v r;rw[show aX f v ((k,x)::r)=(if k=f then(k,v)::r else(k,x)::aX f v r)from rfl];by_cases hk:k=f
   . rw[if_pos hk]
     by_cases h:g=k
     . have hb:(g == k)=true:=beq_iff_eq.mpr h
       simp only[List.lookup,hb,if_pos (h.trans hk)]
     have hb:(g == k)=false:=beq_eq_false_iff_ne.mpr h;simp only[List.lookup,hb,if_neg (fun e:g=f=>h (e.trans hk.symm))]
   rw[if_neg hk];by_cases h:g=k
   . have hb:(g == k)=true:=beq_iff_eq.mpr h
     simp only[List.lookup,hb,if_neg (fun e:g=f=>hk (h.symm.trans e))]
   have hb:(g == k)=false:=beq_eq_false_iff_ne.mpr h;simp only[List.lookup,hb];exact ih
theorem ii(f:Str)(v:V):∀ fs:List (Str×V),f∈(aX f v fs).map (·.1) /\ ∀ g,g∈fs.map (·.1)->g∈(aX f v fs).map (·.1)
 | []=>⟨by simp[aX],fun g h=>by simp at h⟩
 | (k,x)::r=>by
   obtain⟨i1,i2⟩:=ii f v r;rw[show aX f v ((k,x)::r)=(if k=f then(k,v)::r else(k,x)::aX f v r)from rfl];by_cases hk:k=f
   . rw[if_pos hk]
     subst hk;exact⟨by simp,fun g h=>by simpa using h⟩
   rw[if_neg hk];refine⟨?_,fun g h=>?_⟩
   . rw[List.map_cons]
     exact List.mem_cons_of_mem _ i1
   rw[List.map_cons]at h ⊢;rcases List.mem_cons.mp h with e | e
   . exact List.mem_cons.mpr (.inl e)
   exact List.mem_cons_of_mem _ (i2 g e)
theorem iy(f:Str)(v:V):∀ fs:List (Str×V),(aX f v fs).length<=fs.length+1
 | []=>by simp[aX]
 | (k,x)::r=>by
   have ih:=iy f v r;rw[show aX f v ((k,x)::r)=(if k=f then(k,v)::r else(k,x)::aX f v r)from rfl];by_cases hk:k=f
   . rw[if_pos hk,List.length_cons,List.length_cons];omega
   rw[if_neg hk,List.length_cons,List.length_cons];omega
theorem dU.some_of{v:V}{o:Option Value}(r:dU (some v) o):∃ u,o=some u/\aJ v u:=by
 cases o with
 | none=>exact(show False from r).elim
 | some u=>exact⟨u,rfl,r⟩
theorem dU.none_of{o:Option Value}(r:dU none o):o=none:=by
 cases o with
 | none=>rfl
 | some u=>exact(show False from r).elim
theorem rl{v:V}{u:Value}(r:aJ v u):W.handedIn u=true:=by
 cases v with
 | non=>cases (show u=Value.none from r);rfl
 | bl b=>cases (show u=Value.bool b from r);rfl
 | int i=>obtain⟨t,e⟩:=(show ∃ t,u=Value.int i t from r);cases e;rfl
 | str x=>obtain⟨t,e⟩:=(show ∃ t,u=Value.str x t from r);cases e;rfl
 | byt b=>obtain⟨t,e⟩:=(show ∃ t,u=Value.bytes b t from r);cases e;rfl
 | flt b=>obtain⟨t,e⟩:=(show ∃ t,u=Value.float b t from r);cases e;rfl
 | ref a=>cases (show u=Value.ref a from r);rfl
 | ty n=>cases (show u=Value.type n from r);rfl
section
variable{P:Program}{w:World}{H H':Hp}{h h':Heap}{a C dx:Addr}{fs fs':List (Str×V)}
theorem iG(hok:HOk P w H h)(e:H a=some (.ins C dx fs)):∃ mA,pF h a dx C mA/\(∀ f,dU (fs.lookup f) (mA f))/\PySem.Within mA (fs.map (·.1))/\fs.length<=1000/\H dx=some (.own a):=by
 obtain⟨d,z,ne,ob,mA,n,r,q⟩:=(show bq P w H h a (.ins C dx fs)from hok a _ e);exact⟨mA,⟨ob,n,ne⟩,r,q,z,d⟩
end
structure Cls(K:W.Frag)(C:Addr):Prop where
 pg:W.plainGet K C Str.empty=true
 hd:W.hasDictIn K C=true
 po:W.plainOver K C=true
 sa:W.findIn K (.ref C) "__setattr__"=some (some (.builtin "object.__setattr__"))
theorem Cls.get{K:W.Frag}{C:Addr}(c:Cls K C)(f:Str):W.plainGet K C f=true:=c.pg
def bz(K:W.Frag)(C:Addr)(f:Str):Prop:=W.findIn K (.ref C) f=some none
theorem bz.taker{K:W.Frag}{C:Addr}{f:Str}(n:bz K C f):W.takerIn K C f=some none:=by
 unfold W.takerIn;rw[show W.findIn K (.ref C) f=some none from n]
 rfl
structure vt(K:W.Frag)(C:Addr)(m:Str)(f:Addr):Prop where
 at_:W.findIn K (.ref C) m=some (some (.ref f))
 fn:W.isFn K (.ref f)=true
 kp:W.keepIn K (.ref f)=true
section
variable{X:Cx}{pins:List (Addr×Obj)}{U:St}{H:Hp}{s:Shared}{a C dx:Addr}{fs:List (Str×V)}{f:Str}{v:V}{A:Around}{E:Value->Shared->Prop}
theorem i_{b:Bool}{Q:Value->Shared->Prop}(I:Inv X pins U H s)(e:H a=some (.ins C dx fs))(c:Cls X.K C)(n:bz X.K C f)(l:fs.lookup f=some v)
 (h:∀ u s',Inv X pins U H s'->aJ v u->Q u s'):wpAny (model X.prog X.w) A (getAttr (.ref a) f b) Q E s:=by
 obtain⟨mA,O,r,_,_,_⟩:=iG I.hok e;obtain⟨u,hu,ru⟩:=dU.some_of (v:=v) (o:=mA f) (by rw[← l];exact r f)
 exact wv I.kIn O (c.get f) c.hd n hu (rl ru) (h u _ (I.tok _) ru)
theorem iY{m:Str}{g:Addr}{pl:Sem Bool}{Q:Value×List Value->Shared->Prop}(I:Inv X pins U H s)(e:H a=some (.ins C dx fs))(c:Cls X.K C)(k:vt X.K C m g)(l:fs.lookup m=none)
 (h:Q (.ref g,[.ref a]) s):wpAny (model X.prog X.w) A (getMethod (.ref a) m pl) Q E s:=by
 obtain⟨mA,O,r,_,_,_⟩:=iG I.hok e;have hn:mA m=none:=dU.none_of (by rw[← l];exact r m)
 exact vF I.kIn O (c.get m) k.at_ k.fn hn h
theorem jA{y:V}{u:Value}{Q:Unit->Shared->Prop}(I:Inv X pins U H s)(e:H a=some (.ins C dx fs))(c:Cls X.K C)(n:bz X.K C f)(hl:fs.length < 1000)(ry:aJ y u)
 (h:∀ s',Inv X pins U (upd H a (.ins C dx (aX f y fs))) s'->Q () s'):wpAny (model X.prog X.w) A (setAttr (.ref a) f u) Q E s:=by
 obtain⟨mA,O,r,wi,_,ho⟩:=iG I.hok e;have hz:(fs.map (·.1)).length<=sizeLine:=by rw[List.length_map,sizeLine_eq];omega
 refine wR I.kIn O c.sa c.po n.taker c.hd wi hz fun h' O' sb=>h _ ?_;have hd:∃ o,h'.get? dx=some o:=let⟨o,_,_,e',_⟩:=O'.ns;⟨o,e'⟩;refine I.write (x:=a) (e:=dx) (by rw[e];exact True.intro) (.inr ho) (fun b q hb z=>(sb.2 b hb).trans z) hd ?_
 refine⟨by rw[af O.ne];exact ho,?_,O.ne,O'.obj,_,O'.ns,fun g=>?_,fun g hg=>?_⟩
 . have:=iy f y fs;omega
 . show dU ((aX f y fs).lookup g) (if g=f then some u else mA g)
   rw[bo];by_cases q:g=f
   . rw[if_pos q,if_pos q];exact ry
   rw[if_neg q,if_neg q];exact r g
 by_cases q:g=f
 . rw[q];exact(ii f y fs).1
 refine(ii f y fs).2 g (wi g fun z=>hg ?_);show(if g=f then some u else mA g)=none;rw[if_neg q];exact z
theorem Inv.made(I:Inv X pins U H s):Inv X pins U (upd (upd H s.heap.objs.size (.own (s.heap.objs.size+1))) (s.heap.objs.size+1) (.ins C s.heap.objs.size []))
 { s with heap:=(s.heap.push W.emptyDict).push (W.instObj C s.heap.objs.size) }:=by
 have e1:(s.heap.push W.emptyDict).get? s.heap.objs.size=some W.emptyDict:=Heap.get?_push_size s.heap rfl;have e2:((s.heap.push W.emptyDict).push (W.instObj C s.heap.objs.size)).get? (s.heap.objs.size+1)=some (W.instObj C s.heap.objs.size):=by
  have:=Heap.get?_push_size (s.heap.push W.emptyDict) (o:=W.instObj C s.heap.objs.size) rfl
  rwa [Heap.size_push]at this
 have e3:(s.heap.push W.emptyDict).Ns s.heap.objs.size (fun _=>none):=⟨W.emptyDict,#[],_,e1,rfl,(fun e he=>absurd he (by simp)),fun _=>rfl⟩
 have I1:=I.laid (a:=s.heap.objs.size) (o:=.own (s.heap.objs.size+1)) (h':=s.heap.push W.emptyDict) (t':=s.toks) (fun b u q=>Heap.get?_push_of_some _ q) (Nat.le_refl _) ⟨_,e1⟩;refine I1.laid (a:=s.heap.objs.size+1) (o:=.ins C s.heap.objs.size []) (t':=s.toks) (fun b u q=>Heap.get?_push_of_some _ q) (Nat.le_of_eq (Heap.size_push _ _)) ?_;have ne:s.heap.objs.size≠s.heap.objs.size+1:=Nat.ne_of_lt (Nat.lt_succ_self _);refine⟨by rw[af ne,aa],Nat.zero_le _,ne,e2,fun _=>none,(Heap.Ns1.of_empty e3).at fun o q=>Heap.get?_push_of_some _ q,fun _=>True.intro,fun y hy=>absurd rfl hy⟩
theorem xn{prog:Program}{w:World}{env:Env}{e:Expr}{f:Str}{pos:Pos}{s:Shared}{Q:Value->Shared->Prop}(hb:attributeBase e f env (eval e env)=eval e env)
 (h:wpAny (model prog w) A (eval e env) (fun o s₁=>wpAny (model prog w) A (getAttr o f true) Q E s₁) E s):wpAny (model prog w) A (eval (.Attribute e f pos) env) Q E s:=
 Attribute_any_ h (by rw[arm_eval_Attribute,hb])
end
def vK(K:W.Frag)(ta:TE)(f:Str):TE:=fun U H Q=>ta U H fun x H1=>∃ a C dx fs v,x=.ref a/\H1 a=some (.ins C dx fs)/\Cls K C/\bz K C f/\fs.lookup f=some v/\Q v H1
def xo(K:W.Frag)(ta tv:TE)(f:Str):TS:=fun D U H=>tv U H fun y H1=>ta U H1 fun x H2=>∃ a C dx fs,x=.ref a/\H2 a=some (.ins C dx fs)/\Cls K C/\bz K C f/\fs.length < 1000 /\
 D.nx U (upd H2 a (.ins C dx (aX f y fs)))
def wg(X:Cx)(op:Operator)(rd:V->V->Hp->VK->Prop):Prop:=
 ∀(pins:List (Addr×Obj)) (s:Shared) (U:St) (H:Hp) (x y:V) (u v:Value) (Q:VK),Inv X pins U H s->aJ x u->aJ y v->rd x y H Q->wpAny (model X.prog X.w) X.A (inplaceOp op u v) (EP X pins U Q) X.xe s
def mz(K:W.Frag)(ta tv:TE)(rd:V->V->Hp->VK->Prop)(f:Str):TS:=fun D U H=>ta U H fun x H1=>∃ a C dx fs v,x=.ref a/\H1 a=some (.ins C dx fs)/\Cls K C/\bz K C f/\fs.lookup f=some v /\
 tv U H1 fun y H2=>rd v y H2 fun z H3=>∃ dx' fs',H3 a=some (.ins C dx' fs')/\fs'.length < 1000/\D.nx U (upd H3 a (.ins C dx' (aX f z fs')))
section
variable{X:Cx}{o e value:Expr}{f:Str}{pos pos' tpos:Pos}{ta tv:TE}
theorem sO(he:PE X e ta)(hb:attributeBase e f X.env (eval e X.env)=eval e X.env):PE X (.Attribute e f pos) (vK X.K ta f):=by
 intro pins s U H Q I h;refine xn hb (thn (he pins s U H _ I h) fun u s1 zz=>?_);obtain⟨x,H1,I1,rx,a,C,dx,fs,v,ex,ea,c,n,l,q⟩:=zz;subst ex;obtain rfl:u=Value.ref a:=rx;exact i_ I1 ea c n l fun u' s2 I2 ru=>⟨v,H1,I2,ru,q⟩
theorem Aq(ha:PE X o ta)(hv:PE X value tv)(hs:swapsWith value (some (.Attribute o f pos')) pos.line X.env=pure false):PS X (.Assign [.Attribute o f pos'] value pos) (xo X.K ta tv f):=by
 intro pins s U H D I h;refine plainObj_wpAny_Assign_Attribute (thn (hv pins s U H _ I h) fun u s1 ⟨y,H1,I1,ry,q⟩=>thn (ha pins s1 U H1 _ I1 q) fun ov s2 ⟨x,H2,I2,rx,a,C,dx,fs,ex,ea,c,n,l,q2⟩=>?_) hs;subst ex;obtain rfl:ov=Value.ref a:=rx;exact jA I2 ea c n l ry fun s3 I3=>⟨U,_,I3,q2⟩
theorem rS{op:Operator}{rd:V->V->Hp->VK->Prop}(ha:PE X o ta)(hv:PE X value tv)(hop:wg X op rd):PS X (.AugAssign (.Attribute o f tpos) op value pos) (mz X.K ta tv rd f):=by
 intro pins s U H D I h;refine wpAny_AugAssign_AttributeAny (thn (ha pins s U H _ I h) fun ov s1 zz=>?_);obtain⟨x,H1,I1,rx,a,C,dx,fs,v,ex,ea,c,n,l,q⟩:=zz;subst ex;obtain rfl:ov=Value.ref a:=rx;refine i_ I1 ea c n l fun u s2 I2 ru=>thn (hv pins s2 U H1 _ I2 q) fun w3 s3 ⟨y,H2,I3,ry,q3⟩=>thn (hop pins s3 U H2 v y u w3 _ I3 ru ry q3) fun w4 s4 zz=>?_;obtain⟨z,H3,I4,rz,dx',fs',ea',l',q4⟩:=zz;exact jA I4 ea' c n l' rz fun s5 I5=>⟨U,_,I5,q4⟩
def DE:V->V->Hp->VK->Prop:=fun x y H Q=>∃ i j,x=.int i/\y=.int j/\Q (.int (i+j)) H
def DC:V->V->Hp->VK->Prop:=fun x y H Q=>∃ i j,x=.int i/\y=.int j/\Q (.int (i - j)) H
theorem sj:wg X .Add DE:=by
 rintro pins s U H x y u v Q I rx ry ⟨i,j,rfl,rfl,q⟩;obtain⟨t,rfl⟩:=(show ∃ t,u=Value.int i t from rx);obtain⟨t',rfl⟩:=(show ∃ t',v=Value.int j t' from ry);exact PyProof.Rows.iadd_int ⟨.int (i+j),H,I.tok _,⟨_,rfl⟩,q⟩
theorem tU:wg X .Sub DC:=by
 rintro pins s U H x y u v Q I rx ry ⟨i,j,rfl,rfl,q⟩;obtain⟨t,rfl⟩:=(show ∃ t,u=Value.int i t from rx);obtain⟨t',rfl⟩:=(show ∃ t',v=Value.int j t' from ry);exact PyProof.Rows.isub_int ⟨.int (i - j),H,I.tok _,⟨_,rfl⟩,q⟩
end
section
variable{X:Cx}{pins:List (Addr×Obj)}{U:St}{H:Hp}{s:Shared}{A:Around}{E:Value->Shared->Prop}{Q:Value->Shared->Prop}{c:Value}{b:Bool}
inductive gi(K:W.Frag)(H:Hp):V->Value->Prop where
 | non:gi K H .non (.type "NoneType")
 | bl (x:Bool):gi K H (.bl x) (.type "bool")
 | int (i:Int):gi K H (.int i) (.type "int")
 | str (x:Str):gi K H (.str x) (.type "str")
 | flt (x:UInt64):gi K H (.flt x) (.type "float")
 | lst {a:Addr}{xs:List V} (e:H a=some (.lst xs)):gi K H (.ref a) (.type "list")
 | frz {a:Addr}{o:Obj}{xs:List V} (e:H a=some (.frz o (.lst xs))):gi K H (.ref a) (.type "list")
 | tup {a:Addr}{xs:List V} (e:H a=some (.tup xs)):gi K H (.ref a) (.type "tuple")
 | dK {a:Addr}{kvs:List (Key×V)} (e:H a=some (.dK kvs)):gi K H (.ref a) (.type "dict")
 | dT {a:Addr}{kvs:List (List Key×V)} (e:H a=some (.dT kvs)):gi K H (.ref a) (.type "dict")
 | ins {a C dx:Addr}{fs:List (Str×V)} (e:H a=some (.ins C dx fs)) (cl:Cls K C) (ha:W.findIn K (.ref C) "__class__"=some (some (.builtin "object.__class__")))
  (hn:W.specialIn K (.builtin "object.__class__") "__get__"=some (some (.builtin "getset_descriptor.__get__"))) (htk:W.takesIn K (.builtin "object.__class__")=some true)
  (hm:W.mroIn K C (.type "object")=some true):gi K H (.ref a) (.ref C)
theorem rq{x:V}{u t:Value}(I:Inv X pins U H s)(rx:aJ x u)(ty:gi X.K H x t)(e:W.kitOne X.K t c=some b)(h:∀ tk,Q (.bool b) { s with toks:=tk }) :
 wpAny (model X.prog X.w) A (call (.builtin "isinstance") [u,c]) Q E s:=by
 cases ty with
 | non=>cases (show u=Value.none from rx);exact W.kia_one W.kitx_none I.kIn True.intro e (fun z=>nomatch z) h
 | bl y=>cases (show u=Value.bool y from rx);exact W.kia_one W.kitx_bool I.kIn True.intro e (fun z=>nomatch z) h
 | int i=>obtain⟨t,q⟩:=(show ∃ t,u=Value.int i t from rx);cases q;exact W.kia_one W.kitx_int I.kIn True.intro e (fun z=>nomatch z) h
 | str y=>obtain⟨t,q⟩:=(show ∃ t,u=Value.str y t from rx);cases q;exact W.kia_one W.kitx_str I.kIn True.intro e (fun z=>nomatch z) h
 | flt y=>obtain⟨t,q⟩:=(show ∃ t,u=Value.float y t from rx);cases q;exact W.kia_one W.kitx_float I.kIn True.intro e (fun z=>nomatch z) h
 | @lst a xs ea=>
   cases (show u=Value.ref a from rx);obtain⟨_,_,n,_,h1⟩:=(show bq X.prog X.w H s.heap a (.lst xs)from I.hok a _ ea);exact W.kia_one W.kitx_list I.kIn ⟨_,h1,rfl⟩ e (fun z=>nomatch z) h
 | @frz a ob xs ea=>
   cases (show u=Value.ref a from rx);obtain⟨_,_,_,n,_,h1⟩:=(show bq X.prog X.w H s.heap a (.frz ob (.lst xs))from I.hok a _ ea);exact W.kia_one W.kitx_list I.kIn ⟨_,h1,rfl⟩ e (fun z=>nomatch z) h
 | @tup a xs ea=>
   cases (show u=Value.ref a from rx);obtain⟨_,_,_,p⟩:=(show bq X.prog X.w H s.heap a (.tup xs)from I.hok a _ ea);obtain⟨o,h1,h2,_⟩:=p;exact W.kia_one W.kitx_tuple I.kIn ⟨o,h1,h2⟩ e (fun z=>nomatch z) h
 | @dK a kvs ea=>
   cases (show u=Value.ref a from rx);obtain⟨_,_,vs,_,p⟩:=(show bq X.prog X.w H s.heap a (.dK kvs)from I.hok a _ ea);obtain⟨o,es,ep,h1,h2,_⟩:=p;exact W.kia_one W.kitx_dict I.kIn ⟨o,h1,h2.1⟩ e (fun z=>nomatch z) h
 | @dT a kvs ea=>
   cases (show u=Value.ref a from rx);obtain⟨_,_,xs,_,o,es,ep,h1,h2,_⟩:=(show bq X.prog X.w H s.heap a (.dT kvs)from I.hok a _ ea);exact W.kia_one W.kitx_dict I.kIn ⟨o,h1,h2.1⟩ e (fun z=>nomatch z) h
 | @ins a C dx fs ea cl ha hn htk hm=>
   cases (show u=Value.ref a from rx);obtain⟨mA,O,_⟩:=iG I.hok ea;obtain⟨od,J,_⟩:=O.look;exact W.kia_one (W.kitx_own (cl.get _) cl.hd ha hn htk hm) I.kIn J e (fun z=>nomatch z) h
end
end L2
namespace L2
open PySem PySem.Spec PyProof.Rows
structure bp(k:Nat)(A:Around):Prop where
 hd:A.handled=none
 dp:A.depth+3*k+5 < recursionLimit
 un:A.units+16*k+200 < cLine
theorem bp.mono{j k:Nat}{A:Around}(r:bp k A)(h:j<=k):bp j A:=⟨r.hd,by have:=r.dp;omega,by have:=r.un;omega⟩
theorem bp.up{j k:Nat}{A:Around}(r:bp k A)(h:j<=k:=by first | decide | omega):bp j A:=r.mono h
theorem bp.deeper{k:Nat}{A:Around}(r:bp (k+1) A)(env:Env):bp k (A.deeper env):=
 ⟨r.hd,by have:=r.dp;show A.depth+1+3*k+5 < _;omega,by have:=r.un;show A.units+3+16*k+200 < _;omega⟩
theorem bp.in1{k:Nat}{A:Around}(r:bp (k+1) A):bp k A.in1:=
 ⟨r.hd,by have:=r.dp;show A.depth+3*k+5 < _;omega,by have:=r.un;show A.units+1+16*k+200 < _;omega⟩
theorem pE{A:Around}{C:Addr}{us:List Value}{kw:List (Str×Value)}:(A.under (.builtin "type.__call__" ⟨.ref C::us,kw⟩)).depth=A.depth+1:=by
 first | rfl | simp[Around.under,Code.weight,Code.isCreation,Code.isGuard,Code.isCaller,Code.frames,Code.isFrame,guardIds]
theorem oP{A:Around}{C:Addr}{us:List Value}{kw:List (Str×Value)}:(A.under (.builtin "type.__call__" ⟨.ref C::us,kw⟩)).units=A.units+1:=by
 first | rfl | simp[Around.under,Code.cUnits,Code.frames,Code.isFrame]
theorem bp.make{k:Nat}{A:Around}(r:bp (k+1) A)(C:Addr)(us:List Value)(kw:List (Str×Value)):bp k (A.under (.builtin "type.__call__" ⟨.ref C::us,kw⟩)):=
 ⟨r.hd,by have:=r.dp;rw[pE];omega,by have:=r.un;rw[oP];omega⟩
theorem bp.depth{k:Nat}{A:Around}(r:bp k A):A.depth < recursionLimit:=by have:=r.dp;omega
theorem bp.units{k:Nat}{A:Around}(r:bp k A):A.units+64 < cLine:=by have:=r.un;omega
def fS:TA:=fun _ H Q=>Q [] H
def fQ(ta:TE)(tr:TA):TA:=fun U H Q=>ta U H fun x H1=>tr U H1 fun xs H2=>Q (x::xs) H2
section
variable{X:Cx}{e:Expr}{es:List Expr}{te:TE}{t:TA}{pos:Pos}
theorem sP:PA X [] fS:=fun _ _ _ _ H Q I h=>Calls.spliced_nil ⟨[],H,I,.nil,h⟩
theorem qv(ha:PE X e te)(hr:PA X es t)(hs:starEach (e::es) X.env=(false,eval e X.env)::starEach es X.env:=by rfl):PA X (e::es) (fQ te t):=by
 intro pos pins s U H Q I h;rw[hs];show wpAny _ _ (spliced ((false,eval e X.env)::backTo pos (starEach es X.env))) _ _ s;refine Calls.spliced_cons (thn (ha pins s U H _ I h) fun u s1 zz=>?_);obtain⟨x,H1,I1,r1,q1⟩:=zz;exact thn (hr pos pins s1 U H1 _ I1 q1) fun us s2 ⟨xs,H2,I2,r2,q2⟩=>⟨x::xs,H2,I2,.cons r1 r2,q2⟩
def zQ(t:TA):TE:=fun U H Q=>t U H fun xs H1=>xs.length<=sizeLine /\ ∀ p,H1 p=none->Q (.ref p) (upd H1 p (.tup xs))
def yv(t:TA):TE:=fun U H Q=>t U H fun xs H1=>xs.length<=sizeLine /\ ∀ p,H1 p=none->Q (.ref p) (upd H1 p (.lst xs))
theorem z7{x1}(h:PA X es t):PE X (.Tuple es x1 pos) (zQ t):=by
 intro pins s U H Q I hq;refine wpAny_Tuple_spliced (thn (h pos pins s U H _ I hq) fun us s1 ⟨xs,H1,I1,r,z,q⟩=>⟨by rw[← r.length];exact z,?_⟩)
 have hf:H1 s1.heap.objs.size=none:=I1.hok.fresh (Nat.le_refl _);refine⟨.ref s1.heap.objs.size,upd H1 s1.heap.objs.size (.tup xs),I1.laid (t':=s1.toks) (fun b u e=>Heap.get?_push_of_some _ e) (Nat.le_refl _) ?_,rfl,q _ hf⟩;exact⟨z,us,r,⟨_,Heap.get?_push_size _ rfl,rfl,_,rfl⟩⟩
theorem zd(h:PA X es t):PE X (.List es pos) (yv t):=by
 intro pins s U H Q I hq;refine wpAny_List_spliced (thn (h pos pins s U H _ I hq) fun us s1 ⟨xs,H1,I1,r,z,q⟩=>⟨by rw[← r.length];exact z,?_⟩)
 have hf:H1 s1.heap.objs.size=none:=I1.hok.fresh (Nat.le_refl _);refine⟨.ref s1.heap.objs.size,upd H1 s1.heap.objs.size (.lst xs),I1.laid (t':=s1.toks) (fun b u e=>Heap.get?_push_of_some _ e) (Nat.le_refl _) ?_,rfl,q _ hf⟩;exact⟨z,us,0,r,Heap.get?_push_size _ rfl⟩
end
abbrev Sp:=List V->Hp->VK->XK->Prop
abbrev CXT:=List Env->Hp->Shared->XK->Value->Shared->Prop
structure j8(P:Program)(w:World)(K:W.Frag)(mg:Str->Option Value)(base:Heap)(A:Around)(outer:List Env)(s:Shared)(H:Hp):Prop where
 frames:A.frames=some outer
 mod:Mod K mg base
 bs:∀ b o,base.get? b=some o->s.heap.get? b=some o/\H b=none
 bsz:base.objs.size<=s.heap.objs.size
 funs:s.heap.FunFrames base outer
 frf:∀ b∈frs outer,H b=none
 hok:HOk P w H s.heap
 bare:AllBare s.gens
def CE(outer:List Env)(P:Program)(w:World)(H:Hp)(s:Shared)(Q:VK)(u:Value)(s':Shared):Prop:=
 ∃ v H',s'.os=s.os/\AllBare s'.gens/\Un (frs outer) [] H H' s.heap s'.heap/\HOk P w H' s'.heap/\aJ v u/\Q v H'
def CR(CX:CXT)(outer:List Env)(P:Program)(w:World)(H:Hp)(s:Shared)(Q:VK)(E:XK)(r:Result)(s':Shared):Prop:=
 match r with
 | .ok (.ret u)=>CE outer P w H s Q u s'
 | .ok _=>False
 | .error e=>CX outer H s E e s'
structure eO(P:Program)(w:World)(K:W.Frag)(mg:Str->Option Value)(base:Heap)(CX:CXT)(k:Nat)(f:Addr)(fd:FuncData)(ps:List Str)(sp:Sp):Prop where
 len:∀ vs H Q E,sp vs H Q E->vs.length=ps.length
 run:∀(A:Around) (outer:List Env) (s:Shared) (H:Hp) (args:Args) (us:List Value) (vs:List V) (Q:VK) (E:XK),bp k A->j8 P w K mg base A outer s H->BindsTo s fd args (ps.zip us)->aH vs us->sp vs H Q E ->
  codeAny (model P w) A (.call (.ref f) args) (CR CX outer P w H s Q E) s
theorem j8.make{P:Program}{w:World}{K:W.Frag}{mg:Str->Option Value}{base:Heap}{A:Around}{outer:List Env}{s:Shared}{H:Hp}(e:j8 P w K mg base A outer s H)(C:Addr)(us:List Value)(kw:List (Str×Value)) :
 j8 P w K mg base (A.under (.builtin "type.__call__" ⟨.ref C::us,kw⟩)) outer s H:=⟨by first | exact e.frames | (simpa [Around.under,Code.envs,Code.isFrame,pushEnvs] using e.frames),e.mod,e.bs,e.bsz,e.funs,e.frf,e.hok,e.bare⟩
theorem j8.in1{P:Program}{w:World}{K:W.Frag}{mg:Str->Option Value}{base:Heap}{A:Around}{outer:List Env}{s:Shared}{H:Hp}(e:j8 P w K mg base A outer s H) :
 j8 P w K mg base A.in1 outer s H:=⟨e.frames,e.mod,e.bs,e.bsz,e.funs,e.frf,e.hok,e.bare⟩
section
variable{X:Cx}{pins:List (Addr×Obj)}{U:St}{H:Hp}{s s':Shared}
theorem Inv.env0(I:Inv X pins U H s):j8 X.prog X.w X.K X.mg X.base X.A X.stack s H:=
 ⟨I.ok.frames,I.ok.mod,I.bs,Nat.le_trans I.ok.bsz I.sz,I.stack,I.stkFree,I.hok,I.bare⟩
theorem Inv.after{Q:VK}{u:Value}(I:Inv X pins U H s)(h:CE X.stack X.prog X.w H s Q u s'):EP X pins U Q u s':=by
 obtain⟨v,H',os,bare,un,hok,r,q⟩:=h;obtain⟨hh,g,d,t,os'⟩:=s';obtain rfl:os'=s.os:=os;exact⟨v,H',I.call (h':=hh) (g':=g) (d':=d) (t':=t) (ch:=[]) un hok bare (fun b z=>absurd z (by simp)),r,q⟩
end
def mQ(sp:Sp)(dvs:List V)(E:XK)(t:TA):TE:=fun U H Q=>t U H fun vs H1=>sp (vs++dvs) H1 Q E
def iq(C:Addr)(m:Str)(sp:Sp)(dvs:List V)(E:XK)(ta:TE)(t:TA):TE:=fun U H Q=>ta U H fun x H1=>∃ a dx fs,x=.ref a/\H1 a=some (.ins C dx fs)/\fs.lookup m=none /\
 t U H1 fun vs H2=>sp (x::(vs++dvs)) H2 Q E
def nN(C:Addr)(sp:Sp)(dvs:List V)(E:XK)(t:TA):TE:=fun U H Q=>t U H fun vs H1=>∀ x dx,H1 x=none->H1 dx=none->dx≠x ->
 sp (.ref x::(vs++dvs)) (upd (upd H1 dx (.own x)) x (.ins C dx [])) (fun v H2=>v=.non/\Q (.ref x) H2) E
def bW(K:W.Frag)(fd:FuncData)(ps:List Str)(ds:List Value):Prop:=
 ∀(s:Shared) (us:List Value),K.In s.heap->(us++ds).length=ps.length->BindsTo s fd ⟨us,[]⟩ (ps.zip (us++ds))
theorem bW.all{K:W.Frag}{fd:FuncData}{ps:List Str}(h:∀ us:List Value,us.length=ps.length->bindArgs fd ⟨us,[]⟩=pure (ps.zip us)):bW K fd ps []:=fun s us _ hl=>by
 rw[List.append_nil]at hl ⊢;exact .of_eq (h us hl)
def fe(CX:CXT)(X:Cx)(E:XK):Prop:=∀(pins:List (Addr×Obj)) (U:St) (H:Hp) (s:Shared) (e:Value) (s':Shared),Inv X pins U H s->CX X.stack H s E e s'->X.xe e s'
section
variable{X:Cx}{CX:CXT}{k:Nat}{f C:Addr}{fd:FuncData}{ps:List Str}{sp:Sp}{dvs:List V}{ds:List Value}{E:XK}{x m:Str}{p pos apos:Pos}{e o:Expr}{es:List Expr}{ta:TE}{t:TA}
theorem oY{pins:List (Addr×Obj)}{U:St}{H:Hp}{s:Shared}{Q:VK}{us:List Value}{vs:List V}(F:eO X.prog X.w X.K X.mg X.base CX k f fd ps sp)(hr:bp k X.A)(hb:bW X.K fd ps ds)(hd:aH dvs ds)(hx:fe CX X E)
 (I:Inv X pins U H s) (r:aH vs us) (h:sp (vs++dvs) H Q E):wpAny (model X.prog X.w) X.A (call (.ref f) us) (EP X pins U Q) X.xe s:=by
 have r2:aH (vs++dvs) (us++ds):=r.append hd;have hl:(us++ds).length=ps.length:=by rw[← r2.length];exact F.len _ _ _ _ h
 refine wpAny_call (codeAny_mono (F.run X.A X.stack s H ⟨us,[]⟩ (us++ds) (vs++dvs) Q E hr I.env0 (hb s us I.kIn hl) r2 h) fun r s' hq=>?_);cases r with
 | error e=>exact hx pins U H s e s' I hq
 | ok fl=>
   cases fl with
   | ret u=>exact I.after hq
   | next=>exact False.elim hq
   | brk=>exact False.elim hq
   | cont=>exact False.elim hq
theorem wD(F:eO X.prog X.w X.K X.mg X.base CX k f fd ps sp)(hr:bp k X.A)(hg:Gl X x)(hm:X.mg x=some (.ref f))(hk:W.keepIn X.K (.ref f)=true)(hb:bW X.K fd ps ds)(hd:aH dvs ds)(hx:fe CX X E)
 (ha:PA X (e::es) t) (hdb:(x == ("__debug__":Str))=false:=by decide) (he:starEach (e::es) X.env=(false,eval e X.env)::starEach es X.env:=by rfl) (hpl:(backTo pos (starEach es X.env)).any (·.1)=false:=by rfl) :
 PE X (.Call (.Name x p) (e::es) [] pos) (mQ sp dvs E t):=by
 intro pins s U H Q I h;refine wpAny_Call_Name_kw (iU I hg hm ?_ hdb);refine W.callWith_K (h₀:=X.base) I.ok.mod.kin hk (thn (ha pos pins s U H _ I h) fun us s1 ⟨vs,H1,I1,r,q⟩=>⟨I1.kIn,?_⟩) he hpl;exact oY F hr hb hd hx I1 r q
theorem vO{pl:Sem Bool}(he:PE X o ta)(c:Cls X.K C)(hm:vt X.K C m f)(F:eO X.prog X.w X.K X.mg X.base CX k f fd ps sp)(hr:bp k X.A)(hb:bW X.K fd ps ds)(hd:aH dvs ds)(hx:fe CX X E)(ha:PA X (e::es) t)
 (hst:starEach (e::es) X.env=(false,eval e X.env)::starEach es X.env:=by rfl) (hpl:(backTo pos (starEach es X.env)).any (·.1)=false:=by rfl)
 (ht:eval (.Call (.Attribute o m apos) (e::es) [] pos) X.env=(do
  let ov ← eval o X.env
  standAt apos.atName
  let(f,first) ← holding [ov] (getMethod ov m pl)
  callWith pos f first (backTo pos (starEach (e::es) X.env)) (backToKw pos (keywordEach [] X.env))):=by rfl) :
 PE X (.Call (.Attribute o m apos) (e::es) [] pos) (iq C m sp dvs E ta t):=by
 intro pins s U H Q I h;refine W.methodCall_KW (pl:=pl) (thn (he pins s U H _ I h) fun u s1 ⟨x,H1,I1,rx,a,dx,fs,ex,ea,l,q⟩=>?_) ht;subst ex;obtain rfl:u=Value.ref a:=rx;refine iY I1 ea c hm l ?_;refine W.callWith_K (first:=[.ref a]) (h₀:=X.base) I.ok.mod.kin hm.kp (thn (ha pos pins s1 U H1 _ I1 q) fun us s2 ⟨vs,H2,I2,r,q2⟩=>⟨I2.kIn,?_⟩) hst hpl;exact oY (us:=.ref a::us) (vs:=.ref a::vs) F hr hb hd hx I2 (.cons rfl r) q2
theorem sJ{pl:Sem Bool}(he:PE X o ta)(c:Cls X.K C)(hm:vt X.K C m f)(F:eO X.prog X.w X.K X.mg X.base CX k f fd ps sp)(hr:bp k X.A)(hb:bW X.K fd ps ds)(hd:aH dvs ds)(hx:fe CX X E)
 (ht:eval (.Call (.Attribute o m apos) [] [] pos) X.env=(do
  let ov ← eval o X.env
  standAt apos.atName
  let(f,first) ← holding [ov] (getMethod ov m pl)
  callWith pos f first (backTo pos (starEach [] X.env)) (backToKw pos (keywordEach [] X.env))):=by rfl) :
 PE X (.Call (.Attribute o m apos) [] [] pos) (iq C m sp dvs E ta fS):=by
 intro pins s U H Q I h;refine W.methodCall_KW (pl:=pl) (thn (he pins s U H _ I h) fun u s1 ⟨x,H1,I1,rx,a,dx,fs,ex,ea,l,q⟩=>?_) ht;subst ex;obtain rfl:u=Value.ref a:=rx;refine iY I1 ea c hm l ?_;exact W.callWith_K0 (first:=[.ref a]) I1.kIn hm.kp (oY (us:=[.ref a]) (vs:=[.ref a]) F hr hb hd hx I1 (.cons rfl .nil) q)
structure Mk(K:W.Frag)(C f:Addr):Prop where
 makes:W.makesIn K C=true
 init:W.findIn K (.ref C) "__init__"=some (some (.ref f))
 fn:W.isFn K (.ref f)=true
 kp:W.keepIn K (.ref C)=true
theorem oe{pins:List (Addr×Obj)}{U:St}{H:Hp}{s:Shared}{Q:VK}{us:List Value}{vs:List V}(M:Mk X.K C f)(F:eO X.prog X.w X.K X.mg X.base CX k f fd ps sp)(hr:bp (k+1) X.A)(hb:bW X.K fd ps ds)(hd:aH dvs ds)
 (hx:fe CX X E) (I:Inv X pins U H s) (r:aH vs us)
 (h:∀ x dx,H x=none->H dx=none->dx≠x->sp (.ref x::(vs++dvs)) (upd (upd H dx (.own x)) x (.ins C dx [])) (fun v H2=>v=.non/\Q (.ref x) H2) E) :
 wpAny (model X.prog X.w) X.A (call (.ref C) us) (EP X pins U Q) X.xe s:=by
 have hq:=h (s.heap.objs.size+1) s.heap.objs.size (I.hok.fresh (Nat.le_succ _)) (I.hok.fresh (Nat.le_refl _)) (Nat.ne_of_lt (Nat.lt_succ_self _));have I2:=Inv.made (C:=C) I;have r2:aH (V.ref (s.heap.objs.size+1)::(vs++dvs)) (Value.ref (s.heap.objs.size+1)::(us++ds)):=.cons rfl (r.append hd);have hl:(Value.ref (s.heap.objs.size+1)::us++ds).length=ps.length:=by
  have e:=r2.length;rw[F.len _ _ _ _ hq]at e;exact e.symm
 refine wpAny_call (vk (f:=f) I.kIn M.makes M.init (beq_iff_eq.mp M.fn) (codeAny_mono (F.run _ X.stack _ _ ⟨Value.ref (s.heap.objs.size+1)::us,[]⟩ (Value.ref (s.heap.objs.size+1)::(us++ds)) _ _ E (hr.make C us [])
  (I2.env0.make C us []) (hb _ (Value.ref (s.heap.objs.size+1)::us) I2.kIn hl) r2 hq) fun r s' hq'=>?_))
 cases r with
 | error e=>exact hx pins U _ _ e s' I2 hq'
 | ok fl=>
   cases fl with
   | ret u=>
     obtain⟨v,H',I3,rv,ev,q3⟩:=I2.after hq';subst ev;exact⟨rv,⟨V.ref (s.heap.objs.size+1),H',I3,rfl,q3⟩⟩
   | next=>exact False.elim hq'
   | brk=>exact False.elim hq'
   | cont=>exact False.elim hq'
theorem wN(M:Mk X.K C f)(F:eO X.prog X.w X.K X.mg X.base CX k f fd ps sp)(hr:bp (k+1) X.A)(hg:Gl X x)(hm:X.mg x=some (.ref C))(hb:bW X.K fd ps ds)(hd:aH dvs ds)(hx:fe CX X E)
 (ha:PA X (e::es) t) (hdb:(x == ("__debug__":Str))=false:=by decide) (he:starEach (e::es) X.env=(false,eval e X.env)::starEach es X.env:=by rfl) (hpl:(backTo pos (starEach es X.env)).any (·.1)=false:=by rfl) :
 PE X (.Call (.Name x p) (e::es) [] pos) (nN C sp dvs E t):=by
 intro pins s U H Q I h;refine wpAny_Call_Name_kw (iU I hg hm ?_ hdb);refine W.callWith_K (h₀:=X.base) I.ok.mod.kin M.kp (thn (ha pos pins s U H _ I h) fun us s1 ⟨vs,H1,I1,r,q⟩=>⟨I1.kIn,?_⟩) he hpl;exact oe M F hr hb hd hx I1 r q
theorem sA(M:Mk X.K C f)(F:eO X.prog X.w X.K X.mg X.base CX k f fd ps sp)(hr:bp (k+1) X.A)(hg:Gl X x)(hm:X.mg x=some (.ref C))(hb:bW X.K fd ps ds)(hd:aH dvs ds)(hx:fe CX X E)
 (hdb:(x == ("__debug__":Str))=false:=by decide):PE X (.Call (.Name x p) [] [] pos) (nN C sp dvs E fS):=by
 intro pins s U H Q I h;refine wpAny_Call_Name_kw (iU I hg hm ?_ hdb);exact W.callWith_K0 I.kIn M.kp (oe (us:=[]) M F hr hb hd hx I .nil h)
end
section
variable{X:Cx}{CX:CXT}{k:Nat}{f C:Addr}{fd:FuncData}{ps ks:List Str}{sp:Sp}{E:XK}{x m:Str}{p pos apos kpos:Pos}{e o:Expr}{es:List Expr}{kws:List Keyword}{te ta:TE}{t tk:TA}{nm:Option Str}
variable{g:List Value->List Value->List Value}{gV:List V->List V->List V}
end
structure am(N P:List Str)(sc:Scope):Prop where
 kind:sc.kind=.function
 co:sc.isCoroutine=false
 gen:sc.isGenerator=false
 nd:N.Nodup
 pre:N.take P.length=P
 par:∀ x∈P,sc.names.lookup x=some .local∨sc.names.lookup x=some .cell
 nofree:∀ y∈sc.names,y.2 ≠ .free
theorem km{kindOf:Str->Option NameKind}{x:Str}:∀{binds:List (Str×Value)}{m:Str->Option Value},(∀ v,(x,v)∉binds)->bindL kindOf binds m x=m x
 | [],_,_=>rfl
 | (n,v)::r,m,h=>by
   unfold bindL;rw[km fun w hw=>h w (List.mem_cons_of_mem _ hw)];split
   . have:x≠n:=by rintro rfl;exact h v List.mem_cons_self
     simp[this]
   rfl
theorem lh{kindOf:Str->Option NameKind}{x:Str}:∀{binds:List (Str×Value)}{m:Str->Option Value},(∀ v,(x,v)∉binds)->bindC kindOf binds m x=m x
 | [],_,_=>rfl
 | (n,v)::r,m,h=>by
   unfold bindC;rw[lh fun w hw=>h w (List.mem_cons_of_mem _ hw)];split
   . rfl
   have:x≠n:=by rintro rfl;exact h v List.mem_cons_self
   simp[this]
theorem kt{kindOf:Str->Option NameKind}{x:Str}{v:Value}:∀{P:List Str}{vs:List Value}{i:Nat}{m:Str->Option Value},P.Nodup->P[i]?=some x->vs[i]?=some v->kindOf x=some .local ->
 bindL kindOf (P.zip vs) m x=some v
 | [],_,_,_,_,h,_,_=>by simp at h
 | _::_,[],_,_,_,_,h,_=>by simp at h
 | p::P,w::vs,0,m,nd,h1,h2,hk=>by
   simp at h1 h2;subst h1;subst h2;show bindL kindOf ((p,w)::P.zip vs) m p=_;unfold bindL;rw[km fun v hv=>(List.nodup_cons.mp nd).1 (List.of_mem_zip hv).1,if_pos hk];simp
 | p::P,w::vs,i+1,m,nd,h1,h2,hk=>by
   show bindL kindOf ((p,w)::P.zip vs) m x=_;unfold bindL;exact kt (i:=i) (List.nodup_cons.mp nd).2 (by simpa using h1) (by simpa using h2) hk
theorem kr{kindOf:Str->Option NameKind}{x:Str}{v:Value}:∀{P:List Str}{vs:List Value}{i:Nat}{m:Str->Option Value},P.Nodup->P[i]?=some x->vs[i]?=some v->kindOf x≠some .local ->
 bindC kindOf (P.zip vs) m x=some v
 | [],_,_,_,_,h,_,_=>by simp at h
 | _::_,[],_,_,_,_,h,_=>by simp at h
 | p::P,w::vs,0,m,nd,h1,h2,hk=>by
   simp at h1 h2;subst h1;subst h2;show bindC kindOf ((p,w)::P.zip vs) m p=_;unfold bindC;rw[lh fun v hv=>(List.nodup_cons.mp nd).1 (List.of_mem_zip hv).1,if_neg hk];simp
 | p::P,w::vs,i+1,m,nd,h1,h2,hk=>by
   show bindC kindOf ((p,w)::P.zip vs) m x=_;unfold bindC;exact kr (i:=i) (List.nodup_cons.mp nd).2 (by simpa using h1) (by simpa using h2) hk
def cg(N:List Str)(vs:List V):St:=vs.map some++List.replicate (N.length - vs.length) none
def f_(CX:CXT)(P:Program)(w:World)(K:W.Frag)(mg:Str->Option Value)(base:Heap)(N:List Str)(qual:Str)(scope:Scope)(f:Addr)(cd:Value)(A:Around)(outer:List Env)(s:Shared)(H:Hp)(E:XK):Cx where
 prog:=P
 w:=w
 K:=K
 mg:=mg
 base:=base
 A:=A.deeper (envOfC qual scope s.heap.objs.size f cd)
 N:=N
 s₀:=s
 H₀:=H
 env:=envOfC qual scope s.heap.objs.size f cd
 outer:=outer
 stack:=envOfC qual scope s.heap.objs.size f cd::outer
 ex:=[]
 calm:=true
 fn:=fun _=>true
 pn:=[]
 xe:=fun e s'=>wpAny (model P w) (A.deeper (envOfC qual scope s.heap.objs.size f cd)) (leaving (envOfC qual scope s.heap.objs.size f cd) e) (fun _ s''=>CX outer H s E e s'') (fun e' s''=>CX outer H s E e' s'') s'
theorem mM{sc:Scope}{n:Nat}{x:Str}(h:sc.names.lookup x=some .cell):∃ c,(cellsFrom n sc.names []).lookup x=some c:=by
 have q:=W.cellsFrom_some sc.names n [] (.inl h);exact Option.isSome_iff_exists.mp q
theorem k9{CX:CXT}{P:Program}{w:World}{K:W.Frag}{mg:Str->Option Value}{base:Heap}{N ps:List Str}{qual:Str}{scope:Scope}{f:Addr}{cd:Value}{A:Around}{outer:List Env}{s s1:Shared}{H:Hp}{E:XK}{us:List Value}{vs:List V}
 (S:am N ps scope) (hd:A.handled=none) (e0:j8 P w K mg base A outer s H) (hl:vs.length=ps.length) (r:aH vs us)
 (x:InCallC s s.heap.objs.size (bindL (envOfC qual scope s.heap.objs.size f cd).kindOf (ps.zip us) fun _=>none) (cellsFrom (s.heap.objs.size+1) scope.names []) (bindC (envOfC qual scope s.heap.objs.size f cd).kindOf (ps.zip us) fun _=>none) s1) :
 Inv (f_ CX P w K mg base N qual scope f cd A outer s H E) [] (cg N vs) H s1:=by
 have hpl:ps.length<=N.length:=by have:=congrArg List.length S.pre;rw[List.length_take]at this;omega
 obtain⟨h1,tk,rfl,hk⟩:=x.done;have noA:∀ b:Addr,b∉(f_ CX P w K mg base N qual scope f cd A outer s H E).ex:=fun b z=>absurd (show b∈([]:List Addr)from z) (by simp)
 refine⟨⟨e0.mod,S.kind,rfl,rfl,Nat.le_refl _,fun y z c h1 h2=>?_,fun y hy=>?_,fun y c _ h=>?_,fun _=>hd,Around.frames_deeper e0.frames,.inr ⟨rfl,rfl⟩,fun b z=>absurd z (noA b),e0.bs,e0.bsz,fun b _ _=>noA b,fun b z=>absurd z (noA b),e0.funs,e0.frf⟩,
  rfl,e0.bare,Un.kept hk,⟨_,x.toInCall.ns,fun i y v h1 h2 h3=>?_⟩,fun y c h=>⟨_,x.cell y c h⟩,e0.hok.fresh (Nat.le_refl _),fun y c h=>?_,fun p hp=>absurd (show p∈([]:List (Addr×Obj))from hp) (by simp),e0.hok.kept hk,?_⟩
 . exact name_of_addr x.apart (PySem.mem_of_lookup h1) (PySem.mem_of_lookup h2)
 . have hy:scope.names.lookup y=some .cell∨scope.names.lookup y=some .free:=hy
   rcases hy with hy | hy
   . exact mM hy
   exact absurd rfl (S.nofree _ (PySem.mem_of_lookup hy))
 . exact Nat.le_of_lt (x.above y c (PySem.mem_of_lookup h))
 . have hi:i < vs.length:=by
    unfold cg at h2;by_cases hi:i < vs.length
    . exact hi
    rw[List.getElem?_append_right (by simpa using hi)]at h2
    rw[List.getElem?_replicate]at h2;split at h2 <;> cases h2
   have ha:vs[i]?=some v:=by
    unfold cg at h2;rw[List.getElem?_append_left (by simpa using hi),List.getElem?_map]at h2
    cases e:vs[i]? with
    | none=>rw[e]at h2;cases h2
    | some a=>rw[e]at h2;cases h2;rfl
   obtain⟨u,hu,rv⟩:=r.get ha;have hp:ps[i]?=some y:=by
    rw[← S.pre,List.getElem?_take_of_lt (by omega)];exact h1
   have ndP:ps.Nodup:=by rw[← S.pre];exact S.nd.sublist (List.take_sublist _ _)
   refine⟨u,rv,?_⟩;rcases S.par y (List.mem_of_getElem? hp)with k | k
   . exact .inl ⟨k,kt ndP hp hu k⟩
   obtain⟨c,e⟩:=mM (n:=s.heap.objs.size+1) k;refine .inr ⟨.inl k,c,e,?_⟩;have q:=x.cell y c e;rw[kr ndP hp hu (by show scope.names.lookup y≠_;rw[k];decide)]at q
   exact q
 . exact e0.hok.fresh (Nat.le_of_lt (x.above y c (PySem.mem_of_lookup h)))
 unfold cg;show _=N.length;rw[List.length_append,List.length_map,List.length_replicate];omega
theorem xS{CX:CXT}{P:Program}{w:World}{K:W.Frag}{mg:Str->Option Value}{base:Heap}{k:Nat}{f:Addr}{name qual:Str}{params:Arguments}{body:List Stmt}{scope:Scope}{dV kV doc pm cdv ct oc:Value}{an od:Option Addr}
 {osl:Array (Option Value)}{N ps:List Str}{sp:Sp} (lk:K.lookup f=some ⟨oc,od,.func (W.fnOf name qual params body scope dV kV doc pm an cdv ct),osl⟩) (hcd:W.codeIn K cdv qual=true) (S:am N ps scope)
 (len:∀ vs H Q E,sp vs H Q E->vs.length=ps.length)
 (hbody:∀(A:Around) (outer:List Env) (s:Shared) (H:Hp) (vs:List V) (Q:VK) (E:XK),bp k (A.deeper (envOfC qual scope s.heap.objs.size f cdv))->sp vs H Q E ->
  ∃ t,PSs (f_ CX P w K mg base N qual scope f cdv A outer s H E) body t/\t { nx:=fun _ H'=>Q .non H',rt:=Q } (cg N vs) H) :
 eO P w K mg base CX (k+1) f (W.fnOf name qual params body scope dV kV doc pm an cdv ct) ps sp:=by
 refine⟨len,fun A outer s H args us vs Q E hr e0 hb r hsp=>?_⟩;have hl:=len _ _ _ _ hsp;have KX:K.In s.heap:=e0.mod.kin.keeps fun b o e=>(e0.bs b o e).1;have lim:s.heap.NoLimit:=e0.mod.nolimit.keeps fun b o e=>(e0.bs b o e).1;have hkind:∀ y∈ps.zip us,scope.names.lookup y.1=some .local∨(scope.names.lookup y.1=some .cell/\((cellsFrom (s.heap.objs.size+1) scope.names []).lookup y.1).isSome=true):=fun⟨n,v⟩ hy=>by
  rcases S.par n (List.of_mem_zip hy).1 with q | q
  . exact .inl q
  exact .inr ⟨q,W.cellsFrom_some _ _ _ (.inl q)⟩
 refine codeAny_call_function hr.depth (KX _ _ lk) rfl S.co S.gen rfl (W.codeRec_of KX hcd) (hb _ _ _ _ ?_);refine wpAny_newFunctionEnv_cells S.kind hkind fun env he s1 x=>?_;subst he;refine⟨lim.keeps x.toInCall.keep,codeAny_func ?_⟩;obtain⟨t,ht,hq⟩:=hbody A outer s H vs Q E (hr.deeper _) hsp;have I:Inv (f_ CX P w K mg base N qual scope f cdv A outer s H E) [] (cg N vs) H s1:=k9 S hr.hd e0 hl r x;refine wpAny_mono (ht [] s1 (cg N vs) H _ I hq) (fun fl s' hs=>?_) fun e s' hs=>hs;have fin:∀{U':St}{H':Hp}{v:V}{u:Value},Inv (f_ CX P w K mg base N qual scope f cdv A outer s H E) [] U' H' s'->aJ v u->Q v H'->CE outer P w H s Q u s':=
  fun {U' H' v u} J rv q=>⟨v,H',J.os,J.bare,J.base,J.hok,rv,q⟩
 cases fl with
 | ret u=>
   obtain⟨v,U',H',J,rv,q⟩:=hs;exact fin J rv q
 | next=>
   obtain⟨U',H',J,q⟩:=hs;exact fin (v:=V.non) (u:=Value.none) J rfl q
 | brk=>
   obtain⟨_,_,_,q⟩:=hs;exact False.elim q
 | cont=>
   obtain⟨_,_,_,q⟩:=hs;exact False.elim q
end L2
namespace L2
open PySem PySem.Spec PyProof.Rows
section
variable{X:Cx}{x:Str}{p pos:Pos}{e:Expr}{es:List Expr}{t:TA}{id T:String}{r:List V->Hp->VK->Prop}
def tCB(r:List V->Hp->VK->Prop)(t:TA):TE:=fun U H Q=>t U H fun vs H1=>r vs H1 Q
theorem sw(hc:bR X (.builtin id) r)(hg:Gl X x)(hm:X.mg x=none)(hv:bootBuiltins x=some (.builtin id))(ha:PA X (e::es) t)(hn:x ≠ "__name__":=by decide)(hdb:(x == ("__debug__":Str))=false:=by decide)
 (he:starEach (e::es) X.env=(false,eval e X.env)::starEach es X.env:=by rfl) (hpl:(backTo pos (starEach es X.env)).any (·.1)=false:=by rfl):PE X (.Call (.Name x p) (e::es) [] pos) (tCB r t):=by
 intro pins s U H Q I h;refine wpAny_Call_Name_kw (je I hg hm hv ?_ hn hdb);exact PyProof.Rows.callWith_builtin1 (thn (ha pos pins s U H _ I h) fun us s1 ⟨vs,H1,I1,r1,q1⟩=>hc pins s1 U H1 vs us Q I1 r1 q1) he hpl
theorem qU(hc:bR X (.type T) r)(hg:Gl X x)(hm:X.mg x=none)(hv:bootBuiltins x=some (.type T))(ha:PA X (e::es) t)(hn:x ≠ "__name__":=by decide)(hdb:(x == ("__debug__":Str))=false:=by decide)
 (he:starEach (e::es) X.env=(false,eval e X.env)::starEach es X.env:=by rfl) (hpl:(backTo pos (starEach es X.env)).any (·.1)=false:=by rfl):PE X (.Call (.Name x p) (e::es) [] pos) (tCB r t):=by
 intro pins s U H Q I h;refine wpAny_Call_Name_kw (je I hg hm hv ?_ hn hdb);exact PyProof.Rows.callWith_type1 (thn (ha pos pins s U H _ I h) fun us s1 ⟨vs,H1,I1,r1,q1⟩=>hc pins s1 U H1 vs us Q I1 r1 q1) he hpl
end
end L2
namespace HT
open PySem PyProof.Rows
section
open PySem.SeqAt
open PySem.AutoSeq1 (wpAny_loadPart')
open PySem.MeetsSeq PySem.MeetsSeq2 PySem.MeetsSeq3
end
section
variable{prog:Program}{w:World}{A:Around}{E:Value->Shared->Prop}{s:Shared}
def sIx(n d:Nat):Option Int->Nat
 | none=>d
 | some v=>if v < 0 then(v+(n:Int)).toNat else min v.toNat n
theorem um(n d:Nat):sIx n d none=d:=rfl
theorem mI(n d k:Nat):sIx n d (some (k:Int))=min k n:=by
 show(if(k:Int) < 0 then((k:Int)+(n:Int)).toNat else min (k:Int).toNat n)=min k n;rw[if_neg (by omega),Int.toNat_natCast]
end
end HT
namespace L2
open PySem PySem.Spec PyProof.Rows
abbrev TO:=St->Hp->(Option Int->Hp->Prop)->Prop
def PO(X:Cx)(e:Option Expr)(t:TO):Prop:=
 ∀(pins:List (Addr×Obj)) (s:Shared) (U:St) (H:Hp) (Q:Option Int->Hp->Prop),Inv X pins U H s->t U H Q ->
   wpAny (model X.prog X.w) X.A (evalPart e X.env) (fun u s'=>∃ o H',Inv X pins U H' s'/\IsPart u o/\Q o H') X.xe s
def mr:TO:=fun _ H Q=>Q none H
def sD(t:TE):TO:=fun U H Q=>t U H fun x H1=>∃ i,x=.int i/\Q (some i) H1
theorem jm{ns:List Int}:∀{us:List Value},aH (ns.map V.int) us->IntsAre us ns:=by
 induction ns with
 | nil=>intro us r;rw[List.map_nil]at r;cases r;exact .nil
 | cons n ns ih=>
   intro us r;rw[List.map_cons]at r;cases r with
   | cons r1 r2=>
     obtain⟨t,e⟩:=r1;subst e;exact .cons n t (ih r2)
section
variable{X:Cx}{e:Expr}{te:TE}{lo hi:Option Expr}{tl th:TO}{pos p2:Pos}
theorem xk:PO X none mr:=by
 intro pins s U H Q I h;rw[evalPart_none];exact wpAny_pure ⟨none,H,I,.none,h⟩
theorem xh(h:PE X e te):PO X (some e) (sD te):=by
 intro pins s U H Q I hw;rw[evalPart_some];refine thn (h pins s U H _ I hw) fun u s1 zz=>?_;obtain⟨x,H1,I1,r1,q1⟩:=zz;obtain⟨i,rfl,q⟩:=q1;obtain⟨t,rfl⟩:=r1;exact⟨some i,H1,I1,.int i t,q⟩
def SlR(X:Cx)(r:V->Option Int->Option Int->Hp->VK->Prop):Prop:=
 ∀(pins:List (Addr×Obj)) (s:Shared) (U:St) (H:Hp) (x:V) (v vl vu:Value) (lo hi:Option Int) (sl:Addr) (Q:VK),Inv X pins U H s->aJ x v->s.heap.IsSliceOf sl vl vu .none->IsPart vl lo->IsPart vu hi->r x lo hi H Q ->
   ∃ T id,typeLookup (.type T) "__getitem__"=pure (some (.builtin id))/\s.TypeIs v T/\wpAny (model X.prog X.w) X.A (getItem v (.ref sl)) (EP X pins U Q) X.xe s
def tSl(r:V->Option Int->Option Int->Hp->VK->Prop)(te:TE)(tl th:TO):TE:=fun U H Q=>te U H fun x H1=>tl U H1 fun l H2=>th U H2 fun u H3=>r x l u H3 Q
theorem tq{r:V->Option Int->Option Int->Hp->VK->Prop}(hr:SlR X r)(he:PE X e te)(hl:PO X lo tl)(hu:PO X hi th):PE X (.Subscript e (.Slice lo hi none p2) pos) (tSl r te tl th):=by
 intro pins s U H Q I h;refine Subscript_ (thn (he pins s U H _ I h) fun v s1 zz=>?_);obtain⟨x,H1,I1,r1,q1⟩:=zz;refine wpAny_Slice (thn (hl pins s1 U H1 _ I1 q1) fun vl s2 ⟨l,H2,I2,pl,q2⟩=>thn (hu pins s2 U H2 _ I2 q2) fun vu s3 zz=>?_);obtain⟨u,H3,I3,pu,q3⟩:=zz;rw[evalPart_none];refine wpAny_pure ?_;have I4:Inv X pins U H3 { s3 with heap:=s3.heap.push { cls:=.type "slice",data:=.fields #[vl,vu,.none] } }:=I3.kept (t':=s3.toks) fun b ob q=>Heap.get?_push_of_some _ q;obtain⟨T,id,hT,ht,hg⟩:=hr pins { s3 with heap:=s3.heap.push { cls:=.type "slice",data:=.fields #[vl,vu,.none] } } U H3 x v vl vu l u s3.heap.objs.size Q I4 r1 (Heap.IsSliceOf.new ..) pl pu q3;show wpAny (model X.prog X.w) X.A (subscriptTail e (.Slice lo hi none p2) v (.ref s3.heap.objs.size)) (EP X pins U Q) X.xe { s3 with heap:=s3.heap.push { cls:=.type "slice",data:=.fields #[vl,vu,.none] } };exact tail_any (ops:=[.ref s3.heap.objs.size,v]) ht hT hg (by with_unfolding_all rfl)
def iD(xs:List V)(lo hi:Option Int):List V:=(xs.drop (HT.sIx xs.length 0 lo)).take (HT.sIx xs.length xs.length hi - HT.sIx xs.length 0 lo)
theorem m6(xs:List V)(lo hi:Option Int):(iD xs lo hi).length<=xs.length:=by
 unfold iD;rw[List.length_take,List.length_drop];omega
end
end L2
namespace L2
open PySem PySem.Spec PyProof.Rows
def ixN(n:Nat)(i:Int):Option Nat:=if 0<=i then(if i < n then some i.toNat else none)else if -(n:Int)<=i then some (i+n).toNat else none
def atI{α:Type}(xs:List α)(i:Int):Option α:=(ixN xs.length i).bind fun j=>xs[j]?
theorem qt{n:Nat}{i:Int}{j:Nat}(h:ixN n i=some j):seqIndex? i n=some j/\j < n /\ -(n:Int)<=i/\i < n:=by
 unfold ixN at h;by_cases h0:0<=i
 . rw[if_pos h0]at h
   by_cases h1:i < n
   . rw[if_pos h1]at h
     have e:i.toNat=j:=Option.some.inj h;exact⟨by rw[seqIndex_of h0 h1,e],by omega,by omega,h1⟩
   rw[if_neg h1]at h;cases h
 rw[if_neg h0]at h;by_cases h1:-(n:Int)<=i
 . rw[if_pos h1]at h
   have e:(i+n).toNat=j:=Option.some.inj h;exact⟨by rw[seqIndex_neg (by omega) h1,e],by omega,h1,by omega⟩
 rw[if_neg h1]at h;cases h
theorem qi{α:Type}{xs:List α}{i:Int}{v:α}(h:atI xs i=some v):∃ j,seqIndex? i xs.length=some j/\xs[j]?=some v/\j < xs.length /\ -(xs.length:Int)<=i/\i < xs.length:=by
 unfold atI at h;cases e:ixN xs.length i with
 | none=>rw[e]at h;cases h
 | some j=>
   rw[e]at h;obtain⟨h1,h2,h3,h4⟩:=qt e;exact⟨j,h1,h,h2,h3,h4⟩
theorem mJ{α:Type}{xs:List α}{j:Nat}{v:α}(h:xs[j]?=some v):atI xs (j:Int)=some v:=by
 have hj:j < xs.length:=(List.getElem?_eq_some_iff.mp h).1;have e:ixN xs.length (j:Int)=some j:=by
  unfold ixN;rw[if_pos (by omega),if_pos (by omega)];simp
 unfold atI;rw[e];exact h
def qm(b:Expr):Prop:=∀ o i,subscripted b false o i=operate [o,i] (getItem o i)
def IxR(X:Cx)(r:R2):Prop:=
 ∀(value slice:Expr) (pins:List (Addr×Obj)) (s:Shared) (U:St) (H:Hp) (x y:V) (v u:Value) (Q:VK),Inv X pins U H s->aJ x v->aJ y u->r x y H Q ->
   subscripted slice false v u=operate [v,u] (getItem v u)->wpAny (model X.prog X.w) X.A (subscriptTail value slice v u) (EP X pins U Q) X.xe s
def MtR(X:Cx)(id:String)(r:V->List V->Hp->VK->Prop):Prop:=
 ∀(pins:List (Addr×Obj)) (s:Shared) (U:St) (H:Hp) (x:V) (xs:List V) (v:Value) (us:List Value) (Q:VK),Inv X pins U H s->aJ x v->aH xs us->r x xs H Q ->
   wpAny (model X.prog X.w) X.A (call (.builtin id) (v::us)) (EP X pins U Q) X.xe s
section
variable{X:Cx}{a b:Expr}{ta tb:TE}{pos:Pos}
theorem Ba{r:R2}(hr:IxR X r)(ha:PE X a ta)(hb:PE X b tb)(hs:qm b):PE X (.Subscript a b pos) (tOp r ta tb):=by
 intro pins s U H Q I h;exact Subscript_ (zl ha hb I h fun v u s2 x y H2 I2 rx ry q=>hr a b pins s2 U H2 x y v u Q I2 rx ry q (hs _ _))
def gm(K:W.Frag):R2:=fun x y H Q=>∃ p xs i v,x=.ref p/\y=.int i/\SqL K H p xs/\atI xs i=some v/\Q v H
def eY(K:W.Frag):R2:=fun x y H Q=>∃ p xs i v,x=.ref p/\y=.int i/\SqT K H p xs/\atI xs i=some v/\Q v H
theorem aG:IxR X (gm X.K):=by
 intro value slice pins s U H x y v u Q I rx ry h hs;obtain⟨p,xs,i,z,rfl,rfl,hq,he,q⟩:=h;cases rx;obtain⟨t,rfl⟩:=ry;obtain⟨its,r,pl,hz⟩:=I.list hq;obtain⟨j,h1,h2,h3,h4,h5⟩:=qi he;obtain⟨w,ew,rw'⟩:=r.get h2;have hl:=r.length;have hn:=jc;have fin:EP X pins U Q w s:=⟨z,H,I,rw',q⟩;by_cases h0:0<=i
 . have hj:i.toNat=j:=by
    rw[seqIndex_of h0 h5]at h1;exact Option.some.inj h1
   exact item_listR pl.isList h0 (by omega) (by rw[hj];simpa using ew) fin hs
 have hj:(i+(its.toArray.size:Int)).toNat=j:=by
  rw[seqIndex_neg (by omega) h4]at h1
  rw[List.size_toArray,← hl];exact Option.some.inj h1
 exact subscriptTail_builtinR (x:=w) pl.isList.typeIs slot_list_getitem.lookup
  (wpAny_getItem_list_neg (Q:=fun r s'=>r=w/\EP X pins U Q r s') pl.isList (by omega) (by rw[List.size_toArray] <;> omega) (by omega) (by rw[hj];simpa using ew) ⟨rfl,fin⟩) hs
theorem bJ:IxR X (eY X.K):=by
 intro value slice pins s U H x y v u Q I rx ry h hs;obtain⟨p,xs,i,z,rfl,rfl,hq,he,q⟩:=h;cases rx;obtain⟨t,rfl⟩:=ry;obtain⟨its,r,pl,hz⟩:=I.tuple hq;obtain⟨j,h1,h2,h3,h4,h5⟩:=qi he;obtain⟨w,ew,rw'⟩:=r.get h2;have hl:=r.length;have hn:=jc;have fin:EP X pins U Q w s:=⟨z,H,I,rw',q⟩;exact subscriptTail_builtinR (x:=w) pl.typeIs slot_tuple_getitem.lookup
  (getItem_tuple (j:=j) (Q:=fun r s'=>r=w/\EP X pins U Q r s') pl (by omega) (by omega) (by rw[List.size_toArray,← hl];exact h1) (by simpa using ew) ⟨rfl,fin⟩) hs
theorem o4(its:List Value)(n j:Nat)(u:Value):Obj.mapSeq (·.setIfInBounds j u) { cls:=.type "list",data:=.seq its.toArray n }={ cls:=.type "list",data:=.seq (its.set j u).toArray n }:=by
 simp[Obj.mapSeq]
theorem Inv.lst{pins:List (Addr×Obj)}{U:St}{H:Hp}{s:Shared}{p:Addr}{xs:List V}(I:Inv X pins U H s)(h:H p=some (.lst xs)) :
 ∃(its:List Value) (n:Nat),aH xs its/\s.heap.get? p=some { cls:=.type "list",data:=.seq its.toArray n } /\ xs.length<=sizeLine:=by
 obtain⟨z,its,n,r,e⟩:=I.hok p _ h;exact⟨its,n,r,e,z⟩
theorem Inv.lstUpd{pins:List (Addr×Obj)}{U:St}{H:Hp}{s:Shared}{p:Addr}{xs ys:List V}{its its':List Value}{n n':Nat}{f:Obj->Obj}(I:Inv X pins U H s)(h:H p=some (.lst xs))
 (ho:s.heap.get? p=some { cls:=.type "list",data:=.seq its.toArray n }) (hf:f { cls:=.type "list",data:=.seq its.toArray n }={ cls:=.type "list",data:=.seq its'.toArray n' }) (r:aH ys its') (hz:ys.length<=sizeLine) (t:Nat) :
 Inv X pins U (upd H p (.lst ys)) { s with heap:=s.heap.update p f,toks:=t }:=by
 have e:(s.heap.update p f).get? p=some { cls:=.type "list",data:=.seq its'.toArray n' }:=by
  rw[Heap.get?_update_self f ho (by rw[hf] <;> rfl),hf]
 refine I.write (x:=p) (e:=p) (by rw[h];trivial) (.inl rfl) (fun b u hb q=>(Heap.get?_update_other _ _ (Ne.symm hb)).trans q) ⟨_,e⟩ ?_
 exact⟨hz,its',n',r,e⟩
def c7:V->V->V->Hp->(Hp->Prop)->Prop:=fun o i v H Q=>∃ p xs k j,o=.ref p/\i=.int k/\H p=some (.lst xs)/\ixN xs.length k=some j/\Q (upd H p (.lst (xs.set j v)))
theorem jX:zI X c7:=by
 intro pins s U H o i v ov iv u Q I ro ri rv h;obtain⟨p,xs,k,j,rfl,rfl,hp,hj,q⟩:=h;cases ro;obtain⟨t,rfl⟩:=ri;obtain⟨its,n,r,ho,hz⟩:=I.lst hp;obtain⟨h1,h2,h3,h4⟩:=qt hj;have hl:=r.length;have hn:=jc;have I':Inv X pins U (upd H p (.lst (xs.set j v))) { s with heap:=s.heap.update p (Obj.mapSeq (·.setIfInBounds j u)) }:=
  I.lstUpd hp ho (o4 its n j u) (r.set rv j) (by rw[List.length_set];exact hz) s.toks
 by_cases h0:0<=k
 . have hk:k.toNat=j:=by
    rw[seqIndex_of h0 h4]at h1;exact Option.some.inj h1
   exact W.ki_setAt ho h0 (by omega) (by rw[List.size_toArray,← hl];exact h4) (by rw[hk];exact⟨_,I',q⟩)
 have hk:(k+(its.toArray.size:Int)).toNat=j:=by
  rw[seqIndex_neg (by omega) h3]at h1
  rw[List.size_toArray,← hl];exact Option.some.inj h1
 exact W.ki_setBack ho (by omega) (by rw[List.size_toArray,← hl];exact h3) (by omega) (by rw[hk];exact⟨_,I',q⟩)
theorem lQ(lo hi:Option Int)(n:Nat):(sliceBounds lo hi none n).1=((HT.sIx n 0 lo:Nat):Int)/\(sliceBounds lo hi none n).2.1=((HT.sIx n n hi:Nat):Int)/\(sliceBounds lo hi none n).2.2=1:=by
 refine⟨?_,?_,rfl⟩
 . cases lo with
   | none=>simp[sliceBounds,HT.sIx]
   | some i=>
     simp only[sliceBounds,HT.sIx,Option.getD_none,show(1:Int) > 0 by decide,if_true]
     by_cases h:i < 0
     . simp only[h,if_true] <;> omega
     simp only[h,if_false] <;> omega
 cases hi with
 | none=>simp[sliceBounds,HT.sIx]
 | some i=>
   simp only[sliceBounds,HT.sIx,Option.getD_none,show(1:Int) > 0 by decide,if_true]
   by_cases h:i < 0
   . simp only[h,if_true] <;> omega
   simp only[h,if_false] <;> omega
theorem ka(its:List Value)(lo hi:Option Int):slicePick its.toArray lo hi none=((its.drop (HT.sIx its.length 0 lo)).take (HT.sIx its.length its.length hi - HT.sIx its.length 0 lo)).toArray:=by
 obtain⟨h1,h2,h3⟩:=lQ lo hi its.toArray.size;unfold slicePick;rw[h1,h2,h3];simp only[sliceRange_one,pick_run,List.size_toArray] <;> rfl
def C0(K:W.Frag):V->Option Int->Option Int->Hp->VK->Prop:=fun x lo hi H Q=>∃ a xs,x=.ref a/\SqL K H a xs /\ ∀ p,H p=none->Q (.ref p) (upd H p (.lst (iD xs lo hi)))
theorem gM:SlR X (C0 X.K):=by
 intro pins s U H x v vl vu lo hi sl Q I rx hs pl pu h;obtain⟨a,xs,rfl,hx,q⟩:=h;cases rx;obtain⟨its,r,ht,hz⟩:=I.list hx;have hlen:=r.length;refine⟨"list",_,slot_list_getitem.lookup,ht.isList.typeIs,?_⟩;refine wpAny_getItem_list_slice ht.isList hs pl pu .none (by simp) ?_ (by rw[List.size_toArray] <;> omega)
 rw[ka,← hlen];refine⟨.ref s.heap.objs.size,_,I.laid (t':=s.toks) (o:=.lst (iD xs lo hi)) (fun b ob q=>Heap.get?_push_of_some _ q) (Nat.le_refl _) ?_,rfl,q _ (I.hok.fresh (Nat.le_refl _))⟩;exact⟨Nat.le_trans (m6 xs lo hi) hz,_,0,(r.drop (HT.sIx xs.length 0 lo)).take (HT.sIx xs.length xs.length hi - HT.sIx xs.length 0 lo),Heap.get?_push_size _ rfl⟩
def gz:V->Bool
 | .non=>true
 | .bl _=>true
 | .int _=>true
 | .str _=>true
 | _=>false
def eqV:V->V->Bool
 | .non,.non=>true
 | .bl a,.bl b=>a == b
 | .bl a,.int b=>(if a then 1 else 0) == b
 | .int a,.bl b=>a == (if b then 1 else 0)
 | .int a,.int b=>a == b
 | .str a,.str b=>a == b
 | _,_=>false
theorem y7{A:Around}{s:Shared}{y x:V}{u v:Value}(ry:aJ y u)(rx:aJ x v)(fy:gz y=true)(fx:gz x=true):SeqAt.EqAt A s u v (eqV y x):=by
 cases y with
 | non=>
   cases ry;cases x with
   | non=>cases rx;exact SeqAt.EqAt.same _
   | bl b=>cases rx;exact SeqAt.EqAt.none_bool b
   | int b=>obtain⟨t,rfl⟩:=rx;exact SeqAt.EqAt.none_int b t
   | str b=>obtain⟨t,rfl⟩:=rx;exact SeqAt.EqAt.none_str b t
   | _=>exact absurd (show false=true from fx) Bool.false_ne_true
 | bl a=>
   cases ry;cases x with
   | non=>cases rx;exact SeqAt.EqAt.bool_none a
   | bl b=>cases rx;exact SeqAt.EqAt.bool_bool a b
   | int b=>obtain⟨t,rfl⟩:=rx;exact SeqAt.EqAt.bool_int a b t
   | str b=>obtain⟨t,rfl⟩:=rx;exact SeqAt.EqAt.bool_str a b t
   | _=>exact absurd (show false=true from fx) Bool.false_ne_true
 | int a=>
   obtain⟨t',rfl⟩:=ry;cases x with
   | non=>cases rx;exact SeqAt.EqAt.int_none a t'
   | bl b=>cases rx;exact SeqAt.EqAt.int_bool a t' b
   | int b=>obtain⟨t,rfl⟩:=rx;exact SeqAt.EqAt.int_int a t' b t
   | str b=>obtain⟨t,rfl⟩:=rx;exact SeqAt.EqAt.int_str a t' b t
   | _=>exact absurd (show false=true from fx) Bool.false_ne_true
 | str a=>
   obtain⟨t',rfl⟩:=ry;cases x with
   | non=>cases rx;exact SeqAt.EqAt.str_none a t'
   | bl b=>cases rx;exact SeqAt.EqAt.str_bool a t' b
   | int b=>obtain⟨t,rfl⟩:=rx;exact SeqAt.EqAt.str_int a t' b t
   | str b=>obtain⟨t,rfl⟩:=rx;exact SeqAt.EqAt.str_str a t' b t
   | _=>exact absurd (show false=true from fx) Bool.false_ne_true
 | _=>exact absurd (show false=true from fy) Bool.false_ne_true
def eqU(x:V)(u:Value):Bool:=match u with
 | .none=>eqV .non x
 | .bool b=>eqV (.bl b) x
 | .int i _=>eqV (.int i) x
 | .str z _=>eqV (.str z) x
 | _=>false
theorem vp{x y:V}{u:Value}(r:aJ y u)(f:gz y=true):eqU x u=eqV y x:=by
 cases y with
 | non=>cases r;rfl
 | bl b=>cases r;rfl
 | int i=>obtain⟨t,rfl⟩:=r;rfl
 | str z=>obtain⟨t,rfl⟩:=r;rfl
 | _=>exact absurd (show false=true from f) Bool.false_ne_true
theorem gw{x:V}:∀{xs:List V}{us:List Value},aH xs us->xs.all gz=true->us.any (eqU x)=xs.any fun y=>eqV y x
 | _,_,.nil,_=>rfl
 | y::xs,u::us,.cons r t,f=>by
   rw[List.all_cons,Bool.and_eq_true]at f;rw[List.any_cons,List.any_cons,vp r f.1,gw t f.2]
theorem fm{A:Around}{s:Shared}{x:V}{v:Value}(rx:aJ x v)(fx:gz x=true):∀{xs:List V}{us:List Value},aH xs us->xs.all gz=true -> ∀ u∈us,SeqAt.EqAt A s u v (eqU x u)
 | _,_,.nil,_=>fun u hu=>by cases hu
 | y::xs,u::us,.cons r t,f=>fun u' hu=>by
   rw[List.all_cons,Bool.and_eq_true]at f;rcases List.mem_cons.mp hu with rfl | hu
   . rw[vp r f.1];exact y7 r rx f.1 fx
   exact fm rx fx t f.2 u' hu
def inV(x:V)(xs:List V):Bool:=xs.any fun y=>eqV y x
def rIn(K:W.Frag)(neg:Bool):R2:=fun x y H Q=>∃ p xs,y=.ref p/\(SqL K H p xs∨SqT K H p xs)/\gz x=true/\xs.all gz=true/\Q (.bl (if neg then !inV x xs else inV x xs)) H
theorem fD:OpR X (compareOp .In) (rIn X.K false):=by
 intro pins s U H x y v u Q I rx ry h;obtain⟨p,xs,rfl,hq,fx,fs,q⟩:=h;cases ry;rcases hq with hq | hq
 . obtain⟨its,r,pl,hz⟩:=I.list hq
   refine SeqAt.in_listAt (eqU x) pl.isList (fun w hw=>fm rx fx r fs w (by simpa using hw)) ⟨.bl _,H,I,rfl,?_⟩
   rw[show its.toArray.any (eqU x)=its.any (eqU x) by simp,gw r fs]
   exact q
 obtain⟨its,r,pl,hz⟩:=I.tuple hq;refine SeqAt.in_tupleAt (eqU x) pl (fun w hw=>fm rx fx r fs w (by simpa using hw)) ⟨.bl _,H,I,rfl,?_⟩
 rw[show its.toArray.any (eqU x)=its.any (eqU x) by simp,gw r fs]
 exact q
theorem lW:OpR X (compareOp .NotIn) (rIn X.K true):=by
 intro pins s U H x y v u Q I rx ry h;obtain⟨p,xs,rfl,hq,fx,fs,q⟩:=h;cases ry;rcases hq with hq | hq
 . obtain⟨its,r,pl,hz⟩:=I.list hq
   refine SeqAt.notIn_listAt (eqU x) pl.isList (fun w hw=>fm rx fx r fs w (by simpa using hw)) ⟨.bl _,H,I,rfl,?_⟩
   rw[show its.toArray.any (eqU x)=its.any (eqU x) by simp,gw r fs]
   exact q
 obtain⟨its,r,pl,hz⟩:=I.tuple hq;refine SeqAt.notIn_tupleAt (eqU x) pl (fun w hw=>fm rx fx r fs w (by simpa using hw)) ⟨.bl _,H,I,rfl,?_⟩
 rw[show its.toArray.any (eqU x)=its.any (eqU x) by simp,gw r fs]
 exact q
theorem aP:bR X (.builtin "len") (fun xs H Q=>∃ p ys,xs=[.ref p]/\(SqL X.K H p ys∨SqT X.K H p ys)/\Q (.int ys.length) H):=by
 intro pins s U H xs us Q I r h;obtain⟨p,ys,rfl,hq,q⟩:=h;obtain⟨u,rfl,rx⟩:=cZ r;cases rx;have hn:=jc;rcases hq with hq | hq
 . obtain⟨its,r',pl,hz⟩:=I.list hq
   have hlen:=r'.length;exact Calls.call_len_list pl.isList (by simp only[List.size_toArray] <;> omega) ⟨.int ys.length,H,I.tok _,⟨s.toks+1,by rw[List.size_toArray,hlen]⟩,q⟩
 obtain⟨its,r',pl,hz⟩:=I.tuple hq;have hlen:=r'.length;exact len_tuple pl (by simp only[List.size_toArray] <;> omega) ⟨.int ys.length,H,I.tok _,⟨s.toks+1,by rw[List.size_toArray,hlen]⟩,q⟩
theorem lL:bR X (.builtin "len") (fun xs H Q=>∃ z,xs=[.str z]/\z.length<=sizeLine/\Q (.int z.length) H):=by
 intro pins s U H xs us Q I r h;obtain⟨z,rfl,hz,q⟩:=h;obtain⟨u,rfl,t,rfl⟩:=cZ r;have hn:=jc;exact len_str (by omega) ⟨.int z.length,H,I.tok _,⟨_,rfl⟩,q⟩
theorem kf:bR X (.type "tuple") (fun xs H Q=>∃ p ys,xs=[.ref p]/\((SqL X.K H p ys /\ ∀ l,H l=none->Q (.ref l) (upd H l (.tup ys)))∨(SqT X.K H p ys/\Q (.ref p) H))):=by
 intro pins s U H xs us Q I r h;obtain⟨p,ys,rfl,h⟩:=h;obtain⟨u,rfl,rx⟩:=cZ r;cases rx;rcases h with ⟨hq,q⟩ | ⟨hq,q⟩
 . obtain⟨its,r',pl,hz⟩:=I.list hq
   have hlen:=r'.length;refine call_tuple_list pl.isList (fun h' kp=>?_) (by simp only[List.size_toArray] <;> omega)
   have I1:Inv X pins U H { s with heap:=h' }:=I.kept (t':=s.toks) kp;have I2:Inv X pins U (upd H h'.objs.size (.tup ys)) { s with heap:=h'.push { cls:=.type "tuple",data:=.seq its.toArray } }:=
    I1.laid (t':=s.toks) (fun b o e=>Heap.get?_push_of_some _ e) (Nat.le_refl _) (show bq X.prog X.w _ _ _ (.tup ys)from⟨hz,its,r',IsTup.new _ _⟩)
   exact⟨.ref h'.objs.size,_,I2,rfl,q _ (I1.hok.fresh (Nat.le_refl _))⟩
 obtain⟨its,r',pl,hz⟩:=I.tuple hq;exact call_tuple_same pl ⟨.ref p,H,I,rfl,q⟩
def tyV(K:W.Frag)(T:String)(x:V)(H:Hp):Prop:=match x with
 | .str _=>T="str"
 | .int _=>T="int"
 | .ref p=>(T="list" /\ ∃ xs,SqL K H p xs)∨(T="tuple" /\ ∃ o,K.lookup p=some o/\o.cls=.type "tuple" /\ o.dict=none) ∨
  (T="dict" /\ ((∃ kvs,H p=some (.dK kvs)) ∨ ∃ kvs,H p=some (.dT kvs)))∨(T="set" /\ ∃ S n,H p=some (.set S n))
 | _=>False
theorem Au{pins:List (Addr×Obj)}{U:St}{H:Hp}{s:Shared}{T:String}{x:V}{v:Value}(I:Inv X pins U H s)(r:aJ x v)(ty:tyV X.K T x H) :
 s.TypeIs v T /\ ∀ a,v=.ref a -> ∃ ob,s.heap.get? a=some ob/\ob.dict=none:=by
 cases x with
 | str z=>
   obtain⟨t,rfl⟩:=r;cases (show T="str" from ty);exact⟨typeIs_str s z t,fun _ e=>nomatch e⟩
 | int i=>
   obtain⟨t,rfl⟩:=r;cases (show T="int" from ty);exact⟨typeIs_int s i t,fun _ e=>nomatch e⟩
 | ref p=>
   cases r;rcases ty with ⟨rfl,xs,hq⟩ | ⟨rfl,o,hk,hc,hd⟩ | ⟨rfl,hk⟩ | ⟨rfl,S,n,hk⟩
   . obtain⟨its,_,pl,_⟩:=I.list hq
     refine⟨pl.isList.typeIs,fun a e=>?_⟩;cases e;obtain⟨o,n,e,c,hd,_⟩:=pl;exact⟨o,e,hd⟩
   . refine⟨⟨o,I.kIn p o hk,hc⟩,fun a e=>?_⟩
     cases e;exact⟨o,I.kIn _ o hk,hd⟩
   . have z:∃ o,s.heap.get? p=some o/\o.ExactDict:=by
      rcases hk with ⟨kvs,hk⟩ | ⟨kvs,hk⟩
      . obtain⟨_,_,_,_,o,_,_,e,ex,_⟩:=I.hok p _ hk
        exact⟨o,e,ex⟩
      obtain⟨_,_,_,_,o,_,_,e,ex,_⟩:=I.hok p _ hk;exact⟨o,e,ex⟩
     obtain⟨o,e,ex⟩:=z;refine⟨⟨o,e,ex.1⟩,fun a e2=>?_⟩;cases e2;exact⟨o,e,ex.2.1⟩
   obtain⟨o,_,_,_,e,ex,_⟩:=I.hok p _ hk;refine⟨⟨o,e,ex.1⟩,fun a e2=>?_⟩;cases e2;exact⟨o,e,ex.2.1⟩
 | _=>exact False.elim ty
def tBM(K:W.Frag)(T:String)(r:V->List V->Hp->VK->Prop)(to:TE)(t:TA):TE:=fun U H Q=>to U H fun x H1=>tyV K T x H1/\t U H1 fun xs H2=>r x xs H2 Q
variable{o e:Expr}{es:List Expr}{to:TE}{t:TA}{name:Str}{apos cpos:Pos}{T id:String}{r:V->List V->Hp->VK->Prop}
theorem Be(pa:PlainAttrs T)(slot:Slot T name id)(hty:typeOf (.builtin id)=pure (.type "method_descriptor"))(hm:MtR X id r)(ho:PE X o to)(ha:PA X (e::es) t)
 (hbase:attributeBase o name X.env (eval o X.env)=eval o X.env:=by rfl)
 (hfew:((backTo cpos (starEach (e::es) X.env)).all (fun x=>!x.1) && (backToKw cpos (keywordEach [] X.env)).all (fun x=>x.1.isSome)
  && decide ((e::es).length+([]:List Keyword).length+(if([]:List Keyword).isEmpty then 0 else 1) < 30))=true:=by rfl)
 (hline:(apos.endLine == cpos.line)=true:=by rfl) (hs:starEach (e::es) X.env=(false,eval e X.env)::starEach es X.env:=by rfl) (hplain:(backTo cpos (starEach es X.env)).any (·.1)=false:=by rfl) :
 PE X (.Call (.Attribute o name apos) (e::es) [] cpos) (tBM X.K T r to t):=by
 intro pins s U H Q I h;refine wpAny_Call_method_late hbase hfew hline rfl (thn (ho pins s U H _ I h) fun v s1 zz=>?_);obtain⟨x,H1,I1,r1,ty,q1⟩:=zz;obtain⟨h1,h2⟩:=Au I1 r1 ty;refine⟨T,id,pa,slot,hty,h1,h2,?_⟩;have hA:=ha cpos pins s1 U H1 _ I1 q1;rw[hs]at hA ⊢;refine Calls.callWith_builtin (by show(false || (backTo cpos (starEach es X.env)).any (·.1))=false;rw[hplain] <;> rfl) (Calls.evalArgs_plain ?_)
 exact thn hA fun us s2 ⟨vs,H2,I2,r2,q2⟩=>hm pins s2 U H2 x vs v us Q I2 r1 r2 q2
/- xs.append(e),list.index on a module's tuple .. are MtR facts of 06m -/
end
end L2
namespace L2
open PySem PySem.Spec PyProof.Rows
def MtM(X:Cx)(id:String)(r:V->List V->Hp->VK->Prop):Prop:=
 ∀(pins:List (Addr×Obj)) (s:Shared) (U:St) (H:Hp) (x:V) (xs:List V) (v:Value) (us:List Value) (Q:VK),Inv X pins U H s->aJ x v->aH xs us->r x xs H Q ->
   wpAny (model X.prog X.w) X.A (call (.builtin id) (v::us)) (EP X pins U Q) X.xe s
theorem aH.one:∀{x:V}{us:List Value},aH [x] us -> ∃ u,us=[u]/\aJ x u
 | _,_,.cons r .nil=>⟨_,rfl,r⟩
section
variable{X:Cx}{pins:List (Addr×Obj)}{U:St}{H:Hp}{s:Shared}{l b:Addr}{xs ys zs:List V}
theorem Inv.lset{its its':List Value}{n:Nat}{f:Array Value->Array Value}{t':Nat}(I:Inv X pins U H s)(hH:H l=some (.lst xs))
 (e:s.heap.get? l=some { cls:=.type "list",data:=.seq its.toArray n }) (hf:f its.toArray=its'.toArray) (hv:aH ys its') (hz:ys.length<=sizeLine) :
 Inv X pins U (upd H l (.lst ys)) { s with heap:=s.heap.update l (Obj.mapSeq f),toks:=t' }:=by
 have q:=PySem.IsL.update e f;rw[hf]at q;refine I.write (x:=l) (e:=l) (by rw[hH];exact trivial) (.inl rfl) (fun b' u hb hu=>(Heap.get?_update_other s.heap (Obj.mapSeq f) (Ne.symm hb)).trans hu) ⟨_,q⟩ ?_
 exact⟨hz,its',_,hv,q⟩
theorem Inv.lnew{its:List Value}{t':Nat}(I:Inv X pins U H s)(hv:aH ys its)(hz:ys.length<=sizeLine) :
 Inv X pins U (upd H s.heap.objs.size (.lst ys)) { s with heap:=s.heap.push { cls:=.type "list",data:=.seq its.toArray },toks:=t' }:=
 I.laid (fun _ _ q=>Heap.get?_push_of_some _ q) (Nat.le_refl _) ⟨hz,its,0,hv,Heap.get?_push_size _ rfl⟩
theorem Inv.fresh(I:Inv X pins U H s):H s.heap.objs.size=none:=I.hok.fresh (Nat.le_refl _)
theorem Inv.lstM(I:Inv X pins U H s)(hH:H l=some (.lst xs)):xs.length<=sizeLine /\ ∃(its:List Value) (n:Nat),aH xs its/\xs.length=its.length/\s.heap.get? l=some { cls:=.type "list",data:=.seq its.toArray n }:=by
 obtain⟨z,its,n,r,e⟩:=I.hok l _ hH;exact⟨z,its,n,r,r.length,e⟩
theorem uC{n:Nat}(h:n<=sizeLine):Builtin.List.listTooLong n=false:=by
 unfold Builtin.List.listTooLong;exact decide_eq_false (by omega)
end
section
variable{X:Cx}
def xv:V->List V->Hp->VK->Prop:=fun x vs H Q=>∃ l xs y,x=.ref l/\vs=[y]/\H l=some (.lst xs)/\xs.length < sizeLine/\Q .non (upd H l (.lst (xs++[y])))
theorem fu:MtM X "list.append" xv:=by
 intro pins s U H x vs v us Q I rx rv h;obtain⟨l,xs,y,rfl,rfl,hH,hz,q⟩:=h;cases rx;obtain⟨u,rfl,ru⟩:=rv.one;obtain⟨z,its,n,r,hl,e⟩:=I.lstM hH;refine call_meets F.slot_list_append ⟨_,e,rfl⟩ F.entry_list_append (F.args_list_append_2 _ _) (PySem.list_append l its.toArray n u (by rw[List.size_toArray];omega)) ⟨e,?_⟩
 refine⟨.non,_,I.lset (its':=its++[u]) hH e (by simp) (r.append (.cons ru .nil)) ?_,rfl,q⟩
 rw[List.length_append,List.length_singleton];omega
def vM:V->List V->Hp->VK->Prop:=fun x vs H Q=>∃ l b xs zs,x=.ref l/\vs=[.ref b]/\H l=some (.lst xs)/\H b=some (.lst zs)/\xs.length+zs.length<=sizeLine/\Q .non (upd H l (.lst (xs++zs)))
theorem kM:MtM X "list.extend" vM:=by
 intro pins s U H x vs v us Q I rx rv h;obtain⟨l,b,xs,zs,rfl,rfl,hH,hB,hz,q⟩:=h;cases rx;obtain⟨u,rfl,ru⟩:=rv.one;cases ru;obtain⟨z,its,n,r,hl,e⟩:=I.lstM hH;obtain⟨z2,its2,n2,r2,hl2,e2⟩:=I.lstM hB;have hsz:its.toArray.size+its2.toArray.size<=sizeLine:=by rw[List.size_toArray,List.size_toArray];omega
 have hlong:¬ (!its.toArray.isEmpty && Builtin.List.listTooLong (its.toArray.size+its2.toArray.size))=true:=by
  rw[uC hsz,Bool.and_false];exact Bool.false_ne_true
 refine call_meets F.slot_list_extend ⟨_,e,rfl⟩ F.entry_list_extend (F.args_list_extend_2 _ _)
  (AutoSeq1.list_extend_list_list_0 l its.toArray n b its2.toArray n2 hlong (by rw[List.size_toArray];omega) (by omega)) ⟨e,e2,?_⟩
 refine⟨.non,_,I.lset (its':=its++its2) hH e (by simp) (r.append r2) ?_,rfl,q⟩
 rw[List.length_append];omega
def DA:R2:=fun x y H Q=>∃ l b xs zs,x=.ref l/\y=.ref b/\H l=some (.lst xs)/\H b=some (.lst zs)/\xs.length+zs.length<=sizeLine /\ ∀ p,H p=none->Q (.ref p) (upd H p (.lst (xs++zs)))
theorem mG:OpR X (binaryOp .Add) DA:=by
 intro pins s U H x y v u Q I rx ry h;obtain⟨l,b,xs,zs,rfl,rfl,hH,hB,hz,q⟩:=h;cases rx;cases ry;obtain⟨z,its,n,r,hl,e⟩:=I.lstM hH;obtain⟨z2,its2,n2,r2,hl2,e2⟩:=I.lstM hB;refine PySem.P.add_list e e2 ?_ (by rw[List.size_toArray,List.size_toArray];omega)
 have ea:its.toArray++its2.toArray=(its++its2).toArray:=by simp
 rw[ea];exact⟨.ref _,_,I.lnew (t':=s.toks) (r.append r2) (by rw[List.length_append];omega),rfl,q _ I.fresh⟩
end
section
variable{prog:Program}{w:World}{A:Around}{E:Value->Shared->Prop}{s:Shared}
set_option maxRecDepth 100000 in
end
section
variable{X:Cx}
end
end L2
namespace L2
open PySem PySem.Spec PyProof.Rows
section
variable{κ:Type}[DecidableEq κ]
def bO(kvs:List (κ × V))(k:κ):Option V:=(kvs.find? fun kv=>decide (kv.1=k)).map (·.2)
def cP(kvs:List (κ × V))(k:κ)(v:V):List (κ × V):=
 if(kvs.any fun kv=>decide (kv.1=k))=true then kvs.map (fun kv=>if kv.1=k then(kv.1,v)else kv)else kvs++[(k,v)]
def cW(kvs:List (κ × V))(k:κ):List (κ × V):=kvs.filter fun kv=>decide (kv.1≠k)
theorem bP{p:κ × V}{r:List (κ × V)}{k:κ}(e:p.1=k):bO (p::r) k=some p.2:=by simp[bO,List.find?_cons,e]
theorem bQ{p:κ × V}{r:List (κ × V)}{k:κ}(e:¬ p.1=k):bO (p::r) k=bO r k:=by simp[bO,List.find?_cons,e]
theorem eQ(k:κ):∀ kvs:List (κ × V),(kvs.any fun kv=>decide (kv.1=k))=(bO kvs k).isSome
 | []=>rfl
 | p::r=>by
   rw[List.any_cons];by_cases e:p.1=k
   . simp only[bP e,decide_eq_true e,Bool.true_or,Option.isSome_some]
   rw[bQ e,decide_eq_false e,Bool.false_or];exact eQ k r
theorem m8(k j:κ)(y:V):∀ kvs:List (κ × V),bO (kvs.map fun kv=>if kv.1=k then(kv.1,y)else kv) j=(bO kvs j).map fun x=>if j=k then y else x
 | []=>rfl
 | p::r=>by
   have ih:=m8 k j y r;rw[List.map_cons];by_cases h:p.1=k
   . rw[if_pos h]
     by_cases e:p.1=j
     . rw[bP (p:=(p.1,y)) e,bP e,Option.map_some,if_pos (e.symm.trans h)]
     rw[bQ (p:=(p.1,y)) e,bQ e,ih]
   rw[if_neg h];by_cases e:p.1=j
   . rw[bP (p:=p) e,bP e,Option.map_some,if_neg (fun z=>h (e.trans z))]
   rw[bQ (p:=p) e,bQ e,ih]
theorem kR(k j:κ)(y:V):∀ kvs:List (κ × V),bO kvs k=none->bO (kvs++[(k,y)]) j=if j=k then some y else bO kvs j
 | [],_=>by
   by_cases e:k=j
   . rw[if_pos e.symm];exact bP (p:=(k,y)) e
   rw[if_neg (fun z=>e z.symm)];exact bQ (p:=(k,y)) e
 | p::r,hn=>by
   rw[List.cons_append];have hk:¬ p.1=k:=fun z=>by rw[bP z]at hn;cases hn
   rw[bQ hk]at hn;have ih:=kR k j y r hn;by_cases e:p.1=j
   . rw[bP e,bP e,if_neg (fun z=>hk (e.trans z))]
   rw[bQ e,bQ e,ih]
theorem tO(kvs:List (κ × V))(k j:κ)(y:V):bO (cP kvs k y) j=if j=k then some y else bO kvs j:=by
 unfold cP;by_cases a:(kvs.any fun kv=>decide (kv.1=k))=true
 . rw[if_pos a,m8]
   rw[eQ]at a;by_cases e:j=k
   . obtain⟨x,hx⟩:=Option.isSome_iff_exists.mp a
     rw[if_pos e,e,hx,Option.map_some,if_pos rfl]
   rw[if_neg e];cases bO kvs j with
   | none=>rfl
   | some x=>rw[Option.map_some,if_neg e]
 rw[if_neg a];refine kR k j y kvs ?_;rw[eQ]at a;cases q:bO kvs k with
 | none=>rfl
 | some x=>rw[q]at a;exact(a rfl).elim
theorem eX(kvs:List (κ × V))(k:κ)(v:V):(cP kvs k v).length<=kvs.length+1:=by
 unfold cP;split
 . rw[List.length_map];omega
 rw[List.length_append,List.length_cons,List.length_nil];omega
theorem dU.isSome_eq{o:Option V}{u:Option Value}(r:dU o u):o.isSome=u.isSome:=by
 cases o with
 | none=>cases u with
   | none=>rfl
   | some _=>exact(show False from r).elim
 | some _=>cases u with
   | none=>exact(show False from r).elim
   | some _=>rfl
theorem dU.getD{o:Option V}{u:Option Value}{d:V}{d':Value}(r:dU o u)(rd:aJ d d'):aJ (o.getD d) (u.getD d'):=by
 cases o with
 | none=>cases u with
   | none=>exact rd
   | some _=>exact(show False from r).elim
 | some _=>cases u with
   | none=>exact(show False from r).elim
   | some _=>exact r
theorem KV.val{kvs:List (κ × V)}{vs:List (κ × Value)}(r:KV kvs vs)(k:κ):dU (bO kvs k) (valueAt vs k):=by
 unfold KV at r
 induction r with
 | nil=>exact True.intro
 | @cons p q ps qs h t ih=>
   obtain⟨h1,h2⟩:=h;by_cases e:p.1=k
   . have e':q.1=k:=h1.symm.trans e
     have b:valueAt (q::qs) k=some q.2:=by simp[valueAt,List.find?_cons,e']
     rw[bP e,b];exact h2
   have e':¬ q.1=k:=fun z=>e (h1.trans z);have b:valueAt (q::qs) k=valueAt qs k:=by simp[valueAt,List.find?_cons,e']
   rw[bQ e,b];exact ih
theorem KV.any{kvs:List (κ × V)}{vs:List (κ × Value)}(r:KV kvs vs)(k:κ):(kvs.any fun kv=>decide (kv.1=k))=vs.any fun kv=>decide (kv.1=k):=by
 unfold KV at r
 induction r with
 | nil=>rfl
 | cons h t ih=>rw[List.any_cons,List.any_cons,ih,h.1]
theorem KV.repl{kvs:List (κ × V)}{vs:List (κ × Value)}(r:KV kvs vs)(k:κ){y:V}{u:Value}(ry:aJ y u) :
 KV (kvs.map fun kv=>if kv.1=k then(kv.1,y)else kv) (vs.map fun kv=>if kv.1=k then(kv.1,u)else kv):=by
 unfold KV at r ⊢
 induction r with
 | nil=>exact .nil
 | @cons p q ps qs h t ih=>
   rw[List.map_cons,List.map_cons];refine .cons ?_ ih;obtain⟨h1,h2⟩:=h;by_cases e:p.1=k
   . rw[if_pos e,if_pos (h1.symm.trans e)];exact⟨h1,ry⟩
   rw[if_neg e,if_neg (fun z=>e (h1.trans z))];exact⟨h1,h2⟩
theorem KV.put{kvs:List (κ × V)}{vs:List (κ × Value)}(r:KV kvs vs)(k:κ){y:V}{u:Value}(ry:aJ y u):KV (cP kvs k y) (stored vs k u):=by
 unfold cP stored;rw[r.any k];by_cases e:(vs.any fun kv=>decide (kv.1=k))=true
 . rw[if_pos e,if_pos e];exact r.repl k ry
 rw[if_neg e,if_neg e];exact Paired.snoc r ⟨rfl,ry⟩
theorem KV.drop{kvs:List (κ × V)}{vs:List (κ × Value)}(r:KV kvs vs)(k:κ):KV (cW kvs k) (without vs k):=by
 unfold KV at r ⊢;unfold cW without
 induction r with
 | nil=>exact .nil
 | @cons p q ps qs h t ih=>
   obtain⟨h1,h2⟩:=h;rw[List.filter_cons,List.filter_cons];by_cases e:p.1=k
   . have a:¬ decide (p.1≠k)=true:=by simp[e]
     have b:¬ decide (q.1≠k)=true:=by simp[h1.symm.trans e]
     rw[if_neg a,if_neg b];exact ih
   have e':¬ q.1=k:=fun z=>e (h1.trans z);have a:decide (p.1≠k)=true:=by simp[e]
   have b:decide (q.1≠k)=true:=by simp[e']
   rw[if_pos a,if_pos b];exact .cons ⟨h1,h2⟩ ih
theorem KV.length{kvs:List (κ × V)}{vs:List (κ × Value)}(r:KV kvs vs):kvs.length=vs.length:=Paired.length r
theorem uN(kvs:List (κ × V))(k:κ):(cW kvs k).length<=kvs.length:=List.length_filter_le _ _
end
theorem gQ{P:Program}{w:World}{k:Key}{u:Value}(r:aJ (kV k) u):(ba P w).is k u=true:=by
 cases k with
 | inl i=>obtain⟨t,e⟩:=(show ∃ t,u=Value.int i t from r);subst e;exact nZ P w i t
 | inr x=>obtain⟨t,e⟩:=(show ∃ t,u=Value.str x t from r);subst e;exact mS P w x t
theorem kq{P:Program}{w:World}:∀{ks:List Key}{us:List Value},aH (ks.map kV) us->ItemsAre (ba P w) ks us
 | [],_,r=>by rw[List.map_nil]at r;cases r;exact .nil
 | k::ks,_,r=>by
   rw[List.map_cons]at r;cases r with
   | cons h t=>exact .cons (gQ h) (kq t)
abbrev KT(H:Hp):List (List Key×V)->List (List Key×Addr×Value)->Prop:=Paired fun p q=>p.1=q.1/\H q.2.1=some (.tup (p.1.map kV))/\aJ p.2 q.2.2
theorem KT.val{H:Hp}{kvs:List (List Key×V)}{xs:List (List Key×Addr×Value)}(r:KT H kvs xs)(k:List Key):dU (bO kvs k) ((atKey xs k).map (·.2)):=by
 induction r with
 | nil=>exact True.intro
 | @cons p q ps qs h t ih=>
   obtain⟨h1,_,h2⟩:=h;by_cases e:p.1=k
   . have e':q.1=k:=h1.symm.trans e
     have b:atKey (q::qs) k=some q.2:=by simp[atKey,List.find?_cons,e']
     rw[bP e,b];exact h2
   have e':¬ q.1=k:=fun z=>e (h1.trans z);have b:atKey (q::qs) k=atKey qs k:=by simp[atKey,List.find?_cons,e']
   rw[bQ e,b];exact ih
theorem KT.repl{H:Hp}{kvs:List (List Key×V)}{xs:List (List Key×Addr×Value)}(r:KT H kvs xs)(k:List Key){y:V}{u:Value}(ry:aJ y u) :
 KT H (kvs.map fun kv=>if kv.1=k then(kv.1,y)else kv) (xs.map (putAt k u)):=by
 induction r with
 | nil=>exact .nil
 | @cons p q ps qs h t ih=>
   rw[List.map_cons,List.map_cons];refine .cons ?_ ih;obtain⟨h1,h2,h3⟩:=h;unfold putAt;by_cases e:p.1=k
   . rw[if_pos e,if_pos (h1.symm.trans e)];exact⟨h1,h2,ry⟩
   rw[if_neg e,if_neg (fun z=>e (h1.trans z))];exact⟨h1,h2,h3⟩
theorem KT.put{H:Hp}{kvs:List (List Key×V)}{xs:List (List Key×Addr×Value)}(r:KT H kvs xs)(k:List Key){b:Addr}{y:V}{u:Value}(hb:H b=some (.tup (k.map kV)))(ry:aJ y u) :
 KT H (cP kvs k y) (storedH xs k b u):=by
 have e:(kvs.any fun kv=>decide (kv.1=k))=(atKey xs k).isSome:=by
  rw[eQ,(r.val k).isSome_eq,Option.isSome_map]
 unfold cP storedH;rw[e];by_cases q:(atKey xs k).isSome=true
 . rw[if_pos q,if_pos q];exact r.repl k ry
 rw[if_neg q,if_neg q];exact Paired.snoc r ⟨rfl,hb,ry⟩
theorem KT.keeps{H H':Hp}{kvs:List (List Key×V)}{xs:List (List Key×Addr×Value)}(r:KT H kvs xs)(ht:∀ b ys,H b=some (.tup ys)->H' b=some (.tup ys)):KT H' kvs xs:=
 Paired.mapP r fun _ _ z=>⟨z.1,ht _ _ z.2.1,z.2.2⟩
section
variable{P:Program}{w:World}{H:Hp}{h:Heap}{a:Addr}
theorem xC{u:HO}(ok:HOk P w H h)(e:Rd H a u):bq P w H h a u:=e.ok ok
theorem fk{kvs:List (Key×V)}(ok:HOk P w H h)(e:Rd H a (.dK kvs)):kvs.length<=sizeLine/\(a == sysModules)=false /\ ∃ vs,KV kvs vs/\h.DictOf (ba P w) a vs:=
 show bq P w H h a (.dK kvs)from xC ok e
theorem kW{kvs:List (Key×V)}(ok:HOk P w H h)(e:H a=some (.dK kvs)):kvs.length<=sizeLine/\(a == sysModules)=false /\ ∃ vs,KV kvs vs/\h.DictOf (ba P w) a vs:=fk ok (.inl e)
theorem h7{ks:List Key}(ok:HOk P w H h)(e:H a=some (.tup (ks.map kV))):(tupleKind (ba P w)).is h ks a:=by
 obtain⟨_,its,r,o,h1,h2,n,h3⟩:=(show bq P w H h a (.tup (ks.map kV))from ok a _ e);exact⟨o,its.toArray,n,h1,h2,h3,by simpa using kq r⟩
theorem jF{kvs:List (List Key×V)}(ok:HOk P w H h)(e:Rd H a (.dT kvs)):kvs.length<=sizeLine/\(a == sysModules)=false /\
 ∃ xs,KT H kvs xs/\h.DictOfH (tupleKind (ba P w)) a xs:=by
 obtain⟨z,y,xs,r,o,es,ep,h1,h2,h3,h4,h5⟩:=(show bq P w H h a (.dT kvs)from xC ok e);refine⟨z,y,xs,r,o,es,ep,h1,h2,h3,h4,fun x hx=>?_,h5⟩;have all:∀{l:List (List Key×V)}{m:List (List Key×Addr×Value)},KT H l m -> ∀ x∈m,(tupleKind (ba P w)).is h x.1 x.2.1:=by
  intro l m q
  induction q with
  | nil=>intro x hx;exact nomatch hx
  | @cons p q ps qs hq t ih=>
    intro x hx;rcases List.mem_cons.mp hx with e | hx
    . subst e
      exact h7 ok (by rw[← hq.1];exact hq.2.1)
    exact ih x hx
 exact all r x hx
theorem AX{kvs:List (List Key×V)}(ok:HOk P w H h)(e:H a=some (.dT kvs)):kvs.length<=sizeLine/\(a == sysModules)=false /\
 ∃ xs,KT H kvs xs/\h.DictOfH (tupleKind (ba P w)) a xs:=jF ok (.inl e)
end
def cR(H:Hp)(a:Addr)(y:V)(r:Option V):Prop:=
 (∃ kvs k,Rd H a (.dK kvs)/\y=kV k/\r=bO kvs k) ∨ ∃ kvs k b,Rd H a (.dT kvs)/\y=.ref b/\H b=some (.tup (k.map kV))/\r=bO kvs k
def ke(H:Hp)(a:Addr)(y v:V)(H':Hp):Prop:=
 (∃ kvs k,H a=some (.dK kvs)/\y=kV k/\kvs.length < sizeLine/\H'=upd H a (.dK (cP kvs k v))) ∨
 ∃ kvs k b,H a=some (.dT kvs)/\y=.ref b/\H b=some (.tup (k.map kV))/\kvs.length < sizeLine/\H'=upd H a (.dT (cP kvs k v))
theorem cR.k{H:Hp}{a:Addr}{kvs:List (Key×V)}{k:Key}(e:H a=some (.dK kvs)):cR H a (kV k) (bO kvs k):=.inl ⟨kvs,k,.inl e,rfl,rfl⟩
theorem ke.k{H:Hp}{a:Addr}{kvs:List (Key×V)}{k:Key}{v:V}(e:H a=some (.dK kvs))(hl:kvs.length < sizeLine):ke H a (kV k) v (upd H a (.dK (cP kvs k v))):=.inl ⟨kvs,k,e,rfl,hl,rfl⟩
section
variable{X:Cx}{pins:List (Addr×Obj)}{U:St}{H:Hp}{s:Shared}{a:Addr}{y v:V}{u r:Value}{o:Option V}{A:Around}{E:Value->Shared->Prop}
theorem Inv.big(I:Inv X pins U H s):sysModules < s.heap.objs.size:=by
 have h:mainGlobals < s.heap.objs.size:=(I.mod.glob.keeps I.bk).lt;exact Nat.lt_trans (by decide) h
theorem rB{Q:Value->Shared->Prop}(hu:A.units+1 < cLine)(I:Inv X pins U H s)(g:cR H a y (some v))(ry:aJ y u)(h:∀ w' s',Inv X pins U H s'->aJ v w'->Q w' s') :
 wpAny (model X.prog X.w) A (getItem (.ref a) u) Q E s:=by
 rcases g with ⟨kvs,k,e,ey,l⟩ | ⟨kvs,k,b,e,ey,eb,l⟩
 . subst ey
   obtain⟨z,hd,vs,rel,dd⟩:=fk I.hok e;obtain⟨w',hw,rw'⟩:=dU.some_of (v:=v) (o:=valueAt vs k) (by rw[l];exact rel.val k)
   exact wpAny_getItem_of (gQ ry) dd.mapOf hw (h w' _ (I.tok _) rw')
 subst ey;cases (show u=Value.ref b from ry);obtain⟨z,hd,xs,rel,dd⟩:=jF I.hok e;obtain⟨w',hw,rw'⟩:=dU.some_of (v:=v) (o:=(atKey xs k).map (·.2)) (by rw[l];exact rel.val k)
 obtain⟨p,hp,hp2⟩:=Option.map_eq_some_iff.mp hw;refine wpAny_getItem_heap (tupleKind_room_in1 hu) (h7 I.hok eb) dd hp ?_;rw[hp2];exact h w' _ (I.tok _) rw'
theorem Dc{Q:Value->Shared->Prop}(hu:A.units+1 < cLine)(I:Inv X pins U H s)(g:cR H a y o)(ry:aJ y u)(h:∀ s',Inv X pins U H s'->Q (.bool o.isSome) s') :
 wpAny (model X.prog X.w) A (compareOp .In u (.ref a)) Q E s:=by
 rcases g with ⟨kvs,k,e,ey,l⟩ | ⟨kvs,k,b,e,ey,eb,l⟩
 . subst ey
   obtain⟨z,hd,vs,rel,dd⟩:=fk I.hok e;refine wpAny_in_of (gQ ry) hd dd.mapOf ?_;rw[← (rel.val k).isSome_eq,← l];exact h _ (I.tok _)
 subst ey;cases (show u=Value.ref b from ry);obtain⟨z,hd,xs,rel,dd⟩:=jF I.hok e;refine wpAny_in_heap (tupleKind_room_in1 hu) (h7 I.hok eb) hd dd ?_;have q:=(rel.val k).isSome_eq;rw[Option.isSome_map]at q;rw[← q,← l];exact h _ (I.tok _)
theorem wj{Q:Value->Shared->Prop}(hu:A.units+1 < cLine)(I:Inv X pins U H s)(g:cR H a y o)(ry:aJ y u)(h:∀ s',Inv X pins U H s'->Q (.bool (!o.isSome)) s') :
 wpAny (model X.prog X.w) A (compareOp .NotIn u (.ref a)) Q E s:=by
 rcases g with ⟨kvs,k,e,ey,l⟩ | ⟨kvs,k,b,e,ey,eb,l⟩
 . subst ey
   obtain⟨z,hd,vs,rel,dd⟩:=fk I.hok e;refine wpAny_notIn_of (gQ ry) hd dd.mapOf ?_;rw[← (rel.val k).isSome_eq,← l];exact h _ (I.tok _)
 subst ey;cases (show u=Value.ref b from ry);obtain⟨z,hd,xs,rel,dd⟩:=jF I.hok e;refine wpAny_notIn_heap (tupleKind_room_in1 hu) (h7 I.hok eb) hd dd ?_;have q:=(rel.val k).isSome_eq;rw[Option.isSome_map]at q;rw[← q,← l];exact h _ (I.tok _)
theorem iS{h':Heap}{t':Nat}{ob:HO}(I:Inv X pins U H s)(mu:Mut (H a))(hs:Heap.SameBut a s.heap h')(he:∃ q,h'.get? a=some q)(new:bq X.prog X.w (upd H a ob) h' a ob) :
 Inv X pins U (upd H a ob) { s with heap:=h',toks:=t' }:=
 I.write (x:=a) (e:=a) mu (.inl rfl) (fun b q hb z=>(hs.2 b hb).trans z) he new
theorem o6{P:Program}{w:World}{H':Hp}{h':Heap}{kvs:List (Key×V)}{vs:List (Key×Value)}(z:kvs.length<=sizeLine)(hd:(a == sysModules)=false)(rel:KV kvs vs)(dd:h'.DictOf (ba P w) a vs) :
 bq P w H' h' a (.dK kvs):=⟨z,hd,vs,rel,dd⟩
theorem q_{H':Hp}{Q:Unit->Shared->Prop}(hu:A.units+1 < cLine)(I:Inv X pins U H s)(g:ke H a y v H')(ry:aJ y u)(rv:aJ v r)(h:∀ s',Inv X pins U H' s'->Q () s') :
 wpAny (model X.prog X.w) A (setItem (.ref a) u r) Q E s:=by
 rcases g with ⟨kvs,k,e,ey,l,eH⟩ | ⟨kvs,k,b,e,ey,eb,l,eH⟩
 . subst ey eH
   obtain⟨z,hd,vs,rel,dd⟩:=kW I.hok e;have hz:vs.length<=sizeLine:=by rw[← rel.length];exact z
   have hl:(cP kvs k v).length<=sizeLine:=by have:=eX kvs k v;omega
   refine wpAny_setItem_pairs (hsz:=hz) (gQ ry) dd fun h' dd' hs=>h _ ?_;have he:∃ q,h'.get? a=some q:=let⟨q,_,_,hq,_⟩:=dd';⟨q,hq⟩;exact iS I (by rw[e];exact True.intro) hs he (o6 hl hd (rel.put k rv) dd')
 subst ey eH;cases (show u=Value.ref b from ry);obtain⟨z,hd,xs,rel,dd⟩:=AX I.hok e;have hz:xs.length<=sizeLine:=by rw[← Paired.length rel];exact z
 have hl:(cP kvs k v).length<=sizeLine:=by have:=eX kvs k v;omega
 refine wpAny_setItem_heap (hsz:=hz) (tupleKind_room_in1 hu) (h7 I.hok eb) dd fun h' dd' hs=>h _ ?_;obtain⟨q,es,ep,hq,h2,h3,h4,_,h5⟩:=dd';refine iS I (by rw[e];exact True.intro) hs ⟨q,hq⟩ ⟨hl,hd,_,(rel.put k eb rv).keeps fun c ys ec=>?_,q,es,ep,hq,h2,h3,h4,h5⟩
 rw[af (aR ec e (fun z=>nomatch z))];exact ec
end
section
variable{X:Cx}{pins:List (Addr×Obj)}{U:St}{H:Hp}{s:Shared}{a:Addr}{kvs:List (Key×V)}{k:Key}{u:Value}{A:Around}{E:Value->Shared->Prop}
theorem xE{v:V}{more:List Value}{Q:Value->Shared->Prop}(I:Inv X pins U H s)(e:H a=some (.dK kvs))(ry:aJ (kV k) u)(l:bO kvs k=some v)(hm:more=[] ∨ ∃ x,more=[x])
 (h:∀ w' s',Inv X pins U (upd H a (.dK (cW kvs k))) s'->aJ v w'->Q w' s'):wpAny (model X.prog X.w) A (call (.builtin "dict.pop") (.ref a::u::more)) Q E s:=by
 obtain⟨z,hd,vs,rel,dd⟩:=kW I.hok e;obtain⟨w',hw,rw'⟩:=dU.some_of (v:=v) (o:=valueAt vs k) (by rw[← l];exact rel.val k)
 have hp:(keyPart u).isSome=true:=by
  cases k with
  | inl i=>obtain⟨t,q⟩:=(show ∃ t,u=Value.int i t from ry);subst q;rfl
  | inr x=>obtain⟨t,q⟩:=(show ∃ t,u=Value.str x t from ry);subst q;rfl
 have ha:argsOk "dict.pop" ⟨.ref a::u::more,[]⟩:=by
  rcases hm with q | ⟨x,q⟩
  . subst q;exact PySem.F.args_dict_pop_2 _ _
  subst q;exact PySem.F.args_dict_pop_3 _ _ _
 refine call_meetsIn PySem.F.slot_dict_pop dd.typeIs PySem.F.entry_dict_pop ha (meets_dict_pop_there (ba X.prog X.w) a (gQ ry) more hm hp)
  ⟨vs,w',dd,by rw[← rel.length];exact z,hw,fun h' dd' hs=>h w' _ ?_ rw'⟩
 have he:∃ q,h'.get? a=some q:=let⟨q,_,_,hq,_⟩:=dd';⟨q,hq⟩;exact iS I (by rw[e];exact True.intro) hs he (o6 (Nat.le_trans (uN kvs k) z) hd (rel.drop k) dd')
theorem z8{r:Value}{Q:Value->Shared->Prop}(I:Inv X pins U H s)(e:H a=some (.dK kvs))(ry:aJ (kV k) u)(l:bO kvs k=none)(h:∀ s',Inv X pins U H s'->Q r s') :
 wpAny (model X.prog X.w) A (call (.builtin "dict.pop") [.ref a,u,r]) Q E s:=by
 obtain⟨z,hd,vs,rel,dd⟩:=kW I.hok e;have hn:valueAt vs k=none:=dU.none_of (by rw[← l];exact rel.val k)
 have hp:(keyPart u).isSome=true:=by
  cases k with
  | inl i=>obtain⟨t,q⟩:=(show ∃ t,u=Value.int i t from ry);subst q;rfl
  | inr x=>obtain⟨t,q⟩:=(show ∃ t,u=Value.str x t from ry);subst q;rfl
 exact call_meetsIn PySem.F.slot_dict_pop dd.typeIs PySem.F.entry_dict_pop (PySem.F.args_dict_pop_3 _ _ _) (meets_dict_pop_default (ba X.prog X.w) a (gQ ry) hd hp r) ⟨vs,dd,hn,h _ (I.tok _)⟩
theorem BD{Q:Value->Shared->Prop}(I:Inv X pins U H s)(e:Rd H a (.dK kvs))(h:∀ t s',Inv X pins U H s'->Q (.int kvs.length t) s'):wpAny (model X.prog X.w) A (call (.builtin "len") [.ref a]) Q E s:=by
 obtain⟨z,hd,vs,rel,dd⟩:=fk I.hok e;refine call_len_dict hd dd (by rw[← rel.length];rw[sizeLine_eq]at z;omega) ?_
 rw[← rel.length];exact h _ _ (I.tok _)
end
def z6(i:Expr):Prop:=∀ ov iv,subscripted i false ov iv=operate [ov,iv] (getItem ov iv)
theorem wA{prog:Program}{w:World}{A:Around}{E:Value->Shared->Prop}{s:Shared}{env:Env}{value slice:Expr}{pos:Pos}{T id:String}{Q:Value->Shared->Prop}
 (hl:typeLookup (.type T) "__getitem__"=pure (some (.builtin id))) (hs:z6 slice)
 (h:wpAny (model prog w) A (eval value env) (fun o s₁=>wpAny (model prog w) A (eval slice env) (fun i s₂=>s₂.TypeIs o T/\wpAny (model prog w) A (getItem o i) Q E s₂) E s₁) E s) :
 wpAny (model prog w) A (eval (.Subscript value slice pos) env) Q E s:=by
 refine Subscript_ (wpAny_mono h (fun o s₁ h₁=>wpAny_mono h₁ (fun i s₂ h₂=>?_) fun _ _ x=>x) fun _ _ x=>x);obtain⟨hT,h₂⟩:=h₂;unfold subscriptTail;refine wpAny_bind ?_;rw[getitemInPython_of_ne hT.not_modules];refine wpAny_bind (wpAny_specialOf hT hl ?_);have fin:wpAny (model prog w) A (subscripted slice false o i) (fun r s₃=>wpAny (model prog w) A (letTemporaryGo value o r >>= fun _=>pure r) Q E s₃) E s₂:=by
  rw[hs o i];exact wpAny_operating (wpAny_mono h₂ (fun r s₃ h₃=>wpAny_bind (wpAny_letTemporaryGo (wpAny_pure h₃))) fun _ _ x=>x)
 first
  | exact wpAny_pure (wpAny_bind fin)
  | exact wpAny_bind (wpAny_pure (wpAny_bind fin))
  | exact wpAny_bind fin
theorem nj{X:Cx}{pins:List (Addr×Obj)}{U:St}{H:Hp}{s:Shared}{a:Addr}{y:V}{o:Option V}(I:Inv X pins U H s)(g:cR H a y o):s.TypeIs (.ref a) "dict":=by
 rcases g with ⟨kvs,k,e,_,_⟩ | ⟨kvs,k,b,e,_,_,_⟩
 . obtain⟨_,_,vs,_,dd⟩:=fk I.hok e
   exact dd.typeIs
 obtain⟨_,_,xs,_,dd⟩:=jF I.hok e;exact dd.typeIs
def uw(td ty:TE):TE:=fun U H Q=>td U H fun x H1=>ty U H1 fun y H2=>∃ a v,x=.ref a/\cR H2 a y (some v)/\Q v H2
def Ap(ty td:TE):TE:=fun U H Q=>ty U H fun y H1=>td U H1 fun x H2=>∃ a o,x=.ref a/\cR H2 a y o/\Q (.bl o.isSome) H2
def lS(ty td:TE):TE:=fun U H Q=>ty U H fun y H1=>td U H1 fun x H2=>∃ a o,x=.ref a/\cR H2 a y o/\Q (.bl (!o.isSome)) H2
def sX(td ty tv:TE):TS:=fun D U H=>tv U H fun v H1=>td U H1 fun x H2=>ty U H2 fun y H3=>∃ a H4,x=.ref a/\ke H3 a y v H4/\D.nx U H4
section
variable{X:Cx}{o i e value:Expr}{pos pos' tpos:Pos}{td ty tv:TE}
theorem wW(hu:X.A.units+1 < cLine)(ho:PE X o td)(hi:PE X i ty)(hs:z6 i):PE X (.Subscript o i pos) (uw td ty):=by
 intro pins s U H Q I h;refine wA PySem.F.slot_dict_getitem.lookup hs (thn (ho pins s U H _ I h) fun u s1 ⟨x,H1,I1,rx,q1⟩=>thn (hi pins s1 U H1 _ I1 q1) fun iv s2 zz=>?_);obtain⟨y,H2,I2,ry,a,v,ex,g,q2⟩:=zz;subst ex;obtain rfl:u=Value.ref a:=rx;exact⟨nj I2 g,rB hu I2 g ry fun w' s3 I3 rw'=>⟨v,H2,I3,rw',q2⟩⟩
theorem Az(hu:X.A.units+1 < cLine)(hi:PE X i ty)(ho:PE X o td):PC X .In i o (Ap ty td):=by
 intro pins s U H Q I h;refine thn (hi pins s U H _ I h) fun iv s1 ⟨y,H1,I1,ry,q1⟩=>thn (ho pins s1 U H1 _ I1 q1) fun u s2 zz=>?_;obtain⟨x,H2,I2,rx,a,ov,ex,g,q2⟩:=zz;subst ex;obtain rfl:u=Value.ref a:=rx;exact Dc hu I2 g ry fun s3 I3=>⟨.bl ov.isSome,H2,I3,rfl,q2⟩
theorem qI(hu:X.A.units+1 < cLine)(hi:PE X i ty)(ho:PE X o td):PC X .NotIn i o (lS ty td):=by
 intro pins s U H Q I h;refine thn (hi pins s U H _ I h) fun iv s1 ⟨y,H1,I1,ry,q1⟩=>thn (ho pins s1 U H1 _ I1 q1) fun u s2 zz=>?_;obtain⟨x,H2,I2,rx,a,ov,ex,g,q2⟩:=zz;subst ex;obtain rfl:u=Value.ref a:=rx;exact wj hu I2 g ry fun s3 I3=>⟨.bl (!ov.isSome),H2,I3,rfl,q2⟩
theorem wx(hu:X.A.units+1 < cLine)(ho:PE X o td)(hi:PE X i ty)(hv:PE X value tv)(hs:swapsWith value (some (.Subscript o i pos')) pos.line X.env=pure false) :
 PS X (.Assign [.Subscript o i pos'] value pos) (sX td ty tv):=by
 intro pins s U H D I h;refine wpAny_Assign_Subscript (thn (hv pins s U H _ I h) fun r s1 ⟨v,H1,I1,rv,q1⟩=>thn (ho pins s1 U H1 _ I1 q1) fun u s2 ⟨x,H2,I2,rx,q2⟩=>thn (hi pins s2 U H2 _ I2 q2) fun iv s3 ⟨y,H3,I3,ry,a,H4,ex,g,q3⟩=>?_) hs;subst ex;obtain rfl:u=Value.ref a:=rx;exact q_ hu I3 g ry rv fun s4 I4=>⟨U,H4,I4,q3⟩
end
theorem m5{P:Program}{w:World}{H:Hp}(h:Heap)(hb:sysModules < h.objs.size):bq P w H (h.push { cls:=.type "dict",data:=.dict #[] }) h.objs.size (.dK []):=
 ⟨Nat.zero_le _,beq_eq_false_iff_ne.mpr (Ne.symm (Nat.ne_of_lt hb)),[],.nil,Heap.DictOf.new h⟩
def uV:TE:=fun _ H Q=>∀ p,H p=none->Q (.ref p) (upd H p (.dK []))
section
variable{X:Cx}{pos:Pos}
theorem vH:PE X (.Dict [] [] pos) uV:=fun pins s U H Q I h=>
 wpAny_Dict_empty ⟨.ref s.heap.objs.size,_,I.laid (a:=s.heap.objs.size) (o:=.dK []) (t':=s.toks) (fun _ _ q=>Heap.get?_push_of_some _ q) (Nat.le_refl _) (m5 s.heap I.big),rfl,h _ (I.hok.fresh (Nat.le_refl _))⟩
end
def gf:List (TE×TE)->St->Hp->(List (V×V)->Hp->Prop)->Prop
 | [],_,H,Q=>Q [] H
 | (tk,tv)::r,U,H,Q=>tk U H fun x H1=>tv U H1 fun y H2=>gf r U H2 fun ps H3=>Q ((x,y)::ps) H3
abbrev VV:List (V×V)->List (Value×Value)->Prop:=Paired fun p q=>aJ p.1 q.1/\aJ p.2 q.2
def PPs(X:Cx)(pos:Pos)(keys:List (Option Expr))(values:List Expr)(trs:List (TE×TE)):Prop:=
 ∀(pins:List (Addr×Obj)) (s:Shared) (U:St) (H:Hp) (Q:List (V×V)->Hp->Prop),Inv X pins U H s->gf trs U H Q ->
   wpAny (model X.prog X.w) X.A (evalPairs (pairTrees keys values X.env pos)) (fun vs s'=>∃ ps H',Inv X pins U H' s'/\VV ps vs/\Q ps H') X.xe s
theorem wu{X:Cx}{pos:Pos}:PPs X pos [] [] []:=fun pins s U H Q I h=>pairTrees_nil_walk ⟨[],H,I,.nil,h⟩
theorem sV{X:Cx}{pos:Pos}{k v:Expr}{ks:List (Option Expr)}{vs:List Expr}{tk tv:TE}{trs:List (TE×TE)}(hk:PE X k tk)(hv:PE X v tv)(hr:PPs X pos ks vs trs) :
 PPs X pos (some k::ks) (v::vs) ((tk,tv)::trs):=fun pins s U H Q I h=>
 pairTrees_cons_walk (thn (hk pins s U H _ I h) fun u s1 ⟨x,H1,I1,rx,q1⟩=>thn (hv pins s1 U H1 _ I1 q1) fun w2 s2 ⟨y,H2,I2,ry,q2⟩=>
  thn (hr pins s2 U H2 _ I2 q2) fun ws s3 ⟨ps,H3,I3,rel,q3⟩=>⟨(x,y)::ps,H3,I3,.cons ⟨rx,ry⟩ rel,q3⟩)
def gn(kvs more:List (Key×V)):List (Key×V):=more.foldl (fun acc kv=>cP acc kv.1 kv.2) kvs
theorem KV.merge:∀{more:List (Key×V)}{rs:List (Key×Value)}{kvs:List (Key×V)}{vs:List (Key×Value)},KV more rs->KV kvs vs->KV (gn kvs more) (merged vs rs):=by
 intro more rs kvs vs r;unfold KV at r
 induction r generalizing kvs vs with
 | nil=>intro q;exact q
 | @cons p q ps qs h t ih=>
   intro r0;have e:KV (cP kvs p.1 p.2) (stored vs q.1 q.2):=by
    have:=r0.put p.1 h.2;rw[← h.1];exact this
   exact ih e
theorem fO:∀(more kvs:List (Key×V)),(gn kvs more).length<=kvs.length+more.length
 | [],kvs=>by show kvs.length<=kvs.length+0;omega
 | p::r,kvs=>by
   have h1:=fO r (cP kvs p.1 p.2);have h2:=eX kvs p.1 p.2;show(gn (cP kvs p.1 p.2) r).length<=_;rw[List.length_cons];omega
theorem jI{P:Program}{w:World}:∀{kvs:List (Key×V)}{ws:List (Value×Value)},VV (kvs.map fun kv=>(kV kv.1,kv.2)) ws -> ∃ rs,Carries (ba P w) ws rs/\KV kvs rs
 | [],_,r=>by rw[List.map_nil]at r;cases r;exact⟨[],True.intro,.nil⟩
 | p::kvs,_,r=>by
   rw[List.map_cons]at r;cases r with
   | @cons a b as bs h t=>
     obtain⟨rs,c,q⟩:=jI (P:=P) (w:=w) t;obtain⟨b1,b2⟩:=b;exact⟨(p.1,b2)::rs,⟨gQ h.1,rfl,c⟩,.cons ⟨rfl,h.2⟩ q⟩
def su(trs:List (TE×TE)):TE:=fun U H Q=>∀ p,H p=none->gf trs U (upd H p (.dK [])) fun ps H2=>H2 p=some (.dK []) /\ ∃ kvs:List (Key×V),ps=kvs.map (fun kv=>(kV kv.1,kv.2))/\kvs.length<=15/\Q (.ref p) (upd H2 p (.dK (gn [] kvs)))
theorem v_{X:Cx}{pos:Pos}{keys:List (Option Expr)}{values:List Expr}{trs:List (TE×TE)}(h:PPs X pos keys values trs)(hall:keys.all (·.isSome)=true)(hl:keys.length=values.length)(h0:keys≠[])
 (h15:keys.length<=15):PE X (.Dict keys values pos) (su trs):=by
 intro pins s U H Q I q;have hn:=I.hok.fresh (Nat.le_refl s.heap.objs.size);have I1:=I.laid (a:=s.heap.objs.size) (o:=.dK []) (h':=s.heap.push { cls:=.type "dict",data:=.dict #[] }) (t':=s.toks) (fun _ _ q=>Heap.get?_push_of_some _ q) (Nat.le_refl _) (m5 s.heap I.big);refine wpAny_Dict_walk (knd:=ba X.prog X.w) hall hl h0 h15 (thn (h pins _ U _ _ I1 (q _ hn)) fun ws s2 zz=>?_);obtain⟨ps,H2,I2,rel,e,kvs,ep,lk,q2⟩:=zz;subst ep;obtain⟨rs,c,rk⟩:=jI (P:=X.prog) (w:=X.w) rel;obtain⟨z,hd,vs0,r0,dd⟩:=kW I2.hok e;cases r0;refine⟨rs,c,dd,fun h' dd' hs=>⟨.ref s.heap.objs.size,_,?_,rfl,q2⟩⟩;have hz:(gn [] kvs).length<=sizeLine:=by
  have h1:=fO kvs [];rw[List.length_nil]at h1;rw[sizeLine_eq];omega
 have he:∃ q,h'.get? s.heap.objs.size=some q:=let⟨q,_,_,hq,_⟩:=dd';⟨q,hq⟩;exact iS I2 (by rw[e];exact True.intro) hs he (o6 hz hd (rk.merge .nil) dd')
structure M1(X:Cx)(o:Expr)(m:Str)(apos:Pos)(e:Expr)(cpos:Pos):Prop where
 base:attributeBase o m X.env (eval o X.env)=eval o X.env
 few:((backTo cpos (starEach [e] X.env)).all (fun x=>!x.1) && (backToKw cpos (keywordEach [] X.env)).all (fun x=>x.1.isSome)
  && decide (([e]:List Expr).length+([]:List Keyword).length+(if([]:List Keyword).isEmpty then 0 else 1) < 30))=true
 line:(apos.endLine == cpos.line)=true
 trees:backTo cpos (starEach [e] X.env)=[(false,eval e X.env)]
structure M2(X:Cx)(o:Expr)(m:Str)(apos:Pos)(e f:Expr)(cpos:Pos):Prop where
 base:attributeBase o m X.env (eval o X.env)=eval o X.env
 few:((backTo cpos (starEach [e,f] X.env)).all (fun x=>!x.1) && (backToKw cpos (keywordEach [] X.env)).all (fun x=>x.1.isSome)
  && decide (([e,f]:List Expr).length+([]:List Keyword).length+(if([]:List Keyword).isEmpty then 0 else 1) < 30))=true
 line:(apos.endLine == cpos.line)=true
 trees:backTo cpos (starEach [e,f] X.env)=[(false,eval e X.env),(false,eval f X.env)]
def IsD(H:Hp)(a:Addr):Prop:=(∃ kvs,Rd H a (.dK kvs)) ∨ ∃ kvs,Rd H a (.dT kvs)
theorem mf{X:Cx}{pins:List (Addr×Obj)}{U:St}{H:Hp}{s:Shared}{a:Addr}(I:Inv X pins U H s)(d:IsD H a) :
 s.TypeIs (.ref a) "dict" /\ (∀ b,Value.ref a=.ref b -> ∃ ob,s.heap.get? b=some ob/\ob.dict=none)/\(a == sysModules)=false:=by
 rcases d with ⟨kvs,e⟩ | ⟨kvs,e⟩
 . obtain⟨_,hd,vs,_,dd⟩:=fk I.hok e
   refine⟨dd.typeIs,fun b q=>?_,hd⟩;cases q;obtain⟨ob,_,_,h1,h2,_⟩:=dd;exact⟨ob,h1,h2.2.1⟩
 obtain⟨_,hd,xs,_,dd⟩:=jF I.hok e;refine⟨dd.typeIs,fun b q=>?_,hd⟩;cases q;obtain⟨ob,_,_,h1,h2,_⟩:=dd;exact⟨ob,h1,h2.2.1⟩
section
variable{X:Cx}{pins:List (Addr×Obj)}{U:St}{H:Hp}{s:Shared}{a:Addr}{y d:V}{u r:Value}{o:Option V}{A:Around}{E:Value->Shared->Prop}
theorem yr{Q:Value->Shared->Prop}(hu:A.units+1 < cLine)(I:Inv X pins U H s)(g:cR H a y o)(ry:aJ y u)(h:∀ w' s',Inv X pins U H s'->aJ (o.getD .non) w'->Q w' s') :
 wpAny (model X.prog X.w) A (call (.builtin "dict.get") [.ref a,u]) Q E s:=by
 rcases g with ⟨kvs,k,e,ey,l⟩ | ⟨kvs,k,b,e,ey,eb,l⟩
 . subst ey
   obtain⟨z,hd,vs,rel,dd⟩:=fk I.hok e;refine call_meetsIn PySem.F.slot_dict_get dd.typeIs PySem.F.entry_dict_get (PySem.F.args_dict_get_2 _ _) (meets_dict_get (ba X.prog X.w) a (gQ ry) hd) ⟨_,dd.mapOf,h _ _ (I.tok _) ?_⟩;rw[l];exact(rel.val k).getD rfl
 subst ey;cases (show u=Value.ref b from ry);obtain⟨z,hd,xs,rel,dd⟩:=jF I.hok e;refine call_meetsIn PySem.F.slot_dict_get dd.typeIs PySem.F.entry_dict_get (PySem.F.args_dict_get_2 _ _) (meetsH_dict_get (tupleKind (ba X.prog X.w)) a b hd) ⟨tupleKind_room_in1 hu,k,xs,h7 I.hok eb,dd,h _ _ (I.tok _) ?_⟩;rw[l];exact(rel.val k).getD rfl
end
def ph(td ty:TE):TE:=fun U H Q=>td U H fun x H1=>∃ a,x=.ref a/\IsD H1 a/\ty U H1 fun y H2=>∃ o,cR H2 a y o/\Q (o.getD .non) H2
def pq(td ty:TE):TE:=fun U H Q=>td U H fun x H1=>∃ a,x=.ref a/\IsD H1 a/\ty U H1 fun y H2=>∃ kvs k v,H2 a=some (.dK kvs)/\y=kV k/\bO kvs k=some v/\Q v (upd H2 a (.dK (cW kvs k)))
def oz(td ty tx:TE):TE:=fun U H Q=>td U H fun x H1=>∃ a,x=.ref a/\IsD H1 a/\ty U H1 fun y H2=>tx U H2 fun z H3=>∃ kvs k,H3 a=some (.dK kvs)/\y=kV k /\
 (∀ v,bO kvs k=some v->Q v (upd H3 a (.dK (cW kvs k))))/\(bO kvs k=none->Q z H3)
section
variable{X:Cx}{o e f:Expr}{apos cpos:Pos}{td ty tx:TE}
theorem uW(hu:X.A.units+1 < cLine)(ho:PE X o td)(he:PE X e ty)(m:M1 X o "get" apos e cpos):PE X (.Call (.Attribute o "get" apos) [e] [] cpos) (ph td ty):=by
 intro pins s U H Q I h;refine wpAny_Call_method m.base m.few m.line PySem.F.plainAttrs_dict PySem.F.slot_dict_get PySem.F.type_dict_get (thn (ho pins s U H _ I h) fun u s1 zz=>?_);obtain⟨x,H1,I1,rx,a,ex,d,q1⟩:=zz;subst ex;obtain rfl:u=Value.ref a:=rx;obtain⟨t1,t2,_⟩:=mf I1 d;refine⟨t1,t2,?_⟩;rw[m.trees];refine Calls.callWith_builtin rfl (Calls.evalArgs_plain (Calls.spliced_cons (thn (he pins s1 U H1 _ I1 q1) fun iv s2 ⟨y,H2,I2,ry,ov,g,q2⟩=>Calls.spliced_nil ?_)));exact yr hu I2 g ry fun w' s3 I3 rw'=>⟨_,H2,I3,rw',q2⟩
theorem uZ(ho:PE X o td)(he:PE X e ty)(m:M1 X o "pop" apos e cpos):PE X (.Call (.Attribute o "pop" apos) [e] [] cpos) (pq td ty):=by
 intro pins s U H Q I h;refine wpAny_Call_method m.base m.few m.line PySem.F.plainAttrs_dict PySem.F.slot_dict_pop PySem.F.type_dict_pop (thn (ho pins s U H _ I h) fun u s1 zz=>?_);obtain⟨x,H1,I1,rx,a,ex,d,q1⟩:=zz;subst ex;obtain rfl:u=Value.ref a:=rx;obtain⟨t1,t2,_⟩:=mf I1 d;refine⟨t1,t2,?_⟩;rw[m.trees];refine Calls.callWith_builtin rfl (Calls.evalArgs_plain (Calls.spliced_cons (thn (he pins s1 U H1 _ I1 q1) fun iv s2 ⟨y,H2,I2,ry,kvs,k,v,ea,ey,l,q2⟩=>Calls.spliced_nil ?_)));subst ey;exact xE I2 ea ry l (.inl rfl) fun w' s3 I3 rw'=>⟨v,_,I3,rw',q2⟩
theorem vo(ho:PE X o td)(he:PE X e ty)(hf:PE X f tx)(m:M2 X o "pop" apos e f cpos):PE X (.Call (.Attribute o "pop" apos) [e,f] [] cpos) (oz td ty tx):=by
 intro pins s U H Q I h;refine wpAny_Call_method m.base m.few m.line PySem.F.plainAttrs_dict PySem.F.slot_dict_pop PySem.F.type_dict_pop (thn (ho pins s U H _ I h) fun u s1 zz=>?_);obtain⟨x,H1,I1,rx,a,ex,d,q1⟩:=zz;subst ex;obtain rfl:u=Value.ref a:=rx;obtain⟨t1,t2,_⟩:=mf I1 d;refine⟨t1,t2,?_⟩;rw[m.trees];refine Calls.callWith_builtin rfl (Calls.evalArgs_plain (Calls.spliced_cons (thn (he pins s1 U H1 _ I1 q1) fun iv s2 ⟨y,H2,I2,ry,q2⟩=>
  Calls.spliced_cons (thn (hf pins s2 U H2 _ I2 q2) fun fv s3 ⟨z,H3,I3,rz,kvs,k,ea,ey,q3,q4⟩=>Calls.spliced_nil ?_))))
 subst ey;cases l:bO kvs k with
 | some v=>exact xE I3 ea ry l (.inr ⟨fv,rfl⟩) fun w' s4 I4 rw'=>⟨v,_,I4,rw',q3 v l⟩
 | none=>exact z8 I3 ea ry l fun s4 I4=>⟨z,H3,I4,rz,q4 l⟩
end
section
variable{X:Cx}{pins:List (Addr×Obj)}{U:St}{H:Hp}{s:Shared}{a:Addr}{kvs:List (Key×V)}{A:Around}{E:Value->Shared->Prop}
end
section
variable{X:Cx}{pins:List (Addr×Obj)}{U:St}{H:Hp}{s:Shared}{a:Addr}{y:V}{u:Value}{A:Around}{E:Value->Shared->Prop}
end
end L2
namespace Att
open PySem PySem.W PySem.Calls PyProof.Rows
theorem iF{P:Params}{h:Heap}:∀(ns:List Int) (vs:List Value),WellAll P h vs (ns.map WData.int)->IntsAre vs ns:=by
 intro ns
 induction ns with
 | nil=>
   intro vs w;rw[List.map_nil]at w;cases w;exact .nil
 | cons n ns ih=>
   intro vs w;rw[List.map_cons]at w;cases w with
   | cons a b=>
     cases a;exact .cons _ _ (ih _ b)
theorem rX{l:OpenLaw}{n:Nat}(hn:l.most=some n){P:Params}{h:Heap}{args:List WData}{vals:List Value}
 (hpre:l.row.toRowW.claim.pre args=true) (hwl:WellAll P h vals args) :
 ∃ a vs ns,vals=[Value.ref a]/\args=[WData.list (ns.map WData.int)]/\h.get? a=some { cls:=.type "list",data:=.seq vs.toArray } /\ IntsAre vs ns/\ns.length<=n:=by
 have hsh:WShape.hasAll [] args [.list .int]=true:=(pre_splitW hpre).1;have hc:l.pre.holds [] { args:=args }=true:=(pre_splitW hpre).2;obtain⟨d,r,rfl,h1,h2⟩:=hasAllW_cons hsh;obtain rfl:=hasAllW_nil h2;obtain⟨xs,rfl,h3⟩:=hasW_list h1;obtain⟨ns,rfl⟩:=items_int h3;have hlen:ns.length<=n:=by
  unfold OpenLaw.pre at hc;have h4:(WTm.not (.lt (.lit (.int (n:Int))) (.len (.arg 0)))).holds [] { args:=[.list (ns.map .int)] }=true:=by
   have h4:=(holds_andW hc).1;rw[hn]at h4;exact h4
  have h5:=condW_of h4 (w_not (w_lt w_lit (w_len_list (w_arg rfl))));rw[List.length_map]at h5;refine Nat.le_of_not_lt fun q=>?_;have q':(n:Int) < ((ns.length:Nat):Int):=by omega
  first
   | (rw[decide_eq_true q']at h5;exact absurd h5 (by decide))
   | (simp at h5;omega)
 cases hwl with
 | cons w1 w2=>
   cases w2;cases w1 with
   | list ho hall=>exact⟨_,_,ns,rfl,rfl,ho,iF ns _ hall,hlen⟩
theorem rD(l:OpenLaw)(args:List WData):l.row.toRowW.claim.post args (.bool true) args=true:=
 postW_of (r:=l.row.toRowW) (X:=(true == true))
  (show WShape.has [] (.bool true) .bool=true by first | rfl | decide | simp[WShape.has,WShape.arms,WShape.armsAll])
  (show(WTm.eq .res (.lit (.bool true))).value [] { args:=args,res:=some (.bool true),after:=args }=some (.bool (true == true))from w_eq_bool (w_res rfl) w_lit) rfl
theorem attach_call{l:OpenLaw}{n:Nat}{q:Program}{loose:List Str}{XP:(Str->Option Value)->Heap->Prop}{YP:World->Heap->Prop}{d:DefRec}
 (hn:l.most=some n) (hdf:d.params.defaults=[])
 (call:∀(w:World) (s₀ s₁:Shared) (mg mb:Str->Option Value) (fa:Addr) (o:Obj) (pm cd doc:Value) (a:Addr) (vs:List Value) (ns:List Int),
  Ground q loose [] XP w s₀ mg mb s₁.heap->YP w s₁.heap ->
  s₁.heap.get? fa=some o->o.data=.func (docDef d.name d.params d.body d.scope pm cd doc)->s₁.heap.CodeRec cd d.name->mg d.name=some (.ref fa) ->
  s₁.heap.get? a=some { cls:=.type "list",data:=.seq vs.toArray } -> IntsAre vs ns->ns.length<=n->s₁.gens=#[] ->
  codeAny (model l.prog w) callerA (.call (.ref fa) ⟨[.ref a],[]⟩) (fun r s'=>r=.ok (.ret (.bool true))/\OldK s₁.heap s'.heap/\s'.os=s₁.os/\AllBare s'.gens) s₁) :
 WalkO q loose XP YP l.row.toRowW d [] (fun f vs=>PySem.call f vs):=by
 intro w s₀ s₁ mg mb G Y fa o pm cd doc dV kV ho hd hcd hD hmg hg args vals as hpre hlay hrd hwl hlo;obtain rfl:dV=.none:=Dflts.none hD hdf;obtain rfl:kV=.none:=Dflts.noKw hD;obtain⟨a,vs,ns,rfl,rfl,hobj,hints,hlen⟩:=rX hn hpre hwl;refine enter_call (codeAny_mono (call w s₀ s₁ mg mb fa o pm cd doc a vs ns G Y ho (fd_plain hd) hcd hmg hobj hints hlen hg) fun r s' hq=>?_);obtain⟨rfl,h2,h3,h4⟩:=hq;exact⟨.inl ⟨.bool true,.bool true,[],rfl,fun _=>rfl,.bool true,rD l _,fun _=>⟨List.Pairwise.nil,fun _ hm=>(nomatch hm)⟩⟩,h2,h3,h4⟩
section
variable{prog:Program}{w:World}{A:Around}{E:Value->Shared->Prop}{s:Shared}{K:Frag}
end
end Att
namespace L2
open PySem PySem.Spec PyProof.Rows
end L2
namespace L2
open PySem PySem.Spec PyProof.Rows
end L2
/- THE LAST THEOREM (shape;LID,My.* are yours):
   My.Adr: a structure of the addresses that your layer names (classes,functions);My.Txt K t: a structure (Prop) of the equations over K;
   My.txt_mk:{K}{implicit addresses ..} (e1:nsIn K mainGlobals "law"=some (some (.ref f))) (e2:K.lookup f=some ⟨oc,od,.func (fnOf "law" "law" params body scope dV kV doc pm an cdv ct),sl⟩) (e3:codeIn K cdv "law"=true) ..:∃ t,My.Txt K t
set_option maxRecDepth 100000 in
set_option maxHeartbeats 0 in
theorem PySem.Challenge.cw_LID_holds : PySem.Challenge.rw_LID.Holds := by
 w_on;o_law;k_head;(case hw=>w_witness2)
 k_fill
 refine L2.walk_of (l:=PySem.Challenge.rw_LID) (n:=63) (k:=40) (x:="script") (CX:=fun w=>..) (sp:=fun _=>My.sp_law) rfl (by decide) rfl ⟨rfl,by decide,by decide⟩ (fun w h Y=>W.kIn_of Y) ?F ?S ?C
 case F=>
  intro w mg fa h KX G hmg;have T:∃ t,My.Txt (L2.KOf KX) t:=by
   dsimp only[L2.KOf]                          -- K must stand as «<heap const> w.params» for k_is
   refine' My.txt_mk ?e1 ?e2 ?e3 ..
   (case e1=>W.k_is)                    -- in the order: a name->its address->its object->its parts
   (case e2=>W.k_is)
   ..
  obtain⟨t,T⟩:=T;have e0:=hmg.symm.trans (W.mg_of KX G T.law);cases e0                                       -- fa is the law's own address;exact⟨_,fun s u=>.of_eq rfl,fun base kb nb=>My.law_fn T kb nb⟩     -- if «.of_eq rfl» comes too early: refine' ⟨_,?b,fun base kb nb=>My.law_fn T kb nb⟩;exact fun s u=>.of_eq rfl
 case S=>exact fun w H a ns hl hO hS=>..
 case C=>exact ..
(the tactic k_is has no namespace: write k_is) -/
namespace L2
open PySem PySem.Spec PyProof.Rows
def aM(s:Stmt)(j:Nat):Stmt:=match s with
 | .ClassDef _ _ _ body _ _ _ _ _ _ _=>body.getD j (.Pass ⟨0,0,0,0⟩)
 | _=>.Pass ⟨0,0,0,0⟩
def cb(s:Stmt):Arguments:=match s with
 | .FunctionDef _ a _ _ _ _ _ _ _ _=>a
 | _=>{ posonlyargs:=[],args:=[],vararg:=none,kwonlyargs:=[],kw_defaults:=[],kwarg:=none,defaults:=[] }
def bv(s:Stmt):List Stmt:=match s with
 | .FunctionDef _ _ b _ _ _ _ _ _ _=>b
 | _=>[]
def ae(s:Stmt):Scope:=match s with
 | .FunctionDef _ _ _ _ _ _ sc _ _ _=>sc
 | _=>{ kind:=.function,names:=[],isGenerator:=false,isCoroutine:=false }
abbrev CX0:CXT:=fun _ _ _ _ _ _=>False
abbrev E0:XK:=fun _ _ _=>False
theorem m7{X:Cx}:fe CX0 X E0:=fun _ _ _ _ _ _ _ h=>h.elim
structure Fun(K:W.Frag)(x qual:Str)(st:Stmt)(f:Addr)(fd:FuncData):Prop where
 ex:∃(oc:Value) (od:Option Addr) (kV doc pm:Value) (an:Option Addr) (cdv ct:Value) (osl:Array (Option Value)),
  fd=W.fnOf x qual (cb st) (bv st) (ae st) .none kV doc pm an cdv ct/\K.lookup f=some ⟨oc,od,.func fd,osl⟩/\W.codeIn K cdv qual=true
 kp:W.keepIn K (.ref f)=true
section
variable{P:Program}{w:World}{K:W.Frag}{mg:Str->Option Value}{base:Heap}
theorem Fun.ok{x qual:Str}{st:Stmt}{f:Addr}{fd:FuncData}{N ps:List Str}{k:Nat}{sp:Sp}(F:Fun K x qual st f fd)(S:am N ps (ae st))(len:∀ vs H Q E,sp vs H Q E->vs.length=ps.length)
 (hbody:∀(cdv:Value) (A:Around) (outer:List Env) (s:Shared) (H:Hp) (vs:List V) (Q:VK) (E:XK),bp k (A.deeper (envOfC qual (ae st) s.heap.objs.size f cdv))->sp vs H Q E ->
  ∃ t,PSs (f_ CX0 P w K mg base N qual (ae st) f cdv A outer s H E).nox (bv st) t/\t { nx:=fun _ H'=>Q .non H',rt:=Q } (cg N vs) H):eO P w K mg base CX0 (k+1) f fd ps sp:=by
 obtain⟨oc,od,kV,doc,pm,an,cdv,ct,osl,rfl,lk,hcd⟩:=F.ex;refine xS lk hcd S len fun A outer s H vs Q E hr hsp=>?_;obtain⟨t,h,q⟩:=hbody cdv A outer s H vs Q E hr hsp;exact⟨t,h.nox,q⟩
theorem Fun.binds{x qual:Str}{st:Stmt}{f:Addr}{fd:FuncData}{ps:List Str}(F:Fun K x qual st f fd)
 (h:∀(kV doc pm:Value) (an:Option Addr) (cdv ct:Value) (us:List Value),us.length=ps.length->bindArgs (W.fnOf x qual (cb st) (bv st) (ae st) .none kV doc pm an cdv ct) ⟨us,[]⟩=pure (ps.zip us)):bW K fd ps []:=by
 obtain⟨oc,od,kV,doc,pm,an,cdv,ct,osl,rfl,lk,hcd⟩:=F.ex;exact .all (h kV doc pm an cdv ct)
theorem z5{x qual:Str}{st:Stmt}{f:Addr}{oc:Value}{od an:Option Addr}{osl:Array (Option Value)}{kV doc pm cdv ct:Value}(l:K.lookup f=some ⟨oc,od,.func (W.fnOf x qual (cb st) (bv st) (ae st) .none kV doc pm an cdv ct),osl⟩)
 (c:W.codeIn K cdv qual=true) (k:W.keepIn K (.ref f)=true):Fun K x qual st f (W.fnOf x qual (cb st) (bv st) (ae st) .none kV doc pm an cdv ct):=⟨⟨oc,od,kV,doc,pm,an,cdv,ct,osl,rfl,l,c⟩,k⟩
end
theorem bj{A:Around}{k:Nat}(hr:bp k A):A.units+1 < cLine:=Nat.lt_of_le_of_lt (Nat.add_le_add_left (by decide:1<=64) _) hr.units
section
variable{X:Cx}
theorem h_:bR X (.builtin "len") (fun xs H Q=>∃ a kvs,xs=[V.ref a]/\H a=some (.dK kvs)/\Q (.int kvs.length) H):=by
 intro pins s U H xs us Q I r h;obtain⟨a,kvs,rfl,ha,q⟩:=h;obtain⟨u,rfl,ru⟩:=cZ r;cases ru;exact BD I (.inl ha) fun t s' I'=>⟨.int kvs.length,H,I',⟨t,rfl⟩,q⟩
end
theorem bB{A B:Prop}(h:B):if false=true then A else B:=by
 rw[if_neg Bool.false_ne_true];exact h
theorem bL{A B:Prop}(h:A):if true=true then A else B:=by
 rw[if_pos rfl];exact h
theorem lR{c A B:Prop}[Decidable c](h1:c->A)(h2:¬ c->B):if c then A else B:=by
 by_cases h:c
 . rw[if_pos h]
   exact h1 h
 rw[if_neg h];exact h2 h
theorem eR{c A B:Prop}[Decidable c](hc:c)(h:B):if(!decide c)=true then A else B:=by
 rw[decide_eq_true hc];exact bB h
def ao(H H':Hp):Prop:=∀ b o,H b=some o->H' b=some o
theorem ao.trans{H H1 H2:Hp}(a:ao H H1)(b:ao H1 H2):ao H H2:=fun c o h=>b c o (a c o h)
theorem ao.free{H H':Hp}(e:ao H H'){l:Addr}(h:H' l=Option.none):H l=Option.none:=by
 cases q:H l with
 | none=>rfl
 | some o=>
   rw[e l o q]at h;cases h
theorem ao.seq{K:W.Frag}{H H':Hp}{a:Addr}{xs:List V}(e:ao H H')(h:SqL K H a xs):SqL K H' a xs:=by
 rcases h with (h | ⟨o,h⟩) | h
 . exact .inl (.inl (e _ _ h))
 . exact .inl (.inr ⟨o,e _ _ h⟩)
 exact .inr h
section
variable{κ:Type}[DecidableEq κ]
theorem ml:∀{l:List κ}{k:κ},l.Nodup -> ¬ k∈l->(l++[k]).Nodup
 | [],k,_,_=>by simp
 | a::r,k,h,hk=>by
   obtain⟨h1,h2⟩:=List.nodup_cons.mp h;show(a::(r++[k])).Nodup;refine List.nodup_cons.mpr ⟨fun m=>?_,ml h2 fun m=>hk (List.mem_cons.mpr (Or.inr m))⟩;rcases List.mem_append.mp m with q | q
   . exact h1 q
   exact hk (List.mem_cons.mpr (Or.inl (List.mem_singleton.mp q).symm))
theorem rj{p:κ × V}{r:List (κ × V)}{k:κ}(e:p.1=k):cW (p::r) k=cW r k:=by
 unfold cW;rw[List.filter_cons,if_neg (by simp[e])]
theorem qX{p:κ × V}{r:List (κ × V)}{k:κ}(e:¬ p.1=k):cW (p::r) k=p::cW r k:=by
 unfold cW;rw[List.filter_cons,if_pos (by simp[e])]
end
end L2
namespace SW
open PySem PySem.Spec PyProof.Rows L2
theorem b_int:bootBuiltins "int"=some (.type "int"):=by decide +kernel
theorem b_bool:bootBuiltins "bool"=some (.type "bool"):=by decide +kernel
theorem b_tuple:bootBuiltins "tuple"=some (.type "tuple"):=by decide +kernel
theorem b_isinstance:bootBuiltins "isinstance"=some (.builtin "isinstance"):=by decide +kernel
theorem b_len:bootBuiltins "len"=some (.builtin "len"):=by decide +kernel
structure Bx(p:Prop):Prop where
 out:p
structure Fn(P:Program)(w:World)(K:W.Frag)(mg:Str->Option Value)(base:Heap)(x:Str)(k:Nat)(ps:List Str)(sp:Sp):Prop where
 ex:∃(f:Addr) (fd:FuncData),eO P w K mg base CX0 k f fd ps sp/\mg x=some (.ref f)/\W.keepIn K (.ref f)=true/\bW K fd ps []
structure Dfn(K:W.Frag)(mg:Str->Option Value)(x:Str)(st:Stmt)(ps:List Str):Prop where
 ex:∃(f:Addr) (fd:FuncData),Fun K x x st f fd/\mg x=some (.ref f)/\bW K fd ps []
theorem Dfn.fn{P:Program}{w:World}{K:W.Frag}{mg:Str->Option Value}{base:Heap}{x:Str}{st:Stmt}{N ps:List Str}{k:Nat}{sp:Sp}(d:Dfn K mg x st ps)(S:am N ps (ae st))(len:∀ vs H Q E,sp vs H Q E->vs.length=ps.length)
 (hbody:∀(f:Addr) (cdv:Value) (A:Around) (outer:List Env) (s:Shared) (H:Hp) (vs:List V) (Q:VK) (E:XK),bp k (A.deeper (envOfC x (ae st) s.heap.objs.size f cdv))->sp vs H Q E ->
  ∃ t,Bx (PSs (f_ CX0 P w K mg base N x (ae st) f cdv A outer s H E).nox (bv st) t)/\t { nx:=fun _ H'=>Q .non H',rt:=Q } (cg N vs) H):Fn P w K mg base x (k+1) ps sp:=by
 obtain⟨f,fd,F,hm,hb⟩:=d.ex;exact⟨f,fd,F.ok S len (fun cdv A outer s H vs Q E hr h=>let⟨t,h1,h2⟩:=hbody f cdv A outer s H vs Q E hr h;⟨t,h1.out,h2⟩),hm,F.kp,hb⟩
theorem Aa{P:Program}{w:World}{K:W.Frag}{mg:Str->Option Value}{base:Heap}{x qual:Str}{st:Stmt}{f:Addr}{fd:FuncData}{N ps:List Str}{k:Nat}{sp:Sp}(F:Fun K x qual st f fd)(S:am N ps (ae st))(len:∀ vs H Q E,sp vs H Q E->vs.length=ps.length)
 (hbody:∀(cdv:Value) (A:Around) (outer:List Env) (s:Shared) (H:Hp) (vs:List V) (Q:VK) (E:XK),bp k (A.deeper (envOfC qual (ae st) s.heap.objs.size f cdv))->sp vs H Q E ->
  ∃ t,Bx (PSs (f_ CX0 P w K mg base N qual (ae st) f cdv A outer s H E).nox (bv st) t)/\t { nx:=fun _ H'=>Q .non H',rt:=Q } (cg N vs) H):eO P w K mg base CX0 (k+1) f fd ps sp:=
 F.ok S len (fun cdv A outer s H vs Q E hr h=>let⟨t,h1,h2⟩:=hbody cdv A outer s H vs Q E hr h;⟨t,h1.out,h2⟩)
def aW:Expr->Bool
 | .Starred _ _=>false
 | _=>true
theorem ca{e:Expr}{es:List Expr}{env:Env}(h:aW e=true):starEach (e::es) env=(false,eval e env)::starEach es env:=by
 cases e <;> first | rfl | exact absurd h Bool.false_ne_true
theorem c8{pos:Pos}{env:Env}:∀{es:List Expr},es.all aW=true->(backTo pos (starEach es env)).any (·.1)=false
 | [],_=>rfl
 | e::es,h=>by
   rw[List.all_cons,Bool.and_eq_true]at h;rw[ca h.1];show(false || (backTo pos (starEach es env)).any (·.1))=false;rw[c8 h.2]
   rfl
theorem nV{pos:Pos}{env:Env}:∀{es:List Expr},es.all aW=true->(backTo pos (starEach es env)).all (fun x=>!x.1)=true
 | [],_=>rfl
 | e::es,h=>by
   rw[List.all_cons,Bool.and_eq_true]at h;rw[ca h.1];show(true && (backTo pos (starEach es env)).all (fun x=>!x.1))=true;rw[nV h.2]
   rfl
section
variable{X:Cx}{x:Str}{p pos:Pos}{e:Expr}{es:List Expr}{t:TA}{te:TE}{k:Nat}{ps:List Str}{sp:Sp}
theorem pac(ha:PE X e te)(hr:PA X es t)(h:aW e=true:=by rfl):PA X (e::es) (fQ te t):=qv ha hr (ca h)
theorem Bj(F:Fn X.prog X.w X.K X.mg X.base x k ps sp)(hr:bp k X.A)(ha:PA X (e::es) t)(hg:Gl X x:=by rfl)(hdb:(x == ("__debug__":Str))=false:=by decide)(h1:aW e=true:=by rfl)(h2:es.all aW=true:=by rfl) :
 PE X (.Call (.Name x p) (e::es) [] pos) (mQ sp [] E0 t):=by
 obtain⟨f,fd,G,hm,kp,b⟩:=F.ex;exact wD G hr hg hm kp b .nil m7 ha hdb (ca h1) (c8 h2)
theorem A6{id:String}{r:List V->Hp->VK->Prop}(hc:bR X (.builtin id) r)(hm:X.mg x=none)(hv:bootBuiltins x=some (.builtin id))(ha:PA X (e::es) t)(hg:Gl X x:=by rfl)(hn:x ≠ "__name__":=by decide)(hdb:(x == ("__debug__":Str))=false:=by decide)
 (h1:aW e=true:=by rfl) (h2:es.all aW=true:=by rfl):PE X (.Call (.Name x p) (e::es) [] pos) (tCB r t):=sw hc hg hm hv ha hn hdb (ca h1) (c8 h2)
theorem A8{T:String}{r:List V->Hp->VK->Prop}(hc:bR X (.type T) r)(hm:X.mg x=none)(hv:bootBuiltins x=some (.type T))(ha:PA X (e::es) t)(hg:Gl X x:=by rfl)(hn:x ≠ "__name__":=by decide)(hdb:(x == ("__debug__":Str))=false:=by decide)
 (h1:aW e=true:=by rfl) (h2:es.all aW=true:=by rfl):PE X (.Call (.Name x p) (e::es) [] pos) (tCB r t):=qU hc hg hm hv ha hn hdb (ca h1) (c8 h2)
theorem AB{T name id:_}{r:V->List V->Hp->VK->Prop}{o:Expr}{to:TE}{apos cpos:Pos}(pa:PlainAttrs T)(slot:Slot T name id)(hty:typeOf (.builtin id)=pure (.type "method_descriptor"))(hm:MtR X id r)(ho:PE X o to)(ha:PA X (e::es) t)
 (hbase:attributeBase o name X.env (eval o X.env)=eval o X.env:=by rfl) (hl:decide ((e::es).length+([]:List Keyword).length+(if([]:List Keyword).isEmpty then 0 else 1) < 30)=true:=by rfl)
 (hline:(apos.endLine == cpos.line)=true:=by rfl) (h1:aW e=true:=by rfl) (h2:es.all aW=true:=by rfl) :
 PE X (.Call (.Attribute o name apos) (e::es) [] cpos) (tBM X.K T r to t):=by
 refine Be pa slot hty hm ho ha hbase ?_ hline (ca h1) (c8 h2);have hA:(e::es).all aW=true:=by rw[List.all_cons,h1,h2];rfl
 rw[nV hA,hl]
 rfl
theorem B0{tg a:Expr}{ta:TA}(hm:X.mg "range"=none)(ha:PA X [a] ta)(hg:Gl X "range":=by rfl)(h1:aW a=true:=by rfl):PI X tg (.Call (.Name "range" p) [a] [] pos) (qp ta):=
 rQ hg hm ha (ca h1)
theorem xu{i:Int}(h:∃ t,X.mg x=some (.int i t))(hg:Gl X x:=by rfl)(hd:(x == ("__debug__":Str))=false:=by decide):PE X (.Name x pos) (tC (.int i)):=by
 obtain⟨t,h⟩:=h;exact lK hg h ⟨t,rfl⟩ hd
theorem A4{n:String}(hm:X.mg x=none)(hv:bootBuiltins x=some (.type n))(hg:Gl X x:=by rfl)(hn:x ≠ "__name__":=by decide)(hd:(x == ("__debug__":Str))=false:=by decide):PE X (.Name x pos) (tC (.ty n)):=
 vR hg hm hv (show Value.type n=Value.type n from rfl) hn hd
end
namespace B
section
variable{X:Cx}{x f:Str}{p pos:Pos}{e a b c o:Expr}{es:List Expr}{t:TA}{te ta tb tc to ti:TE}{k:Nat}{ps:List Str}{sp:Sp}{tg:Expr}
theorem int{i j pos}:Bx (PE X (.Constant (.int i) j pos) (tC (.int i))):=⟨zy⟩
theorem bl{b j pos}:Bx (PE X (.Constant (.bool b) j pos) (tC (.bl b))):=⟨AL⟩
theorem non{j pos}:Bx (PE X (.Constant .none j pos) (tC .non)):=⟨zB⟩
theorem str{x j pos}:Bx (PE X (.Constant (.str x) j pos) (tC (.str x))):=⟨yk⟩
theorem v(i:Nat){x:Str}{pos:Pos}(hN:X.N[i]?=some x:=by rfl)(hv:Vis X.env.scope x:=by first | exact Or.inl rfl | exact Or.inr (Or.inl rfl) | exact Or.inr (Or.inr rfl))(hd:(x == ("__debug__":Str))=false:=by decide)
 (hcd:(x == ("__classdict__":Str))=false:=by decide):Bx (PE X (.Name x pos) (d_ i)):=⟨xY hN hv hd hcd⟩
theorem gint{i:Int}(h:∃ t,X.mg x=some (.int i t))(hg:Gl X x:=by rfl)(hd:(x == ("__debug__":Str))=false:=by decide):Bx (PE X (.Name x pos) (tC (.int i))):=⟨xu h hg hd⟩
theorem ty{n:String}(hm:X.mg x=none)(hv:bootBuiltins x=some (.type n))(hg:Gl X x:=by rfl)(hn:x ≠ "__name__":=by decide)(hd:(x == ("__debug__":Str))=false:=by decide):Bx (PE X (.Name x pos) (tC (.ty n))):=⟨A4 hm hv hg hn hd⟩
theorem op{op:Operator}{r:R2}(ho:OpR X (binaryOp op) r)(ha:Bx (PE X a ta))(hb:Bx (PE X b tb)):Bx (PE X (.BinOp a op b pos) (tOp r ta tb)):=⟨B7 ho ha.out hb.out⟩
theorem un{op:UnaryOp}{r:V->Hp->VK->Prop}(ho:UnR X (unaryOp op) r)(ha:Bx (PE X a ta)):Bx (PE X (.UnaryOp op a pos) (tUn r ta)):=⟨A_ ho ha.out⟩
theorem not(ha:Bx (PE X a ta)):Bx (PE X (.UnaryOp .Not a pos) (uQ ta)):=⟨zv ha.out⟩
theorem cmp{op:CmpOp}{r:R2}(ho:OpR X (compareOp op) r)(ha:Bx (PE X a ta))(hb:Bx (PE X b tb))(hm:behindInMarks op b=false:=by exact vh _):Bx (PE X (.Compare a [op] [b] pos) (tOp r ta tb)):=⟨pN ho ha.out hb.out hm⟩
theorem chain{op op':CmpOp}{r r':R2}(ho:OpR X (compareOp op) r)(ho':OpR X (compareOp op') r')(ha:Bx (PE X a ta))(hb:Bx (PE X b tb))(hc:Bx (PE X c tc))(hm:lastMarks [op,op'] [b,c]=false:=by with_unfolding_all rfl) :
 Bx (PE X (.Compare a [op,op'] [b,c] pos) (i6 r r' ta tb tc)):=⟨tD ho ho' ha.out hb.out hc.out hm⟩
theorem one{op}(h:Bx (PE X a ta)):Bx (PE X (.BoolOp op [a] pos) ta):=⟨Ak h.out⟩
theorem and{rest:List Expr}(ha:Bx (PE X a ta))(hb:Bx (PE X (.BoolOp .And (b::rest) pos) tb)):Bx (PE X (.BoolOp .And (a::b::rest) pos) (uY ta tb)):=⟨yP ha.out hb.out⟩
theorem or{rest:List Expr}(ha:Bx (PE X a ta))(hb:Bx (PE X (.BoolOp .Or (b::rest) pos) tb)):Bx (PE X (.BoolOp .Or (a::b::rest) pos) (zt ta tb)):=⟨A3 ha.out hb.out⟩
theorem ifx{tA:TT}(hc:Bx (PT X c tA))(ha:Bx (PE X a ta))(hb:Bx (PE X b tb)):Bx (PE X (.IfExp c a b pos) (tIf tA ta tb)):=⟨uS hc.out ha.out hb.out⟩
theorem nil:Bx (PA X [] fS):=⟨sP⟩
theorem cons(ha:Bx (PE X e te))(hr:Bx (PA X es t))(h:aW e=true:=by rfl):Bx (PA X (e::es) (fQ te t)):=⟨pac ha.out hr.out h⟩
theorem lst(h:Bx (PA X es t)):Bx (PE X (.List es pos) (yv t)):=⟨zd h.out⟩
theorem tup{x1}(h:Bx (PA X es t)):Bx (PE X (.Tuple es x1 pos) (zQ t)):=⟨z7 h.out⟩
theorem ix{r:R2}(hr:IxR X r)(ha:Bx (PE X a ta))(hb:Bx (PE X b tb))(hs:qm b:=by exact fun _ _=>rfl):Bx (PE X (.Subscript a b pos) (tOp r ta tb)):=⟨Ba hr ha.out hb.out hs⟩
theorem nopart:Bx (PO X none mr):=⟨xk⟩
theorem part(h:Bx (PE X e te)):Bx (PO X (some e) (sD te)):=⟨xh h.out⟩
theorem slice{lo hi:Option Expr}{tl th:TO}{p2:Pos}{r:V->Option Int->Option Int->Hp->VK->Prop}(hr:SlR X r)(he:Bx (PE X e te))(hl:Bx (PO X lo tl))(hu:Bx (PO X hi th)):Bx (PE X (.Subscript e (.Slice lo hi none p2) pos) (tSl r te tl th)):=⟨tq hr he.out hl.out hu.out⟩
theorem fn(F:Fn X.prog X.w X.K X.mg X.base x k ps sp)(hr:bp k X.A)(ha:Bx (PA X (e::es) t))(hg:Gl X x:=by rfl)(hdb:(x == ("__debug__":Str))=false:=by decide)(h1:aW e=true:=by rfl)(h2:es.all aW=true:=by rfl) :
 Bx (PE X (.Call (.Name x p) (e::es) [] pos) (mQ sp [] E0 t)):=⟨Bj F hr ha.out hg hdb h1 h2⟩
theorem cB{id:String}{r:List V->Hp->VK->Prop}(hc:bR X (.builtin id) r)(hm:X.mg x=none)(hv:bootBuiltins x=some (.builtin id))(ha:Bx (PA X (e::es) t))(hg:Gl X x:=by rfl)(hn:x ≠ "__name__":=by decide)(hdb:(x == ("__debug__":Str))=false:=by decide)
 (h1:aW e=true:=by rfl) (h2:es.all aW=true:=by rfl):Bx (PE X (.Call (.Name x p) (e::es) [] pos) (tCB r t)):=⟨A6 hc hm hv ha.out hg hn hdb h1 h2⟩
theorem cT{T:String}{r:List V->Hp->VK->Prop}(hc:bR X (.type T) r)(hm:X.mg x=none)(hv:bootBuiltins x=some (.type T))(ha:Bx (PA X (e::es) t))(hg:Gl X x:=by rfl)(hn:x ≠ "__name__":=by decide)(hdb:(x == ("__debug__":Str))=false:=by decide)
 (h1:aW e=true:=by rfl) (h2:es.all aW=true:=by rfl):Bx (PE X (.Call (.Name x p) (e::es) [] pos) (tCB r t)):=⟨A8 hc hm hv ha.out hg hn hdb h1 h2⟩
theorem m{T name id:_}{r:V->List V->Hp->VK->Prop}{apos cpos:Pos}(pa:PlainAttrs T)(slot:Slot T name id)(hty:typeOf (.builtin id)=pure (.type "method_descriptor"))(hm:MtR X id r)(ho:Bx (PE X o to))(ha:Bx (PA X (e::es) t))
 (hbase:attributeBase o name X.env (eval o X.env)=eval o X.env:=by rfl) (hl:decide ((e::es).length+([]:List Keyword).length+(if([]:List Keyword).isEmpty then 0 else 1) < 30)=true:=by rfl)
 (hline:(apos.endLine == cpos.line)=true:=by rfl) (h1:aW e=true:=by rfl) (h2:es.all aW=true:=by rfl) :
 Bx (PE X (.Call (.Attribute o name apos) (e::es) [] cpos) (tBM X.K T r to t)):=⟨AB pa slot hty hm ho.out ha.out hbase hl hline h1 h2⟩
theorem tcmp{op:CmpOp}{r:R2}(ho:OpR X (compareOp op) r)(ha:Bx (PE X a ta))(hb:Bx (PE X b tb))(hm:behindInMarks op b=false:=by exact vh _):Bx (PT X (.Compare a [op] [b] pos) (kX (tOp r ta tb))):=⟨qk ho ha.out hb.out hm⟩
theorem tchain{op op':CmpOp}{r r':R2}(ho:OpR X (compareOp op) r)(ho':OpR X (compareOp op') r')(ha:Bx (PE X a ta))(hb:Bx (PE X b tb))(hc:Bx (PE X c tc))(hm:lastMarks [op,op'] [b,c]=false:=by with_unfolding_all rfl) :
 Bx (PT X (.Compare a [op,op'] [b,c] pos) (kX (i6 r r' ta tb tc))):=⟨vy ho ho' ha.out hb.out hc.out hm⟩
theorem tval(h:Bx (PE X e te))(he:∀ whole,isTrue e X.env whole=(do let v ← whole;standAt e.pos;holding [v] (truthy v)):=by intro _;rfl):Bx (PT X e (tB te)):=⟨zo h.out he⟩
theorem tnot{tA:TT}(ha:Bx (PT X a tA)):Bx (PT X (.UnaryOp .Not a pos) (z9 tA)):=⟨zD ha.out⟩
theorem wand1{tA:TT}(ha:Bx (PT X a tA)):Bx (PW X (.BoolOp .And [a] pos) tA):=⟨wf ha.out⟩
theorem wor1{tA:TT}(ha:Bx (PT X a tA)):Bx (PW X (.BoolOp .Or [a] pos) tA):=⟨Av ha.out⟩
theorem wand{tA tB':TT}{rest:List Expr}(ha:Bx (PT X a tA))(hb:Bx (PW X (.BoolOp .And (b::rest) pos) tB')):Bx (PW X (.BoolOp .And (a::b::rest) pos) (zr tA tB')):=⟨As ha.out hb.out⟩
theorem wor{tA tB':TT}{rest:List Expr}(ha:Bx (PT X a tA))(hb:Bx (PW X (.BoolOp .Or (b::rest) pos) tB')):Bx (PW X (.BoolOp .Or (a::b::rest) pos) (tOr tA tB')):=⟨By ha.out hb.out⟩
theorem tw{tA:TT}(h:Bx (PW X e tA)):Bx (PT X e tA):=⟨h.out.pt⟩
theorem gname{i:Nat}(hN:X.N.Nodup)(hi:X.N[i]?=some x:=by rfl)(hx:Loc X.env.scope x:=by first | exact Or.inl rfl | exact Or.inr rfl)(hf:X.fn x=true∨X.env.scope.names.lookup x=some .local:=by first | exact .inl rfl | exact .inr rfl):Bx (PG X (.Name x pos) (iB i)):=⟨iO hN hi hx hf⟩
theorem gnil:Bx (PGs X [] AO):=⟨wb⟩
theorem gcons{g:TG}{u:TGs}(h1:Bx (PG X e g))(h2:Bx (PGs X es u))(hs:(assignEach (e::es) X.env).map (·.2)=assign e X.env::(assignEach es X.env).map (·.2):=by rfl):Bx (PGs X (e::es) (xN g u)):=⟨ud h1.out h2.out hs⟩
theorem gtup{kk n:Nat}{u:TGs}(h:Bx (PGs X es u))(hc:X.calm=true:=by rfl)(hn:(assignEach es X.env).length=n:=by rfl)(hst:(assignEach es X.env).findIdx? (·.1)=none:=by rfl):Bx (PG X (.Tuple es kk pos) (yd X.K n u)):=⟨vG hc h.out hn hst⟩
theorem gsub{s:vn}{i:Expr}(ho:Bx (PE X o to))(hi:Bx (PE X i ti))(hs:zI X s)
 (ha:∀ v,assign (.Subscript o i pos) X.env v=(do
  let ov ← holding [v] (eval o X.env)
  let iv ← holding [v,ov] (eval i X.env)
  standAt pos
  holding [v,ov,iv] (setItem ov iv v)
  release [v,ov,iv] []):=by intro _;rfl):Bx (PG X (.Subscript o i pos) (zw to ti s)):=⟨zm ho.out hi.out hs ha⟩
theorem asg{g:TG}(he:Bx (PE X e te))(hg:Bx (PG X tg g))(hs:swapsWithSole [tg] e pos.line X.env=pure false:=by rfl)(hw:swappedStores [tg] e X.env=pure none:=by rfl)
 (h1:(assignEach [tg] X.env).map (·.2)=[assign tg X.env]:=by rfl):Bx (PS X (.Assign [tg] e pos) (vf te g)):=⟨yJ he.out hg.out hs hw h1⟩
theorem set(i:Nat){pos':Pos}(hN:X.N.Nodup)(he:Bx (PE X e te))(hi:X.N[i]?=some x:=by rfl)(hx:Loc X.env.scope x:=by first | exact Or.inl rfl | exact Or.inr rfl)(hs:swapsWith e (some (.Name x pos')) pos.line X.env=pure false:=by rfl)
 (hf:X.fn x=true∨X.env.scope.names.lookup x=some .local:=by first | exact .inl rfl | exact .inr rfl):Bx (PS X (.Assign [.Name x pos'] e pos) (vf te (iB i))):=⟨An hN hi hx he.out hs hf⟩
theorem expr(he:Bx (PE X e te))(hs:swapsWith e none pos.line X.env=pure false:=by rfl):Bx (PS X (.Expr e pos) (kK te)):=⟨vL he.out hs⟩
theorem ret(he:Bx (PE X e te)):Bx (PS X (.Return (some e) pos) (rW te)):=⟨yf he.out⟩
theorem retN:Bx (PS X (.Return none pos) uM):=⟨xi⟩
theorem ifs{tcc:TT}{l r:List Stmt}{u w:TS}(hc:Bx (PT X c tcc))(ha:Bx (PSs X l u))(hb:Bx (PSs X r w)):Bx (PS X (.If c l r pos) (zM tcc u w)):=⟨Cb hc.out ha.out hb.out⟩
theorem ilist{l:Expr}{tl:TE}(hl:Bx (PE X l tl)):Bx (PI X tg l (tY X.K tl)):=⟨xj hl.out⟩
theorem itup{l:Expr}{tl:TE}(hl:Bx (PE X l tl)):Bx (PI X tg l (yT X.K tl)):=⟨zi hl.out⟩
theorem irange{t:TA}(hm:X.mg "range"=none)(ha:Bx (PA X [a] t))(hg:Gl X "range":=by rfl)(h1:aW a=true:=by rfl):Bx (PI X tg (.Call (.Name "range" p) [a] [] pos) (qp t)):=⟨B0 hm ha.out hg h1⟩
theorem fors{iter:Expr}{l:List Stmt}{wi:TI}{g:TG}{u:TS}(hi:Bx (PI X tg iter wi))(hg:Bx (PG X tg g))(hb:Bx (PSs X l u))(hp:PassesOwn (model X.prog X.w) X.A X.env X.xe:=by exact PassesOwn.never)(hc:X.calm=true:=by rfl)
 (hs:∀ x,foldedSetIterable iter X.env x=pure x:=by intro _;rfl):Bx (PS X (.For tg iter l [] pos) (y_ wi g u)):=⟨zY hp hc hi.out hg.out hb.out hs⟩
theorem snil:Bx (PSs X [] sF):=⟨xl⟩
theorem scons{st:Stmt}{rest:List Stmt}{u w:TS}(h1:Bx (PS X st u))(h2:Bx (PSs X rest w)):Bx (PSs X (st::rest) (rN u w)):=⟨ub h1.out h2.out⟩
theorem sone{st:Stmt}{u:TS}(h1:Bx (PS X st u)):Bx (PSs X [st] u):=⟨wQ h1.out⟩
end
end B
def tL(_ j:Int):Prop:=0 < j/\j < 18446744073709551616
theorem eT{X:Cx}:OpR X (binaryOp .FloorDiv) (rI tL fun i j=>.int (i / j)):=opI fun i j _ _ _ _ _ hc q=>by
 have h1:(0:Int) < j:=hc.1;have h2:j < 18446744073709551616:=hc.2;have h3:j.natAbs.log2 < 64:=(Nat.log2_lt (by omega)).mpr (by omega)
 exact floordiv_int (by omega) (by rw[Int.fdiv_eq_ediv_of_nonneg i (by omega)];exact q) (.inl (PyProof.noPylong_of_log2 (by omega)))
section
variable{D:fJ}{U:L2.St}{H:Hp}{Q:VK}{v:V}{K:W.Frag}
theorem wAsg{te:TE}{g:TG}(h:te U H fun x H1=>g x U H1 D.nx):vf te g D U H:=h
theorem wName{i:Nat}{Q:L2.St->Hp->Prop}(h:Q (U.set i (some v)) H):iB i v U H Q:=h
theorem wSub{to ti:TE}{t:vn}{Q:L2.St->Hp->Prop}(h:to U H fun o H1=>ti U H1 fun i H2=>t o i v H2 fun H3=>Q U H3):zw to ti t v U H Q:=h
theorem xL{p:Addr}{xs:List V}{i:Int}{j:Nat}{Q:Hp->Prop}(e:H p=some (.lst xs))(hj:ixN xs.length i=some j)(h:Q (upd H p (.lst (xs.set j v)))):c7 (.ref p) (.int i) v H Q:=⟨p,xs,i,j,rfl,rfl,e,hj,h⟩
theorem wDrop{te:TE}(h:te U H fun _ H1=>D.nx U H1):kK te D U H:=h
theorem wRet{te:TE}(h:te U H D.rt):rW te D U H:=h
theorem wRetN(h:D.rt .non H):uM D U H:=h
theorem wNext(h:D.nx U H):sF D U H:=h
theorem wIfS{c:TT}{t u:TS}(h:c U H fun b H1=>if b=true then t D U H1 else u D U H1):zM c t u D U H:=h
theorem C4{i:Nat}(e:U[i]?=some (some v))(h:Q v H):d_ i U H Q:=⟨v,e,h⟩
theorem wC(h:Q v H):tC v U H Q:=h
theorem wOp{r:R2}{ta tb:TE}(h:ta U H fun x H1=>tb U H1 fun y H2=>r x y H2 Q):tOp r ta tb U H Q:=h
theorem wUn{r:V->Hp->VK->Prop}{ta:TE}(h:ta U H fun x H1=>r x H1 Q):tUn r ta U H Q:=h
theorem wU{g:Int->V}{i:Int}(h:Q (g i) H):rU g (.int i) H Q:=⟨i,rfl,h⟩
theorem wI0{g:Int->Int->V}{i j:Int}(h:Q (g i j) H):rI0 g (.int i) (.int j) H Q:=⟨i,j,rfl,rfl,h⟩
theorem Cz{g:Int->Int->V}{i j:Int}(c:0 < j)(h:Q (g i j) H):rI (fun _ j=>0 < j) g (.int i) (.int j) H Q:=⟨i,j,rfl,rfl,c,h⟩
theorem CU{g:Int->Int->V}{i j:Int}(c:0<=j)(h:Q (g i j) H):rI (fun _ j=>0<=j) g (.int i) (.int j) H Q:=⟨i,j,rfl,rfl,c,h⟩
theorem Cp{g:Int->Int->V}{i j:Int}(c:0 < j/\j < 18446744073709551616)(h:Q (g i j) H):rI tL g (.int i) (.int j) H Q:=⟨i,j,rfl,rfl,c,h⟩
theorem Dr{g:Int->Int->V}{i j:Int}(c:(-18446744073709551616 < i/\i < 18446744073709551616)∨(-18446744073709551616 < j/\j < 18446744073709551616))(h:Q (g i j) H):rI tQ g (.int i) (.int j) H Q:=⟨i,j,rfl,rfl,c,h⟩
theorem CI{g:Int->Int->V}{i j:Int}(c:0<=j/\j<=1000000/\i.natAbs < 2 ^ 64)(h:Q (g i j) H):rI zC g (.int i) (.int j) H Q:=⟨i,j,rfl,rfl,c,h⟩
theorem wEqI{i j:Int}(h:Q (.bl (decide (V.int i=V.int j))) H):rEq (.int i) (.int j) H Q:=⟨rfl,h⟩
theorem wNeI{i j:Int}(h:Q (.bl (!decide (V.int i=V.int j))) H):rNe (.int i) (.int j) H Q:=⟨rfl,h⟩
theorem wTest{te:TE}{Q:Bool->Hp->Prop}(h:te U H fun x H'=>∃ k,x=.bl k/\Q k H'):kX te U H Q:=h
theorem wB{te:TE}{Q:Bool->Hp->Prop}(h:te U H fun x H'=>∃ k,x=.bl k/\Q k H'):tB te U H Q:=h
theorem wBl{b:Bool}{Q:Bool->Prop}(h:Q b):∃ k,V.bl b=.bl k/\Q k:=⟨b,rfl,h⟩
theorem wNot{t:TT}{Q:Bool->Hp->Prop}(h:t U H fun c H1=>Q (!c) H1):z9 t U H Q:=h
theorem wNotV{ta:TE}(h:ta U H fun x H1=>∃ c,x=.bl c/\Q (.bl (!c)) H1):uQ ta U H Q:=h
theorem wAndV{ta tb:TE}(h:ta U H fun x H1=>∃ c,x=.bl c/\if c=true then tb U H1 Q else Q (.bl false) H1):uY ta tb U H Q:=h
theorem wOrV{ta tb:TE}(h:ta U H fun x H1=>∃ c,x=.bl c/\if c=true then Q (.bl true) H1 else tb U H1 Q):zt ta tb U H Q:=h
theorem fK{p:Addr}{xs:List V}{i:Int}(e:H p=some (.lst xs))(a:atI xs i=some v)(h:Q v H):gm K (.ref p) (.int i) H Q:=⟨p,xs,i,v,rfl,rfl,SqL.of e,a,h⟩
theorem Dx{p:Addr}{xs:List V}{i:Int}(e:H p=some (.tup xs))(a:atI xs i=some v)(h:Q v H):eY K (.ref p) (.int i) H Q:=⟨p,xs,i,v,rfl,rfl,SqT.of e,a,h⟩
theorem wNil{Q:List V->Hp->Prop}(h:Q [] H):fS U H Q:=h
theorem wCons{ta:TE}{tr:TA}{Q:List V->Hp->Prop}(h:ta U H fun x H1=>tr U H1 fun xs H2=>Q (x::xs) H2):fQ ta tr U H Q:=h
theorem wLst{t:TA}(h:t U H fun xs H1=>xs.length<=sizeLine /\ ∀ p,H1 p=none->Q (.ref p) (upd H1 p (.lst xs))):yv t U H Q:=h
theorem wTup{t:TA}(h:t U H fun xs H1=>xs.length<=sizeLine /\ ∀ p,H1 p=none->Q (.ref p) (upd H1 p (.tup xs))):zQ t U H Q:=h
theorem wBM{T:String}{r:V->List V->Hp->VK->Prop}{to:TE}{t:TA}(h:to U H fun x H1=>tyV K T x H1/\t U H1 fun xs H2=>r x xs H2 Q):tBM K T r to t U H Q:=h
theorem wCall{sp:Sp}{E:XK}{t:TA}(h:t U H fun vs H1=>sp (vs++[]) H1 Q E):mQ sp [] E t U H Q:=h
theorem wCB{r:List V->Hp->VK->Prop}{t:TA}(h:t U H fun vs H1=>r vs H1 Q):tCB r t U H Q:=h
end
end SW
namespace SW
open PySem PySem.NumText
set_option maxHeartbeats 4000000 in
section
variable{prog:Program}{w:World}{A:Around}{E:Value->Shared->Prop}{s:Shared}{Q:Value->Shared->Prop}{x:PySem.Str}{t u:Tok}
end
end SW
namespace SW
open PySem PySem.Spec PyProof.Rows L2
def pt(m:Int):Nat->Int
 | 0=>0
 | k+1=>pt m k*2+m / 2 ^ k % 2
theorem pH(x:Int):x % 2=0∨x % 2=1:=by omega
theorem cO(m:Int):∀ k:Nat,0<=pt m k/\pt m k < 2 ^ k
 | 0=>⟨Int.le_refl _,by show(0:Int) < 1;decide⟩
 | k+1=>by
   have:=cO m k;have:=pH (m / 2 ^ k);rw[pt,Int.pow_succ];omega
def ak(p:Addr)(H H':Hp):Prop:=∀ b o,b≠p->H b=some o->H' b=some o
theorem ak.refl(p:Addr)(H:Hp):ak p H H:=fun _ _ _ h=>h
theorem ak.trans{p:Addr}{H H1 H2:Hp}(a:ak p H H1)(b:ak p H1 H2):ak p H H2:=fun c o n h=>b c o n (a c o n h)
theorem ak.new{p q:Addr}{o:HO}{H:Hp}(h:H q=none):ak p H (upd H q o):=fun b u _ e=>by
 rw[af (ah e h)];exact e
theorem ak.at{p:Addr}{o:HO}{H:Hp}:ak p H (upd H p o):=fun b u n e=>by
 rw[af n];exact e
theorem ao.new{q:Addr}{o:HO}{H:Hp}(h:H q=none):ao H (upd H q o):=fun b u e=>by
 rw[af (ah e h)];exact e
theorem ao.but{p:Addr}{H H':Hp}(h:ao H H'):ak p H H':=fun b o _ e=>h b o e
def Mix(H:Hp)(t:Addr):Prop:=∃ f m:Int,H t=some (.tup [.int f,.int m])/\0<=f/\f<=65535/\0<=m/\m<=65535
theorem Mix.same{H H':Hp}{t:Addr}(h:Mix H t)(k:ao H H'):Mix H' t:=by
 obtain⟨f,m,e,b⟩:=h;exact⟨f,m,k _ _ e,b⟩
theorem il{α:Type}{xs:List α}{i:Int}(h0:0<=i)(h1:i < xs.length):∃ v,atI xs i=some v/\v∈xs:=by
 obtain⟨j,rfl⟩:=Int.eq_ofNat_of_zero_le h0;have hj:j < xs.length:=by omega
 exact⟨xs[j],mJ (by simp[hj]),List.getElem_mem hj⟩
theorem ak.upd{p q:Addr}{o:HO}{H H':Hp}(k:ak p H H')(h:H q=none):ak p H (upd H' q o):=fun b u n e=>by
 rw[af (ah e h)];exact k b u n e
theorem Mix.upd{H:Hp}{q t:Addr}{o:HO}{xs:List V}(m:Mix H t)(h:H q=some (.lst xs)):Mix (L2.upd H q o) t:=by
 obtain⟨f,z,e,b⟩:=m;refine⟨f,z,?_,b⟩;rw[af (aR e h (by intro z;cases z))];exact e
def iE(H:Hp)(xs:List V):Prop:=∀ v∈xs,∃ t,v=V.ref t/\Mix H t
theorem iE.nil{H:Hp}:iE H []:=fun _ h=>nomatch h
theorem iE.more{H H':Hp}{xs:List V}(h:iE H xs)(t:Addr)(m:Mix H' t)(k:∀ t,Mix H t->Mix H' t):iE H' (xs++[V.ref t]):=fun v hv=>by
 rcases List.mem_append.mp hv with q | q
 . obtain⟨u,e,z⟩:=h v q
   exact⟨u,e,k u z⟩
 exact⟨t,List.mem_singleton.mp q,m⟩
theorem iE.map{H H':Hp}{xs:List V}(h:iE H xs)(k:∀ t,Mix H t->Mix H' t):iE H' xs:=fun v hv=>by
 obtain⟨u,e,z⟩:=h v hv;exact⟨u,e,k u z⟩
theorem iE.new{H:Hp}{xs:List V}(h:iE H xs)(t:Addr)(f m:Int)(ht:H t=none)(b:0<=f/\f<=65535/\0<=m/\m<=65535):iE (L2.upd H t (.tup [.int f,.int m])) (xs++[V.ref t]):=
 h.more t ⟨f,m,aa,b⟩ fun _ z=>z.same (ao.new ht)
section
variable{X:Cx}
theorem jq:bR X (.builtin "isinstance") (fun xs H Q=>∃ x T t b,xs=[x,.ty T]/\gi X.K H x t/\W.kitOne X.K t (.type T)=some b/\Q (.bl b) H):=by
 intro pins s U H xs us Q I r h;obtain⟨x,T,t,b,rfl,ty,e,q⟩:=h;obtain⟨u,v,rfl,ru,rv⟩:=pU r;cases (show v=Value.type T from rv);exact rq I ru ty e fun tk=>⟨.bl b,H,I.tok tk,rfl,q⟩
end
theorem nv{K:W.Frag}:W.kitOne K (.type "int") (.type "int")=some true:=rfl
theorem lU{K:W.Frag}:W.kitOne K (.type "int") (.type "bool")=some false:=by
 show W.kitOne [] (.type "int") (.type "bool")=some false
 decide +kernel
section
variable{D:fJ}{U:L2.St}{H:Hp}{Q:VK}{v:V}{K:W.Frag}
theorem wFor{wi:TI}{g:TG}{tb:TS}(h:wi U H fun J H1=>∃ W:Nat->Nat->L2.St->Hp->Prop,(∃ m,W 0 m U H1) /\ ∀ i m U H,W i m U H ->
 (J.stop i H/\D.nx U H)∨(J.go i H /\ ∃ N:L2.St->Hp->Prop,(∀ U' H',N U' H' -> ∃ m',m' < m/\W (i+1) m' U' H') /\ ∀ x H',J.yld i H x H'->g x U H' fun U2 H2=>tb { D with nx:=N,ct:=N,bk:=D.nx } U2 H2)):y_ wi g tb D U H:=h
theorem wIList{tl:TE}{R:It->Hp->Prop}(h:tl U H fun x H1=>∃ a,x=.ref a/\(∃ xs,SqL K H1 a xs)/\R (Itl K a) H1):tY K tl U H R:=h
theorem wRng1{ta:TA}{R:It->Hp->Prop}(h:ta U H fun vs H1=>∃ j:Int,vs=[.int j] /\ -(2 ^ 62)<=j/\j < 2 ^ 62/\R (Itr 0 j.toNat) H1):qp ta U H R:=h
theorem sK(ns:List Int)(lo hi:Option Int):∃ cs:List Int,iD (ns.map V.int) lo hi=cs.map V.int/\cs.length<=ns.length:=by
 unfold iD;rw[← List.map_drop,← List.map_take];exact⟨_,rfl,by rw[List.length_take,List.length_drop];omega⟩
end
theorem ce{c A B:Prop}[Decidable c](hc:c)(h:A):if decide c=true then A else B:=by
 rw[decide_eq_true hc];exact bL h
theorem gU{cs:List Int}{i:Nat}{y:V}(h:(cs.map V.int)[i]?=some y):∃ c,y=V.int c:=by
 rw[List.getElem?_map]at h;cases e:cs[i]? with
 | none=>rw[e]at h;cases h
 | some z=>rw[e]at h;exact⟨z,(Option.some.inj h).symm⟩
section
variable{H:Hp}{Q:VK}
theorem wInt1{k:Bool}{P:Int->Prop}(h:P (if k=true then 1 else 0)):(∃ i,[V.bl k]=[V.int i]/\P i) ∨ ∃ k',[V.bl k]=[V.bl k']/\P (if k'=true then 1 else 0):=.inr ⟨k,rfl,h⟩
end
theorem Di(a b:Int):decide (V.int a=V.int b)=decide (a=b):=by
 by_cases h:a=b
 . rw[decide_eq_true h,decide_eq_true (congrArg V.int h)]
 rw[decide_eq_false h,decide_eq_false (fun z=>h (V.int.inj z))]
theorem vU(m:Int)(k:Nat):pt m (k+1) / 2=pt m k:=by
 have:=pH (m / 2 ^ k);rw[pt];omega
theorem yV(m:Int)(k:Nat):pt m (k+1) % 2=m / 2 ^ k % 2:=by
 have:=pH (m / 2 ^ k);rw[pt];omega
theorem p2(k:Nat):(0:Int) < 2 ^ k:=Int.pow_pos (by decide)
theorem oZ{j k:Nat}:(2:Int) ^ k<=2 ^ j ↔ k<=j:=by
 constructor
 . intro h
   by_cases hk:j < k
   . have:(2:Int) ^ j < 2 ^ k:=by
      obtain⟨d,rfl⟩:∃ d,k=j+1+d:=⟨k - (j+1),by omega⟩
      rw[Int.pow_add,Int.pow_succ];have:=p2 j;have:=p2 d;have h1:(2:Int) ^ j*2*1<=2 ^ j*2*2 ^ d:=Int.mul_le_mul_of_nonneg_left (by omega) (by omega)
      omega
     omega
   omega
 intro h;obtain⟨d,rfl⟩:∃ d,j=k+d:=⟨j - k,by omega⟩
 rw[Int.pow_add];have:=p2 k;have:=p2 d;have h1:(2:Int) ^ k*1<=2 ^ k*2 ^ d:=Int.mul_le_mul_of_nonneg_left (by omega) (by omega)
 omega
section
variable{D:fJ}{U:L2.St}{H:Hp}{Q:VK}
theorem wAnd{t u:TT}{Q:Bool->Hp->Prop}(h:t U H fun c H1=>if c=true then u U H1 Q else Q false H1):zr t u U H Q:=h
theorem wOr{t u:TT}{Q:Bool->Hp->Prop}(h:t U H fun c H1=>if c=true then Q true H1 else u U H1 Q):tOr t u U H Q:=h
theorem wChain{r r':R2}{ta tb tc:TE}(h:ta U H fun x H1=>tb U H1 fun y H2=>r x y H2 fun z H3=>∃ k,z=.bl k/\(if k=true then tc U H3 fun w' H4=>r' y w' H4 Q else Q (.bl false) H3)):i6 r r' ta tb tc U H Q:=h
end
theorem aF{c A B:Prop}[Decidable c](hc:¬ c)(h:B):if decide c=true then A else B:=by
 rw[decide_eq_false hc];exact bB h
theorem mW{c A B:Prop}[Decidable c](hc:¬ c)(h:A):if(!decide c)=true then A else B:=by
 rw[decide_eq_false hc];exact bL h
theorem Da{b:Bool}{A B:Prop}(h1:b=true->A)(h2:b=false->B):if b=true then A else B:=by
 cases b with
 | true=>exact bL (h1 rfl)
 | false=>exact bB (h2 rfl)
theorem vi{a b:Int}:V.int a=V.int b ↔ a=b:=⟨V.int.inj,congrArg _⟩
def o7:Sp:=fun vs H Q _=>∃(k:Int) (t:Addr) (f m:Int),vs=[.int k,.ref t]/\H t=some (.tup [.int f,.int m])/\(0<=f/\f<=65535)/\Q (.int ((k*f+m) % 65536)) H
def iL:Sp:=fun vs H Q _=>∃ m s:Int,vs=[.int m,.int s]/\0 < s/\Q (.int (m % s)) H
def iV:Sp:=fun vs H Q _=>∃ m:Int,vs=[.int m]/\Q (.int (pt m 16)) H
theorem BI{k:Int}{t:Addr}{f m:Int}{H:Hp}{Q:VK}{E:XK}(h:H t=some (.tup [.int f,.int m]))(b:0<=f/\f<=65535)(q:Q (.int ((k*f+m) % 65536)) H):o7 ([.int k,.ref t]++[]) H Q E:=⟨k,t,f,m,rfl,h,b,q⟩
theorem uO{m s:Int}{H:Hp}{Q:VK}{E:XK}(h:0 < s)(q:Q (.int (m % s)) H):iL ([.int m,.int s]++[]) H Q E:=⟨m,s,rfl,h,q⟩
theorem uX{m:Int}{H:Hp}{Q:VK}{E:XK}(q:Q (.int (pt m 16)) H):iV ([.int m]++[]) H Q E:=⟨m,rfl,q⟩
def aB(X:Cx)(scope:Scope)(cl:List (Str×Addr))(N':List Str)(s:Shared)(H:Hp)(fp:List Addr)(pins:List (Addr×Obj)):Cx:=
 { X with N:=N',s₀:=s,H₀:=H,env:=compEnvC scope cl s.heap.objs.size X.env,outer:=X.stack,stack:=X.stack,ex:=fp,fn:=fun _=>false,pn:=X.pn++pins,xe:=fun _ _=>False }
structure aC(X:Cx)(scope:Scope)(cl:List (Str×Addr))(x:Str)(js:List Nat)(N':List Str):Prop where
 clos:closureFor scope X.env=pure cl
 kind:scope.kind=.function
 nocell:∀ y∈scope.names,y.2 ≠ .cell
 names:∀ y∈scope.names,y.2=.local->scope.names.lookup y.1=some .local
 own:scope.names.lookup x=some .local
 sub:∀ p∈cl,X.env.cells.lookup p.1=some p.2
 has:∀ y,((relabel scope X.env).names.lookup y=some .cell∨(relabel scope X.env).names.lookup y=some .free) -> ∃ c,cl.lookup y=some c
 nm:N'=x::js.map fun j=>X.N.getD j Str.empty
 see:∀(i j:Nat),js[i]?=some j -> ∃ y,X.N[j]?=some y/\(X.env.kindOf y=some .cell∨X.env.kindOf y=some .free)/\((relabel scope X.env).names.lookup y=some .cell∨(relabel scope X.env).names.lookup y=some .free)
def seen(U:L2.St)(js:List Nat):L2.St:=none::js.map fun j=>U.getD j none
section
variable{X:Cx}{scope:Scope}{cl:List (Str×Addr)}{x:Str}{js:List Nat}{N':List Str}{pins:List (Addr×Obj)}{U:L2.St}{H:Hp}{s:Shared}{fp:List Addr}
theorem aC.sub'(S:aC X scope cl x js N'){y:Str}{c:Addr}(h:cl.lookup y=some c):X.env.cells.lookup y=some c:=S.sub (y,c) (PySem.mem_of_lookup h)
theorem pP(S:aC X scope cl x js N')(I:Inv X pins U H s)(hf:∀ b∈fp,eF X pins H b)(ho:∀ b∈fp,b < s.heap.objs.size):(aB X scope cl N' s H fp pins).Ok where
 mod:=I.ok.mod
 kind:=S.kind
 glob:=I.ok.glob
 blt:=I.ok.blt
 above:=Nat.le_refl _
 inj:=fun y z c h1 h2=>I.ok.inj y z c (S.sub' h1) (S.sub' h2)
 has:=fun y h=>S.has y h
 cab:=fun y c h=>absurd h Bool.false_ne_true
 hd:=I.ok.hd
 frames:=I.ok.frames
 stk:=.inl rfl
 exf:=fun b hb=>⟨Nat.ne_of_lt (ho b hb),fun y c h=>(hf b hb).2.2.2.2.1 y c (S.sub' h)⟩
 bs:=I.bs
 bsz:=Nat.le_trans I.ok.bsz I.sz
 noex:=fun b o e hb=>by
  rcases(hf b hb).2.2.2.1 with z | z
  . exact I.ok.noex b o e z
  exact absurd (Nat.lt_of_lt_of_le (Heap.lt_size (I.ok.bs b o e).1) z) (Nat.lt_irrefl _)
 exfs:=fun b hb z=>by
  rcases List.mem_cons.mp (I.stkSub b z)with e | e
  . exact(hf b hb).2.1 e
  exact(hf b hb).2.2.1 e
 funs:=I.stack
 frf:=I.stkFree
theorem tP(S:aC X scope cl x js N')(I:Inv X pins U H s)(hf:∀ b∈fp,eF X pins H b)(ho:∀ b∈fp,b < s.heap.objs.size){s4:Shared}{m:Str->Option Value}(hos:s4.os=s.os)(hg:s4.gens=s.gens)
 (hn:s4.heap.Ns s.heap.objs.size m) (hk:∀ b o,s.heap.get? b=some o->s4.heap.get? b=some o):Inv (aB X scope cl N' s H fp pins) [] (seen U js) H s4 where
 ok:=pP S I hf ho
 os:=hos
 bare:=by rw[hg];exact I.bare
 base:=Un.kept hk
 loc:=by
  obtain⟨mX,_,hl⟩:=I.loc;refine⟨m,hn,fun i y v h1 h2 h3=>?_⟩;cases i with
  | zero=>
    unfold seen at h2;simp at h2
  | succ i=>
    have h1':N'[i+1]?=some y:=h1;rw[S.nm,List.getElem?_cons_succ,List.getElem?_map]at h1';unfold seen at h2;rw[List.getElem?_cons_succ,List.getElem?_map]at h2;cases ej:js[i]? with
    | none=>rw[ej]at h2;cases h2
    | some j=>
      rw[ej]at h1' h2;obtain⟨z,hz,k1,k2⟩:=S.see i j ej;have ey:z=y:=by
       have:X.N.getD j Str.empty=y:=Option.some.inj h1';rw[List.getD_eq_getElem?_getD,hz]at this;exact this
      subst ey;have ev:U[j]?=some (some v):=by
       have q:U.getD j none=some v:=Option.some.inj h2;rw[List.getD_eq_getElem?_getD]at q;cases e:U[j]? with
       | none=>rw[e]at q;cases q
       | some w'=>rw[e]at q;exact congrArg some q
      have kx:X.env.scope.names.lookup z=some .cell∨X.env.scope.names.lookup z=some .free:=k1;obtain⟨u,r,l⟩:=hl j z v hz ev (.inr kx);refine⟨u,r,.inr ⟨k2,?_⟩⟩;obtain⟨c,hc⟩:=S.has z k2;rcases l with ⟨kl,_⟩ | ⟨_,c',e',cell⟩
      . rcases k1 with k1 | k1 <;> rw[k1]at kl <;> cases kl
      have:c'=c:=Option.some.inj (e'.symm.trans (S.sub' hc));subst this;obtain⟨o,q1,q2⟩:=cell;exact⟨c',hc,o,hk _ _ q1,q2⟩
 cell:=fun y c h=>by
  obtain⟨v,o,q1,q2⟩:=I.cell y c (S.sub' h);exact⟨v,o,hk _ _ q1,q2⟩
 free:=I.hok.fresh (Nat.le_refl _)
 freeC:=fun y c h=>I.freeC y c (S.sub' h)
 pin:=fun p hp=>by
  have hp':p∈X.pn++pins:=by
   have q:p∈(X.pn++pins)++[]:=hp;rw[List.append_nil]at q;exact q
  obtain⟨e,n,ne,nf,d⟩:=I.pin p hp';refine⟨hk _ _ e,n,Nat.ne_of_lt (Heap.lt_size e),fun z=>?_,d⟩;rcases List.mem_cons.mp (I.stkSub p.1 z)with q | q
  . exact ne q
  exact nf q
 hok:=I.hok.kept hk
 len:=by
  show(seen U js).length=N'.length;rw[S.nm];unfold seen;simp
theorem kL{s':Shared}{U':L2.St}{H':Hp}{h':Heap}(I:Inv X pins U H s)(hf:∀ b∈fp,eF X pins H b)(J:Inv (aB X scope cl N' s H fp pins) [] U' H' s')(hs:Heap.SameBut s.heap.objs.size s'.heap h') :
 Inv X pins U H' { s' with heap:=h' }:=by
 have ne:∀ b o,s.heap.get? b=some o->b≠s.heap.objs.size:=fun b o e=>Nat.ne_of_lt (Heap.lt_size e);have u0:Un (frs X.stack) fp H H' s.heap s'.heap:=J.base;have u:Un (frs X.stack) fp H H' s.heap h':=
  ⟨fun b o e n h1 h2=>(hs.2 b (ne b o e)).trans (u0.keep b o e n h1 h2),fun b o e n h1 h2=>let⟨sl,q⟩:=u0.slot b o e n h1 h2;⟨sl,(hs.2 b (ne b o e)).trans q⟩,u0.free,
   fun b o e h2=>let⟨o',q⟩:=u0.there b o e h2;⟨o',(hs.2 b (ne b o e)).trans q⟩,u0.tups,u0.frzs,u0.tbls⟩
 have hfree:H' s.heap.objs.size=none:=J.free;have hok:HOk X.prog X.w H' h':=fun b ob e=>by
  refine(J.hok b ob e).stay (fun c w' hc q=>(hs.2 c ?_).trans q) (fun _ q=>q) fun _ _ q=>q;rintro rfl;rcases hc with rfl | hc
  . rw[hfree]at e;cases e
  rw[hfree]at hc;cases hc
 exact I.call' (s':={ s' with heap:=h' }) J.os u hok J.bare fun b hb=>⟨(hf b hb).2.2.2.1,(hf b hb).2.1,(hf b hb).2.2.2.2.1,(hf b hb).2.2.2.2.2⟩
end
theorem kE{prog:Program}{w:World}{A:Around}{R:Result->Shared->Prop}{s:Shared}{elt target iter:Expr}{ifs:List Expr}{scope:Scope}{pos:Pos}{it acc:Value}{env:Env}(I:Nat->Shared->Prop)
 (turn:∀ n s,I n s->wpAny (model prog w) A (pyNext it) (fun r s₁=>match r with
  | none=>R (.ok .next) s₁
  | some v=>wpAny (model prog w) A (letOwnedTupleGo target it v) (fun _ s₁'=>wpAny (model prog w) A (assign target env v) (fun _ s₂=>
   wpAny (model prog w) A (forIn ifs true fun c r=>if r=true then do let ok ← isTrue c env (eval c env);pure (ForInStep.yield ok)else pure (ForInStep.yield r)) (fun ok s₃=>
    if ok=true then wpAny (model prog w) A (eval elt env) (fun x s₄=>
     wpAny (model prog w) A (call (.builtin "list.append") [acc,x]) (fun _ s₅=>∃ m,m < n/\I m s₅) (fun _ _=>False) s₄) (fun _ _=>False) s₃
    else ∃ m,m < n/\I m s₃) (fun _ _=>False) s₂) (fun _ _=>False) s₁') (fun _ _=>False) s₁) (fun _ _=>False) s)
 (n:Nat) (h:I n s):codeAny (model prog w) A (.compLoop (.ListComp elt [⟨target,iter,ifs,0⟩] scope pos) 0 it acc env) R s:=by
 refine codeAny_loop rfl I (fun n s hI=>?_) n h;show wpAny _ A ((compTurn (.ListComp elt [⟨target,iter,ifs,0⟩] scope pos) 0 it acc env).onRaise (fun x=>do noteFrame x env;theTreesLotGoes x)) _ _ s;refine wpAny_noted ?_;rw[compTurn_list];refine wpAny_bind (wpAny_standAt (wpAny_bind (wpAny_mono (turn n s hI) (fun r s₁ h₁=>?_) fun _ _ h'=>h'.elim)));cases r with
 | none=>exact wpAny_pure h₁
 | some v=>
   refine wpAny_bind (wpAny_mono h₁ (fun _ s₁' h₁'=>?_) fun _ _ h'=>h'.elim);refine wpAny_bind (wpAny_mono h₁' (fun _ s₂ h₂=>wpAny_bind (wpAny_mono h₂ (fun ok s₃ h₃=>?_) fun _ _ h'=>h'.elim)) fun _ _ h'=>h'.elim);cases ok with
   | false=>exact wpAny_pure ⟨rfl,h₃⟩
   | true=>
     exact wpAny_bind (wpAny_bind (wpAny_mono h₃ (fun x s₄ h₄=>wpAny_bind (wpAny_mono h₄ (fun _ s₅ h₅=>wpAny_pure (wpAny_pure ⟨rfl,h₅⟩)) fun _ _ h'=>h'.elim)) fun _ _ h'=>h'.elim))
def PTs(X:Cx)(ifs:List Expr)(t:TT):Prop:=
 ∀(pins:List (Addr×Obj)) (s:Shared) (U:L2.St) (H:Hp) (Q:Bool->Hp->Prop) (E:Value->Shared->Prop),(∀ e s',X.xe e s'->E e s')->Inv X pins U H s->t U H Q ->
   wpAny (model X.prog X.w) X.A (forIn ifs true fun c r=>if r=true then do let ok ← isTrue c X.env (eval c X.env);pure (ForInStep.yield ok)else pure (ForInStep.yield r)) (TP X pins U Q) E s
theorem iJ{X:Cx}:PTs X [] (fun _ H Q=>Q true H):=fun _ _ _ H _ _ _ I h=>wpAny_tests_nil ⟨H,I,h⟩
theorem pW{X:Cx}{c:Expr}{tc:TT}(hc:PT X c tc):PTs X [c] tc:=fun pins s U H Q E hE I h=>wpAny_tests_one (wpAny_mono (hc pins s U H Q I h) (fun _ _ q=>q) hE)
def j7(js:List Nat)(wi:TI)(tt:TT)(te:TE):TE:=fun U H Q=>wi U H fun J H1=>∀ D,H1 D=none -> ∃ W:Nat->Nat->L2.St->Hp->Prop,(∃ m,W 0 m (seen U js) (upd H1 D (.lst []))) /\
 ∀ i m U' H',W i m U' H'->(J.stop i H'/\Q (.ref D) H')∨(J.go i H' /\ ∀ x H2,J.yld i H' x H2->tt (U'.set 0 (some x)) H2 fun ok H3=>
   if ok=true then te (U'.set 0 (some x)) H3 fun y H4=>∃ ys,H4 D=some (.lst ys)/\ys.length < sizeLine /\ ∃ m',m' < m/\W (i+1) m' (U'.set 0 (some x)) (upd H4 D (.lst (ys++[y])))
   else ∃ m',m' < m/\W (i+1) m' (U'.set 0 (some x)) H3)
section
variable{X:Cx}{scope:Scope}{cl:List (Str×Addr)}{x:Str}{js:List Nat}{N':List Str}{elt iter:Expr}{ifs:List Expr}{px pos:Pos}{wi:TI}{tt:TT}{te:TE}
theorem li{RR:Value->Addr->Result->Shared->Prop}{pins:List (Addr×Obj)}{U:L2.St}{H2:Hp}{s2:Shared}{Q:VK}{it:Addr}{fp:List Addr}{tn:Nat->Heap->Prop}{J:It}(S:aC X scope cl x js N')(nd:N'.Nodup)(hc:X.calm=true)
 (ht:∀ s H fp pins,PTs (aB X scope cl N' s H fp pins) ifs tt) (he:∀ s H fp pins,PE (aB X scope cl N' s H fp pins) elt te)
 (I2:Inv X pins U H2 s2) (T:oJ X.prog X.w X.K (.Name x px) J fp it tn) (st2:tn 0 s2.heap) (f2:∀ b∈fp,eF X pins H2 b)
 (k:∀ D,H2 D=none -> ∃ W:Nat->Nat->L2.St->Hp->Prop,(∃ m,W 0 m (seen U js) (upd H2 D (.lst []))) /\
  ∀ i m U' H',W i m U' H'->(J.stop i H'/\Q (.ref D) H')∨(J.go i H' /\ ∀ x H2,J.yld i H' x H2->tt (U'.set 0 (some x)) H2 fun ok H3=>
    if ok=true then te (U'.set 0 (some x)) H3 fun y H4=>∃ ys,H4 D=some (.lst ys)/\ys.length < sizeLine /\ ∃ m',m' < m/\W (i+1) m' (U'.set 0 (some x)) (upd H4 D (.lst (ys++[y])))
    else ∃ m',m' < m/\W (i+1) m' (U'.set 0 (some x)) H3))
 (fin:∀(D C:Addr) (s6:Shared) (H6:Hp) (m:Str->Option Value),s6.heap.Ns C m->(∀ h',Heap.SameBut C s6.heap h'->Inv X pins U H6 { s6 with heap:=h' })->H6 C=none->eF X pins H6 C->Q (.ref D) H6->RR (.ref D) C (.ok .next) s6) :
 wpAny (model X.prog X.w) X.A (newList []) (fun acc s₃=>wpAny (model X.prog X.w) X.A (newFunctionEnv scope X.env.globals cl [] X.env.qual none .none (some X.env)) (fun cenv s₄=>
  codeAny (model X.prog X.w) X.A (.compStart (.ListComp elt [⟨.Name x px,iter,ifs,0⟩] scope pos) 0 (.ref it) acc { cenv with scope:=relabel scope X.env }) (RR acc cenv.locals) s₄) X.xe s₃) X.xe s2:=by
 have hDn:H2 s2.heap.objs.size=none:=I2.hok.fresh (Nat.le_refl _);obtain⟨W,⟨m0,w0⟩,turn⟩:=k s2.heap.objs.size hDn;refine wpAny_newObj_type (wpAny_newFunctionEnv S.nocell (by intro y hy;simp at hy) (fun h4 hns4 hsb4=>?_) S.kind) (by show 0<=sizeLine;exact Nat.zero_le _)
 have I3:Inv X pins U (upd H2 s2.heap.objs.size (.lst [])) { s2 with heap:=s2.heap.push { cls:=.type "list",dict:=none,data:=.seq ([]:List Value).toArray } }:=
  I2.laid (t':=s2.toks) (fun b u e=>Heap.get?_push_of_some _ e) (Nat.le_refl _) ⟨Nat.zero_le _,[],0,.nil,Heap.get?_push_size _ rfl⟩
 have ltf:∀ b∈fp,b < s2.heap.objs.size:=fun b hb=>let⟨o,e,_⟩:=T.obj 0 _ st2 b hb;Heap.lt_size e;have f3:∀ b∈fp,eF X pins (upd H2 s2.heap.objs.size (.lst [])) b:=fun b hb=>⟨by rw[af (Nat.ne_of_lt (ltf b hb))];exact(f2 b hb).1,(f2 b hb).2⟩
 generalize hH:upd H2 s2.heap.objs.size (.lst [])=H3 at *;generalize hS3:({ s2 with heap:=s2.heap.push { cls:=.type "list",dict:=none,data:=.seq ([]:List Value).toArray } }:Shared)=s3 at *;have o3:∀ b∈fp,b < s3.heap.objs.size:=fun b hb=>by
  rw[← hS3];show b < (s2.heap.push _).objs.size;rw[Heap.size_push];exact Nat.lt_succ_of_lt (ltf b hb)
 have k4:∀ b o,s3.heap.get? b=some o->h4.get? b=some o:=fun b o e=>(hsb4.2 b (Nat.ne_of_lt (Heap.lt_size e))).trans (Heap.get?_push_of_some _ e);have st3:tn 0 s3.heap:=T.keep 0 _ _ st2 fun b hb o e=>by rw[← hS3];exact Heap.get?_push_of_some _ e
 have st4:tn 0 h4:=T.keep 0 _ _ st3 fun b hb o e=>k4 b o e;have I4:Inv (aB X scope cl N' s3 H3 fp pins) [] (seen U js) H3 { s3 with heap:=h4,toks:=s3.toks+([]:List (Str×Value)).length }:=tP S I3 f3 o3 rfl rfl hns4 k4;have ok:=pP S I3 f3 o3;have fp5:∀{H':Hp},(∀ b∈fp,H' b=none) -> ∀ b∈fp,eF (aB X scope cl N' s3 H3 fp pins) [] H' b:=fun hn b hb=>
  ⟨hn b hb,Nat.ne_of_lt (o3 b hb),ok.exfs b hb,.inl hb,fun y c h=>(f3 b hb).2.2.2.2.1 y c (S.sub' h),fun p hp=>(f3 b hb).2.2.2.2.2 p (by
   have q:p∈(X.pn++pins)++[]:=hp;rw[List.append_nil]at q;exact q)⟩
 have loop:codeAny (model X.prog X.w) X.A (.compLoop (.ListComp elt [⟨.Name x px,iter,ifs,0⟩] scope pos) 0 (.ref it) (.ref s2.heap.objs.size) (compEnvC scope cl s3.heap.objs.size X.env))
  (RR (.ref s2.heap.objs.size) s3.heap.objs.size) { s3 with heap:=h4,toks:=s3.toks+([]:List (Str×Value)).length }:=by
  refine kE (fun n s'=>∃ i U' H',Inv (aB X scope cl N' s3 H3 fp pins) [] U' H' s'/\tn i s'.heap/\(∀ b∈fp,H' b=none)/\W i n U' H') ?_ m0 ⟨0,_,_,I4,st4,fun b hb=>(f3 b hb).1,w0⟩;rintro n s5 ⟨i,U5,H5,I5,st5,fr5,w5⟩;rcases turn i n U5 H5 w5 with ⟨stop,q⟩ | ⟨go,step⟩
  . refine wpAny_mono (T.done (aB X scope cl N' s3 H3 fp pins) rfl rfl rfl hc i [] s5 U5 H5 (fun _ _=>False) I5 (fp5 fr5) st5 stop) (fun r s6 ⟨hr,I6⟩=>?_) (fun _ _ z=>z.elim)
    subst hr;obtain⟨m,hm,_⟩:=I6.loc;exact fin _ _ s6 H5 m hm (fun h' hs'=>kL I3 f3 I6 hs') I6.free (I3.fpOk (Nat.le_refl _) I6.free) q
  refine wpAny_mono (T.item (aB X scope cl N' s3 H3 fp pins) rfl rfl rfl hc i [] s5 U5 H5 (fun _ _=>False) I5 (fp5 fr5) st5 go) (fun r s6 ⟨u,hr,h6⟩=>?_) (fun _ _ z=>z.elim);subst hr;refine wpAny_mono h6 (fun _ s6 ⟨y,H6,I6,r6,y6,st6,fr6⟩=>?_) (fun _ _ z=>z.elim);have I6':=I6.pinned (fp5 fr6) (T.obj _ _ st6);have again:∀{U7:L2.St}{H7:Hp}{s7:Shared}{m':Nat},Inv (aB X scope cl N' s3 H3 fp pins) ([]++hZ fp s6.heap) U7 H7 s7->m' < n->W (i+1) m' U7 H7 ->
   ∃ m,m < n /\ ∃ i U' H',Inv (aB X scope cl N' s3 H3 fp pins) [] U' H' s7/\tn i s7.heap/\(∀ b∈fp,H' b=none)/\W i m U' H':=fun {U7 H7 s7 m'} I7 hm w7=>by
   refine⟨m',hm,i+1,U7,H7,I7.unpinned,T.keep _ _ _ st6 fun b hb o e=>(I7.pin (b,o) (List.mem_append_right _ (List.mem_append_right _ (cz hb e)))).1,fun b hb=>?_,w7⟩;obtain⟨o,e,d⟩:=T.obj _ _ st6 b hb;exact(I7.pin (b,o) (List.mem_append_right _ (List.mem_append_right _ (cz hb e)))).2.1
  have step':=step y H6 y6;refine wpAny_mono (iO (X:=aB X scope cl N' s3 H3 fp pins) (i:=0) (x:=x) (pos:=px) nd (by show N'[0]?=some x;rw[S.nm];rfl) (.inl (lookup_relabel_local S.own)) (.inr (lookup_relabel_local S.own)) _ s6 U5 H6 y u
   (fun U' H'=>U'=U5.set 0 (some y)/\H'=H6) I6' r6 ⟨rfl,rfl⟩) (fun _ s7 ⟨U7,H7,I7,e7,eH⟩=>?_) (fun _ _ z=>z.elim)
  subst e7;subst eH;refine wpAny_mono (ht s3 H3 fp pins _ s7 _ H7 _ (fun _ _=>False) (fun _ _ z=>z) I7 step') (fun okk s8 ⟨H8,I8,q8⟩=>?_) (fun _ _ z=>z.elim);cases okk with
  | false=>
    obtain⟨m',hm,w8⟩:=q8;exact again I8 hm w8
  | true=>
    refine wpAny_mono (he s3 H3 fp pins _ s8 _ H8 _ I8 q8) (fun ev s9 ⟨z,H9,I9,r9,ys,hys,hlen,m',hm,w9⟩=>?_) (fun _ _ z=>z.elim);refine wpAny_mono (fu (X:=aB X scope cl N' s3 H3 fp pins) _ s9 _ H9 (.ref s2.heap.objs.size) [z] (.ref s2.heap.objs.size) [ev] (fun _ H'=>H'=upd H9 s2.heap.objs.size (.lst (ys++[z]))) I9 rfl (.cons r9 .nil)
     ⟨_,ys,z,rfl,rfl,hys,hlen,rfl⟩) (fun _ s10 ⟨_,H10,I10,_,e10⟩=>?_) (fun _ _ z=>z.elim)
    subst e10;exact again I10 hm w9
 exact codeAny_compStart_list loop (T.self X.A 0 _ _ _ st4 loop)
theorem pI(S:aC X scope cl x js N')(nd:N'.Nodup)(hc:X.calm=true)(hi:PI X (.Name x px) iter wi)
 (ht:∀ s H fp pins,PTs (aB X scope cl N' s H fp pins) ifs tt) (he:∀ s H fp pins,PE (aB X scope cl N' s H fp pins) elt te)
 (hs:∀ x,foldedSetIterable iter X.env x=pure x:=by intro _;rfl):PE X (.ListComp elt [⟨.Name x px,iter,ifs,0⟩] scope pos) (j7 js wi tt te):=by
 intro pins s U H Q I h;rw[eval_ListComp];refine wpAny_comprehension_free (use:=none) rfl hs S.clos S.kind S.names (thn (hi pins s U H _ I h) fun v s1 h1=>thn h1 fun itv s2 h2=>?_);obtain⟨it,fp,tn,J,H2,e,I2,T,st2,f2,k⟩:=h2;subst e;exact li (RR:=fun acc C=>compPost (model X.prog X.w) X.A X.xe none (EP X pins U Q) acc C) S nd hc ht he I2 T st2 f2 k fun D C s6 H6 m hm back _ _ q=>⟨m,hm,fun h' hs'=>⟨.ref D,H6,back h' hs',rfl,q⟩⟩
def dX(i:Nat)(t:TE):TS:=fun D U H=>t U H fun v H1=>D.nx (U.set i (some v)) H1
theorem jn{i:Nat}{y:Str}{py spos:Pos}(S:aC X scope cl x js N')(nd:N'.Nodup)(hc:X.calm=true)(hi:PI X (.Name x px) iter wi)
 (ht:∀ s H fp pins,PTs (aB X scope cl N' s H fp pins) ifs tt) (he:∀ s H fp pins,PE (aB X scope cl N' s H fp pins) elt te)
 (hN:X.N.Nodup) (hy:X.N[i]?=some y) (hl:Loc X.env.scope y) (hf:X.fn y=true∨X.env.scope.names.lookup y=some .local)
 (hsw:swapsWith (.ListComp elt [⟨.Name x px,iter,ifs,0⟩] scope pos) (some (.Name y py)) spos.line X.env=pure true)
 (hs:∀ x,foldedSetIterable iter X.env x=pure x:=by intro _;rfl):PS X (.Assign [.Name y py] (.ListComp elt [⟨.Name x px,iter,ifs,0⟩] scope pos) spos) (dX i (j7 js wi tt te)):=by
 intro pins s U H D I h;rw[exec_Assign_Name_used _ _ _ _ hsw];refine wpAny_bind (wpAny_standAt (wpAny_bind ?_));show wpAny _ X.A (do let _ ← comprehension (.ListComp elt [⟨.Name x px,iter,ifs,0⟩] scope pos) scope X.env _ (newList []) false (eval iter X.env) (some (assign (.Name y py) X.env))) _ _ s;refine wpAny_bind (wpAny_mono (wpAny_comprehension_free (use:=some (assign (.Name y py) X.env)) (Q:=fun _ s'=>SP X pins D .next s') rfl hs S.clos S.kind S.names
  (thn (hi pins s U H _ I h) fun v s1 h1=>thn h1 fun itv s2 h2=>?_)) (fun _ s' hq=>wpAny_pure (wpAny_pure hq)) fun _ _ e=>e)
 obtain⟨it,fp,tn,J,H2,e,I2,T,st2,f2,k⟩:=h2;subst e;refine li (Q:=fun v H1=>D.nx (U.set i (some v)) H1) (RR:=fun acc C=>compPost (model X.prog X.w) X.A X.xe (some (assign (.Name y py) X.env)) (fun _ s'=>SP X pins D .next s') acc C) S nd hc ht he I2 T st2 f2 k fun A C s6 H6 m hm back hC fC q=>?_;have I6:Inv X pins U H6 s6:=back s6.heap (Heap.SameBut.refl ..);obtain⟨oC,es,ep,hoC,hdC,hr⟩:=id hm;have I7:Inv X (pins++[(C,oC)]) U H6 s6:=I6.pins_of fun p hp=>by
  rcases List.mem_append.mp hp with z | z
  . exact I6.pin p (List.mem_append_right _ z)
  rw[List.mem_singleton.mp z];exact⟨hoC,hC,fC.2.1,fC.2.2.1,fun v e=>by rw[hdC]at e;cases e⟩
 show wpAny _ X.A (assign (.Name y py) X.env (.ref A)) _ _ s6;refine thn (iO hN hy hl hf _ s6 U H6 (.ref A) (.ref A) (fun U' H'=>U'=U.set i (some (.ref A))/\H'=H6) I7 rfl ⟨rfl,rfl⟩) fun _ s8 zz=>?_;obtain⟨U8,H8,I8,e8,e9⟩:=zz;subst e8;subst e9;have h8:s8.heap.get? C=some oC:=(I8.pin (C,oC) (List.mem_append_right _ (List.mem_append_right _ (List.mem_singleton.mpr rfl)))).1;refine⟨m,⟨oC,es,ep,h8,hdC,hr⟩,fun h' hs'=>⟨_,H8,?_,q⟩⟩;have I9:Inv X pins (U.set i (some (.ref A))) H8 s8:=I8.pins_of fun p hp=>I8.pin p (List.mem_append_right _ (List.mem_append_left _ hp));exact I9.turned (t':=s8.toks) (fun b o hb e=>(hs'.2 b hb).trans e) hC fC.2.1 fC.2.2.2.1 fC.2.2.2.2.1 fC.2.2.2.2.2
end
def kC(cells:List (Str×Addr)):List (Str×Addr)->Prop
 | []=>True
 | p::r=>cells.lookup p.1=some p.2/\kC cells r
theorem kC.all{cells:List (Str×Addr)}:∀{cl:List (Str×Addr)},kC cells cl -> ∀ p∈cl,cells.lookup p.1=some p.2
 | _::_,h,p,hp=>by
   rcases List.mem_cons.mp hp with rfl | hp
   . exact h.1
   exact kC.all h.2 p hp
def j_(k:Option NameKind):Bool:=k == some .cell || k == some .free
theorem iQ{k:Option NameKind}(h:j_ k=true):k=some .cell∨k=some .free:=by
 unfold j_ at h;rw[Bool.or_eq_true]at h;exact h.imp beq_iff_eq.mp beq_iff_eq.mp
theorem aC.of{X:Cx}{scope:Scope}{cl:List (Str×Addr)}{x:Str}{js:List Nat}{N':List Str}(clos:closureFor scope X.env=pure cl)(kind:scope.kind=.function)(nocell:scope.names.all (fun y=>y.2 != .cell)=true)
 (names:scope.names.all (fun y=>y.2 != .local || scope.names.lookup y.1 == some .local)=true) (own:scope.names.lookup x=some .local) (sub:kC X.env.cells cl)
 (has:(relabel scope X.env).names.all (fun p=>!j_ (some p.2) || (cl.lookup p.1).isSome)=true) (nm:N'=x::js.map fun j=>X.N.getD j Str.empty)
 (see:js.all (fun j=>match X.N[j]? with | some y=>j_ (X.env.kindOf y) && j_ ((relabel scope X.env).names.lookup y) | none=>false)=true):aC X scope cl x js N' where
 clos:=clos
 kind:=kind
 nocell:=fun y hy=>by
  have:=List.all_eq_true.mp nocell y hy;exact bne_iff_ne.mp this
 names:=fun y hy e=>by
  have:=List.all_eq_true.mp names y hy;rw[e]at this;exact beq_iff_eq.mp (by simpa using this)
 own:=own
 sub:=sub.all
 has:=fun y h=>by
  have go:∀ k,(relabel scope X.env).names.lookup y=some k->j_ (some k)=true -> ∃ c,cl.lookup y=some c:=fun k hk hc=>by
   have:=List.all_eq_true.mp has (y,k) (PySem.mem_of_lookup hk);simp only[hc,Bool.not_true,Bool.false_or]at this;exact Option.isSome_iff_exists.mp this
  rcases h with h | h
  . exact go _ h rfl
  exact go _ h rfl
 nm:=nm
 see:=fun i j e=>by
  have:=List.all_eq_true.mp see j (List.mem_of_getElem? e);cases ey:X.N[j]? with
  | none=>rw[ey]at this;cases this
  | some y=>
    rw[ey]at this;rw[Bool.and_eq_true]at this;exact⟨y,rfl,iQ this.1,iQ this.2⟩
namespace B
section
variable{X:Cx}{scope:Scope}{cl:List (Str×Addr)}{x:Str}{N':List Str}{elt iter c:Expr}{px pos:Pos}{wi:TI}{te:TE}{tc:TT}
theorem comp(js:List Nat)(N':List Str)(S:aC X scope cl x js N')(nd:N'.Nodup)(hi:Bx (PI X (.Name x px) iter wi))(he:∀ s H fp pins,Bx (PE (aB X scope cl N' s H fp pins) elt te))(hc:X.calm=true:=by rfl)
 (hs:∀ x,foldedSetIterable iter X.env x=pure x:=by intro _;rfl):Bx (PE X (.ListComp elt [⟨.Name x px,iter,[],0⟩] scope pos) (j7 js wi (fun _ H Q=>Q true H) te)):=
 ⟨pI S nd hc hi.out (fun _ _ _ _=>iJ) (fun s H fp pins=>(he s H fp pins).out) hs⟩
theorem compIf(js:List Nat)(N':List Str)(S:aC X scope cl x js N')(nd:N'.Nodup)(hi:Bx (PI X (.Name x px) iter wi))(hcc:∀ s H fp pins,Bx (PT (aB X scope cl N' s H fp pins) c tc))(he:∀ s H fp pins,Bx (PE (aB X scope cl N' s H fp pins) elt te))(hc:X.calm=true:=by rfl)
 (hs:∀ x,foldedSetIterable iter X.env x=pure x:=by intro _;rfl):Bx (PE X (.ListComp elt [⟨.Name x px,iter,[c],0⟩] scope pos) (j7 js wi tc te)):=
 ⟨pI S nd hc hi.out (fun s H fp pins=>pW (hcc s H fp pins).out) (fun s H fp pins=>(he s H fp pins).out) hs⟩
theorem compSet(i:Nat)(js:List Nat)(N':List Str){y:Str}{py spos:Pos}(S:aC X scope cl x js N')(nd:N'.Nodup)(hN:X.N.Nodup)(hi:Bx (PI X (.Name x px) iter wi))(he:∀ s H fp pins,Bx (PE (aB X scope cl N' s H fp pins) elt te))(hc:X.calm=true:=by rfl)
 (hy:X.N[i]?=some y:=by rfl) (hl:Loc X.env.scope y:=by first | exact Or.inl rfl | exact Or.inr rfl) (hf:X.fn y=true∨X.env.scope.names.lookup y=some .local:=by first | exact .inl rfl | exact .inr rfl)
 (hsw:swapsWith (.ListComp elt [⟨.Name x px,iter,[],0⟩] scope pos) (some (.Name y py)) spos.line X.env=pure true:=by rfl)
 (hs:∀ x,foldedSetIterable iter X.env x=pure x:=by intro _;rfl):Bx (PS X (.Assign [.Name y py] (.ListComp elt [⟨.Name x px,iter,[],0⟩] scope pos) spos) (dX i (j7 js wi (fun _ H Q=>Q true H) te))):=
 ⟨jn S nd hc hi.out (fun _ _ _ _=>iJ) (fun s H fp pins=>(he s H fp pins).out) hN hy hl hf hsw hs⟩
end
end B
section
variable{X:Cx}
end
theorem wComp{U:L2.St}{H:Hp}{Q:VK}{js:List Nat}{wi:TI}{tt:TT}{te:TE}(h:wi U H fun J H1=>∀ D,H1 D=none -> ∃ W:Nat->Nat->L2.St->Hp->Prop,(∃ m,W 0 m (seen U js) (upd H1 D (.lst []))) /\
 ∀ i m U' H',W i m U' H'->(J.stop i H'/\Q (.ref D) H')∨(J.go i H' /\ ∀ x H2,J.yld i H' x H2->tt (U'.set 0 (some x)) H2 fun ok H3=>
   if ok=true then te (U'.set 0 (some x)) H3 fun y H4=>∃ ys,H4 D=some (.lst ys)/\ys.length < sizeLine /\ ∃ m',m' < m/\W (i+1) m' (U'.set 0 (some x)) (upd H4 D (.lst (ys++[y])))
   else ∃ m',m' < m/\W (i+1) m' (U'.set 0 (some x)) H3)):j7 js wi tt te U H Q:=h
theorem ft{p:Int}{n:Nat}(h0:0<=p)(h1:p < 2 ^ n):∀ k:Nat,pt p (n+k)=pt p n*2 ^ k
 | 0=>by rw[Int.pow_zero,Int.mul_one];rfl
 | k+1=>by
   have e:p / 2 ^ (n+k)=0:=by
    refine Int.ediv_eq_zero_of_lt h0 (Int.lt_of_lt_of_le h1 (oZ.mpr (by omega)))
   show pt p (n+k)*2+p / 2 ^ (n+k) % 2=_;rw[ft h0 h1 k,e,Int.pow_succ,Int.mul_assoc];show _+0=_;rw[Int.add_zero]
def fE:Sp:=fun vs H Q _=>∃ p s:Int,vs=[.int p,.int s]/\(0 < s/\s < 1073741824) /\ ∀ t,H t=none->Q (.ref t) (L2.upd H t (.tup [.int (pt p 16),.int (pt p 16+65536 / s - 1)]))
theorem nX{p s:Int}{H:Hp}{Q:VK}{E:XK}(hs:0 < s/\s < 1073741824)(q:∀ t,H t=none->Q (.ref t) (L2.upd H t (.tup [.int (pt p 16),.int (pt p 16+65536 / s - 1)]))):fE ([.int p,.int s]++[]) H Q E:=⟨p,s,rfl,hs,q⟩
theorem pO(K:W.Frag){X:Cx}(h:X.K=K:=by rfl):IxR X (eY K):=by subst h;exact bJ
section
variable{X:Cx}{pins:List (Addr×Obj)}{U:L2.St}{H:Hp}{s:Shared}
end
def ku(v d:Addr):HO:=.ext fun h=>h.IsItemsView v d
def over(n:Nat)(H N:Hp):Hp:=fun b=>if b < n then H b else N b
theorem cI{n:Nat}{H N:Hp}{b:Addr}(h:b < n):over n H N b=H b:=if_pos h
theorem jy{n:Nat}{H N:Hp}{b:Addr}(h:n<=b):over n H N b=N b:=if_neg (Nat.not_lt.mpr h)
section
variable{X:Cx}{pins:List (Addr×Obj)}{U:L2.St}{H N:Hp}{s:Shared}{h':Heap}
theorem Inv.over{t':Nat}(I:Inv X pins U H s)(k:∀ b u,s.heap.get? b=some u->h'.get? b=some u)(new:∀ b o,s.heap.objs.size<=b->N b=some o->bq X.prog X.w (over s.heap.objs.size H N) h' b o) :
 Inv X pins U (over s.heap.objs.size H N) { s with heap:=h',toks:=t' }:=by
 have lt:∀ b o,H b=some o->b < s.heap.objs.size:=fun b o e=>I.hok.lt e;refine I.un ⟨fun b u q _ _ _=>k b u q,fun b u q _ _ _=>⟨u.slots,k b u q⟩,fun b u q n _=>?_,fun b u q _=>⟨u,k b u q⟩,fun b xs q=>?_,fun b u xs q=>?_,fun b ps q=>⟨#[],?_⟩⟩ fun b o e=>?_
 . rw[cI (Heap.lt_size q)];exact n
 . rw[cI (lt _ _ q)];exact q
 . rw[cI (lt _ _ q)];exact q
 . rw[cI (lt _ _ q),q];simp
 by_cases hb:b < s.heap.objs.size
 . rw[cI hb]at e
   exact(I.hok b o e).stay (fun c v _ q=>k c v q) (fun c q=>by rw[cI (lt _ _ q)];exact q) fun c xs q=>by rw[cI (lt _ _ q)];exact q
 have hb:=Nat.not_lt.mp hb;rw[jy hb]at e;exact new b o hb e
end
def nu(l:Addr)(as:List Addr)(kvs:List (Key×V)):Hp:=fun b=>if b=l then some (.lst (as.map V.ref))else((as.zip kvs).find? fun p=>decide (p.1=b)).map fun p=>.tup [kV p.2.1,p.2.2]
theorem sM{l:Addr}{as:List Addr}{kvs:List (Key×V)}(nd:as.Nodup):∀{j:Nat}{a:Addr}{k:Key}{x:V},a≠l->as[j]?=some a->kvs[j]?=some (k,x)->nu l as kvs a=some (.tup [kV k,x]):=by
 intro j a k x hl h1 h2;unfold nu;rw[if_neg hl];have key:∀(as:List Addr) (kvs:List (Key×V)) (j:Nat),as.Nodup->as[j]?=some a->kvs[j]?=some (k,x)->((as.zip kvs).find? fun p=>decide (p.1=a))=some (a,(k,x)):=by
  intro as
  induction as with
  | nil=>intro kvs j _ h;simp at h
  | cons b as ih=>
    intro kvs j nd h1 h2;cases kvs with
    | nil=>simp at h2
    | cons p kvs=>
      cases j with
      | zero=>
        simp at h1 h2;subst h1;subst h2;simp
      | succ j=>
        simp at h1 h2;have hm:a∈as:=List.mem_of_getElem? h1;have hne:b≠a:=fun e=>(List.nodup_cons.mp nd).1 (e ▸ hm);rw[List.zip_cons_cons,List.find?_cons_of_neg (by simpa using hne)]
        exact ih kvs j (List.nodup_cons.mp nd).2 h1 h2
 rw[key as kvs j nd h1 h2]
 rfl
theorem rA{l:Addr}{as:List Addr}{kvs:List (Key×V)}{b:Addr}{o:HO}(hl:as.length=kvs.length)(h:nu l as kvs b=some o):(b=l/\o=.lst (as.map V.ref)) ∨ ∃(j:Nat) (k:Key) (x:V),as[j]?=some b/\kvs[j]?=some (k,x)/\o=.tup [kV k,x]:=by
 unfold nu at h;split at h
 . rename_i e
   exact .inl ⟨e,(Option.some.inj h).symm⟩
 obtain⟨p,hp,e⟩:=Option.map_eq_some_iff.mp h;have hm:=List.mem_of_find?_eq_some hp;have hb0:decide (p.1=b)=true:=List.find?_some (p:=fun p:Addr×(Key×V)=>decide (p.1=b)) hp;have hb:=of_decide_eq_true hb0;obtain⟨j,hj⟩:=List.mem_iff_getElem?.mp hm;rw[List.getElem?_zip_eq_some]at hj;exact .inr ⟨j,p.2.1,p.2.2,by rw[← hb];exact hj.1,hj.2,e.symm⟩
theorem pz:∀{kvs:List (Key×V)}{vs:List (Key×Value)}{j:Nat}{k:Key}{y:Value},KV kvs vs->vs[j]?=some (k,y) -> ∃ x,kvs[j]?=some (k,x)/\aJ x y
 | _,_,_,_,_,.nil,e=>by simp at e
 | _,_,0,_,_,.cons (a:=a) r _,e=>by
   simp at e;subst e;exact⟨a.2,by rw[List.getElem?_cons_zero];exact congrArg some (Prod.ext r.1 rfl),r.2⟩
 | _,_,j+1,_,_,.cons _ t,e=>by
   obtain⟨x,h1,h2⟩:=pz (j:=j) t (by simpa using e)
   exact⟨x,by simpa using h1,h2⟩
theorem yo{k:Key}{v:Value}(h:gI k v=true):aJ (kV k) v:=by
 rcases bi h with ⟨i,t,rfl,rfl⟩ | ⟨x,t,rfl,rfl⟩
 . exact⟨t,rfl⟩
 exact⟨t,rfl⟩
theorem lF:∀ as:List Addr,aH (as.map V.ref) (as.map Value.ref)
 | []=>.nil
 | _::as=>.cons rfl (lF as)
section
variable{X:Cx}
theorem iC:bR X (.type "list") (fun xs H Q=>∃ v d kvs,xs=[.ref v]/\H v=some (ku v d)/\H d=some (.dK kvs)/\X.calm=true /\ ∀(l:Addr) (as:List Addr) (H':Hp),ao H H'->H l=none->H' l=some (.lst (as.map V.ref))->as.length=kvs.length ->
 (∀(j:Nat) (a:Addr),as[j]?=some a->H a=none /\ ∃ k x,kvs[j]?=some (k,x)/\H' a=some (.tup [kV k,x]))->Q (.ref l) H'):=by
 intro pins s U H xs us Q I r h;obtain⟨v,d,kvs,rfl,hv,hd,hc,q⟩:=h;obtain⟨u,rfl,rx⟩:=cZ r;cases rx;obtain⟨pv,_,_⟩:=(show bq X.prog X.w H s.heap v (ku v d)from I.hok v _ hv);obtain⟨z,hsys,vs,rel,dd⟩:=fk I.hok (.inl hd);obtain⟨ep,hat⟩:=dd.dictAt;have lenKV:kvs.length=vs.length:=Paired.length rel;refine W.kdx_call (knd:=ba X.prog X.w) (I.ok.hd hc) pv hat (by omega) fun h' tk acc c as hk hS hl hG hacc=>?_
 have hl':as.length=kvs.length:=by omega
 have nd:as.Nodup:=hG.rise.imp fun h=>Nat.ne_of_lt h;have ab:∀ a∈as,s.heap.objs.size < a:=hG.above;have get:∀(j:Nat) (a:Addr),as[j]?=some a -> ∃ key k x y,kvs[j]?=some (k,x)/\gI k key=true/\aJ x y/\h'.get? a=some { cls:=.type "tuple",data:=.seq #[key,y] }:=fun j a e=>by
  obtain⟨key,k,y,e1,e2,e3⟩:=hG.pairs j a e;obtain⟨x,h1,h2⟩:=pz rel e1;exact⟨key,k,x,y,h1,e2,h2,e3⟩
 have I':=Inv.over (N:=nu s.heap.objs.size as kvs) (t':=tk) I hk fun b o hb e=>by
  rcases rA hl' e with ⟨rfl,rfl⟩ | ⟨j,k,x,e1,e2,rfl⟩
  . refine⟨by rw[List.length_map];omega,as.map Value.ref,c,lF as,?_⟩
    have ea:(as.map Value.ref).toArray=acc:=by rw[← hacc]
    rw[ea];exact hS
  obtain⟨key,k',x',y,g1,g2,g3,g4⟩:=get j b e1;rw[e2]at g1;cases g1;exact⟨by show(2:Nat)<=sizeLine;decide,[key,y],.cons (yo g2) (.cons g3 .nil),_,g4,rfl,_,rfl⟩
 have lt:∀ b o,H b=some o->b < s.heap.objs.size:=fun b o e=>I.hok.lt e;refine⟨.ref s.heap.objs.size,_,I',rfl,q s.heap.objs.size as _ (fun b o e=>by rw[cI (lt b o e)];exact e) (I.hok.fresh (Nat.le_refl _)) ?_ hl' fun j a e=>?_⟩
 . rw[jy (Nat.le_refl _)]
   exact if_pos rfl
 have ha:=ab a (List.mem_of_getElem? e);obtain⟨key,k,x,y,g1,_⟩:=get j a e;exact⟨I.hok.fresh (Nat.le_of_lt ha),k,x,g1,by rw[jy (Nat.le_of_lt ha)];exact sM nd (Nat.ne_of_gt ha) e g1⟩
end
section
variable{X:Cx}{o:Expr}{apos cpos:Pos}{td:TE}
def pf(td:TE):TE:=fun U H Q=>td U H fun x H1=>∃ a kvs,x=.ref a/\H1 a=some (.dK kvs) /\ ∀ v,H1 v=none->Q (.ref v) (upd H1 v (ku v a))
theorem uH(ho:PE X o td)(hbase:attributeBase o "items" X.env (eval o X.env)=eval o X.env:=by rfl)
 (hfew:((backTo cpos (starEach [] X.env)).all (fun x=>!x.1) && (backToKw cpos (keywordEach [] X.env)).all (fun x=>x.1.isSome) && decide (([]:List Expr).length+([]:List Keyword).length+(if([]:List Keyword).isEmpty then 0 else 1) < 30))=true:=by rfl)
 (hline:(apos.endLine == cpos.line)=true:=by rfl):PE X (.Call (.Attribute o "items" apos) [] [] cpos) (pf td):=by
 intro pins s U H Q I h;refine wpAny_Call_method hbase hfew hline PySem.F.plainAttrs_dict PySem.F.slot_dict_items PySem.F.type_dict_items (thn (ho pins s U H _ I h) fun u s1 zz=>?_);obtain⟨x,H1,I1,rx,a,kvs,ex,ha,q1⟩:=zz;subst ex;obtain rfl:u=Value.ref a:=rx;obtain⟨t1,t2,_⟩:=mf I1 (.inl ⟨kvs,.inl ha⟩);refine⟨t1,t2,?_⟩;obtain⟨z,hsys,vs,rel,dd⟩:=fk I1.hok (.inl ha);have e0:backTo cpos (starEach [] X.env)=[]:=rfl;rw[e0];refine Calls.callWith_builtin rfl (PySem.evalArgs_none ?_);have lay:s1.heap.objs.size<=s1.heap.objs.size:=Nat.le_refl _;refine call_meetsIn PySem.F.slot_dict_items t1 PySem.F.entry_dict_items (PySem.F.args_dict_items_1 _) (meets_dict_items (ba X.prog X.w) a hsys) ⟨⟨vs,dd⟩,?_⟩;refine⟨.ref s1.heap.objs.size,upd H1 s1.heap.objs.size (ku s1.heap.objs.size a),I1.laid (t':=s1.toks) (fun b u e=>Heap.get?_push_of_some _ e) lay ?_,rfl,q1 _ (I1.hok.fresh lay)⟩;refine⟨⟨_,Heap.get?_push_size _ rfl,rfl,rfl⟩,⟨_,Heap.get?_push_size _ rfl⟩,fun h1 h2 ⟨o1,e1,c1,d1⟩ k=>⟨o1,k o1 e1,c1,d1⟩⟩
namespace B
theorem items(ho:Bx (PE X o td))(hbase:attributeBase o "items" X.env (eval o X.env)=eval o X.env:=by rfl)
 (hfew:((backTo cpos (starEach [] X.env)).all (fun x=>!x.1) && (backToKw cpos (keywordEach [] X.env)).all (fun x=>x.1.isSome) && decide (([]:List Expr).length+([]:List Keyword).length+(if([]:List Keyword).isEmpty then 0 else 1) < 30))=true:=by rfl)
 (hline:(apos.endLine == cpos.line)=true:=by rfl):Bx (PE X (.Call (.Attribute o "items" apos) [] [] cpos) (pf td)):=⟨uH ho.out hbase hfew hline⟩
end B
end
structure Mt(P:Program)(w:World)(K:W.Frag)(mg:Str->Option Value)(base:Heap)(C:Addr)(m:Str)(k:Nat)(ps:List Str)(sp:Sp):Prop where
 ex:∃(f:Addr) (fd:FuncData),eO P w K mg base CX0 k f fd ps sp/\vt K C m f/\bW K fd ps []
structure Mkr(P:Program)(w:World)(K:W.Frag)(mg:Str->Option Value)(base:Heap)(C:Addr)(x:Str)(k:Nat)(ps:List Str)(sp:Sp):Prop where
 ex:∃(f:Addr) (fd:FuncData),eO P w K mg base CX0 k f fd ps sp/\Mk K C f/\mg x=some (.ref C)/\bW K fd ps []
namespace B
section
variable{X:Cx}{x m f:Str}{p pos apos cpos tpos pos':Pos}{e o i value:Expr}{es:List Expr}{t:TA}{ta te ti tv td ty tx:TE}{k:Nat}{ps:List Str}{sp:Sp}{C:Addr}
theorem never{st:Stmt}:Bx (PS X st tT):=⟨tm⟩
theorem gref{a:Addr}(h:X.mg x=some (.ref a))(hg:Gl X x:=by rfl)(hd:(x == ("__debug__":Str))=false:=by decide):Bx (PE X (.Name x pos) (tC (.ref a))):=⟨lK hg h rfl hd⟩
theorem fld(he:Bx (PE X e ta))(hb:attributeBase e f X.env (eval e X.env)=eval e X.env:=by rfl):Bx (PE X (.Attribute e f pos) (vK X.K ta f)):=⟨sO he.out hb⟩
theorem sfld(ha:Bx (PE X o ta))(hv:Bx (PE X value tv))(hs:swapsWith value (some (.Attribute o f pos')) pos.line X.env=pure false:=by rfl):Bx (PS X (.Assign [.Attribute o f pos'] value pos) (xo X.K ta tv f)):=⟨Aq ha.out hv.out hs⟩
theorem faug{op:Operator}{rd:V->V->Hp->VK->Prop}(hop:wg X op rd)(ha:Bx (PE X o ta))(hv:Bx (PE X value tv)):Bx (PS X (.AugAssign (.Attribute o f tpos) op value pos) (mz X.K ta tv rd f)):=⟨rS ha.out hv.out hop⟩
theorem dnew:Bx (PE X (.Dict [] [] pos) uV):=⟨vH⟩
theorem dput(hu:X.A.units+1 < cLine)(ho:Bx (PE X o td))(hi:Bx (PE X i ty))(hv:Bx (PE X value tv))(hs:swapsWith value (some (.Subscript o i pos')) pos.line X.env=pure false:=by rfl):Bx (PS X (.Assign [.Subscript o i pos'] value pos) (sX td ty tv)):=⟨wx hu ho.out hi.out hv.out hs⟩
theorem m1{m:Str}(base:attributeBase o m X.env (eval o X.env)=eval o X.env:=by rfl)(h:aW e=true:=by rfl)(line:(apos.endLine == cpos.line)=true:=by rfl):M1 X o m apos e cpos:=by
 have t:backTo cpos (starEach [e] X.env)=[(false,eval e X.env)]:=by rw[ca h];rfl
 exact⟨base,by rw[t];rfl,line,t⟩
theorem m2{m:Str}{g:Expr}(base:attributeBase o m X.env (eval o X.env)=eval o X.env:=by rfl)(h:aW e=true:=by rfl)(h':aW g=true:=by rfl)(line:(apos.endLine == cpos.line)=true:=by rfl):M2 X o m apos e g cpos:=by
 have t:backTo cpos (starEach [e,g] X.env)=[(false,eval e X.env),(false,eval g X.env)]:=by rw[ca h,ca h'];rfl
 exact⟨base,by rw[t];rfl,line,t⟩
theorem dget1(hu:X.A.units+1 < cLine)(ho:Bx (PE X o td))(he:Bx (PE X e ty))(m:M1 X o "get" apos e cpos:=by exact m1):Bx (PE X (.Call (.Attribute o "get" apos) [e] [] cpos) (ph td ty)):=⟨uW hu ho.out he.out m⟩
theorem dpop2{g:Expr}(ho:Bx (PE X o td))(he:Bx (PE X e ty))(hf:Bx (PE X g tx))(m:M2 X o "pop" apos e g cpos:=by exact m2):Bx (PE X (.Call (.Attribute o "pop" apos) [e,g] [] cpos) (oz td ty tx)):=⟨vo ho.out he.out hf.out m⟩
theorem meth(he:Bx (PE X o ta))(c:Cls X.K C)(M:Mt X.prog X.w X.K X.mg X.base C m k ps sp)(hr:bp k X.A)(ha:Bx (PA X (e::es) t))(h1:aW e=true:=by rfl)(h2:es.all aW=true:=by rfl)
 {pl:Sem Bool} (ht':eval (.Call (.Attribute o m apos) (e::es) [] pos) X.env=(do
  let ov ← eval o X.env
  standAt apos.atName
  let(f,first) ← holding [ov] (getMethod ov m pl)
  callWith pos f first (backTo pos (starEach (e::es) X.env)) (backToKw pos (keywordEach [] X.env))):=by rfl) :
 Bx (PE X (.Call (.Attribute o m apos) (e::es) [] pos) (iq C m sp [] E0 ta t)):=by
 obtain⟨f,fd,G,hm,b⟩:=M.ex;exact⟨vO he.out c hm G hr b .nil m7 ha.out (ca h1) (c8 h2) ht'⟩
theorem make(M:Mkr X.prog X.w X.K X.mg X.base C x k ps sp)(hr:bp (k+1) X.A)(ha:Bx (PA X (e::es) t))(hg:Gl X x:=by rfl)(hdb:(x == ("__debug__":Str))=false:=by decide)(h1:aW e=true:=by rfl)(h2:es.all aW=true:=by rfl) :
 Bx (PE X (.Call (.Name x p) (e::es) [] pos) (nN C sp [] E0 t)):=by
 obtain⟨f,fd,G,M,hm,b⟩:=M.ex;exact⟨wN M G hr hg hm b .nil m7 ha.out hdb (ca h1) (c8 h2)⟩
end
end B
theorem b_list:bootBuiltins "list"=some (.type "list"):=by decide +kernel
theorem b_sum:bootBuiltins "sum"=some (.builtin "sum"):=by decide +kernel
theorem tF{X:Cx}:bR X (.builtin "sum") (fun xs H Q=>∃ l ns,xs=[.ref l]/\SqL X.K H l (List.map V.int ns)/\X.calm=true/\Q (.int (List.sum ns)) H):=by
 intro pins s U H xs us Q I r h;obtain⟨l,ns,rfl,hl,hc,q⟩:=h;obtain⟨u,rfl,rx⟩:=cZ r;cases rx;obtain⟨its,rv,pl,_⟩:=I.list hl;have hi:IntsAre its ns:=jm rv;obtain⟨ys,e⟩:=hi.allInts.items;have hL:s.heap.IsList l (intItems ys):=by rw[← e];exact pl.isList
 refine sum_intListG (I.ok.hd hc) hL fun h' tk t' hk=>?_;have es:preSum (numAt ys) ys.size=ns.sum:=by
  rw[← hi.numsOf,show its=its.toArray.toList from rfl,e,nums_intItems,preSum_eq,List.take_of_length_le (by simp)]
 exact⟨.int ns.sum,H,I.kept (t':=tk) hk,⟨t',by rw[es]⟩,q⟩
namespace B
theorem meth0{X:Cx}{m:Str}{apos pos:Pos}{o:Expr}{ta:TE}{k:Nat}{ps:List Str}{sp:Sp}{C:Addr}(he:Bx (PE X o ta))(c:Cls X.K C)(M:Mt X.prog X.w X.K X.mg X.base C m k ps sp)(hr:bp k X.A){pl:Sem Bool}
 (ht':eval (.Call (.Attribute o m apos) [] [] pos) X.env=(do
  let ov ← eval o X.env
  standAt apos.atName
  let(f,first) ← holding [ov] (getMethod ov m pl)
  callWith pos f first (backTo pos (starEach [] X.env)) (backToKw pos (keywordEach [] X.env))):=by rfl) :
 Bx (PE X (.Call (.Attribute o m apos) [] [] pos) (iq C m sp [] E0 ta fS)):=by
 obtain⟨f,fd,G,hm,b⟩:=M.ex;exact⟨sJ he.out c hm G hr b .nil m7 ht'⟩
end B
structure Dm(K:W.Frag)(C:Addr)(m qual:Str)(st:Stmt)(ps:List Str):Prop where
 ex:∃(f:Addr) (fd:FuncData),Fun K m qual st f fd/\vt K C m f/\bW K fd ps []
theorem Dm.mt{P:Program}{w:World}{K:W.Frag}{mg:Str->Option Value}{base:Heap}{C:Addr}{m qual:Str}{st:Stmt}{N ps:List Str}{k:Nat}{sp:Sp}(d:Dm K C m qual st ps)(S:am N ps (ae st))(len:∀ vs H Q E,sp vs H Q E->vs.length=ps.length)
 (hb:∀(f:Addr) (cdv:Value) (A:Around) (outer:List Env) (s:Shared) (H:Hp) (vs:List V) (Q:VK) (E:XK),bp k (A.deeper (envOfC qual (ae st) s.heap.objs.size f cdv))->sp vs H Q E ->
  ∃ t,Bx (PSs (f_ CX0 P w K mg base N qual (ae st) f cdv A outer s H E).nox (bv st) t)/\t { nx:=fun _ H'=>Q .non H',rt:=Q } (cg N vs) H):Mt P w K mg base C m (k+1) ps sp:=by
 obtain⟨f,fd,F,hm,hb'⟩:=d.ex;exact⟨f,fd,F.ok S len (fun cdv A outer s H vs Q E hr h=>let⟨t,h1,h2⟩:=hb f cdv A outer s H vs Q E hr h;⟨t,h1.out,h2⟩),hm,hb'⟩
structure Dk(K:W.Frag)(mg:Str->Option Value)(C:Addr)(x qual:Str)(st:Stmt)(ps:List Str):Prop where
 ex:∃(f:Addr) (fd:FuncData),Fun K "__init__" qual st f fd/\Mk K C f/\mg x=some (.ref C)/\bW K fd ps []
theorem Dk.mk'{P:Program}{w:World}{K:W.Frag}{mg:Str->Option Value}{base:Heap}{C:Addr}{x qual:Str}{st:Stmt}{N ps:List Str}{k:Nat}{sp:Sp}(d:Dk K mg C x qual st ps)(S:am N ps (ae st))(len:∀ vs H Q E,sp vs H Q E->vs.length=ps.length)
 (hb:∀(f:Addr) (cdv:Value) (A:Around) (outer:List Env) (s:Shared) (H:Hp) (vs:List V) (Q:VK) (E:XK),bp k (A.deeper (envOfC qual (ae st) s.heap.objs.size f cdv))->sp vs H Q E ->
  ∃ t,Bx (PSs (f_ CX0 P w K mg base N qual (ae st) f cdv A outer s H E).nox (bv st) t)/\t { nx:=fun _ H'=>Q .non H',rt:=Q } (cg N vs) H):Mkr P w K mg base C x (k+1) ps sp:=by
 obtain⟨f,fd,F,hm,hg,hb'⟩:=d.ex;exact⟨f,fd,F.ok S len (fun cdv A outer s H vs Q E hr h=>let⟨t,h1,h2⟩:=hb f cdv A outer s H vs Q E hr h;⟨t,h1.out,h2⟩),hm,hg,hb'⟩
abbrev av:=List (Int×Int)
def kvs(r:av):List (Key×V):=r.map fun p=>((Sum.inl p.1:Key),V.int p.2)
def ax(r:av)(k:Int):Option Int:=(r.find? fun p=>decide (p.1=k)).map (·.2)
def dO(r:av)(k v:Int):av:=if(ax r k).isSome=true then r.map (fun p=>if p.1=k then(p.1,v)else p)else r++[(k,v)]
def cr(r:av)(k:Int):av:=r.filter fun p=>decide (p.1≠k)
def oV:Option Int->V
 | none=>.non
 | some i=>.int i
abbrev ROk(r:av):Prop:=(r.map (·.1)).Nodup
theorem cx{p:Int×Int}{r:av}{k:Int}(e:p.1=k):ax (p::r) k=some p.2:=by simp[ax,List.find?_cons,e]
theorem cq{p:Int×Int}{r:av}{k:Int}(e:¬ p.1=k):ax (p::r) k=ax r k:=by simp[ax,List.find?_cons,e]
theorem ni{a b:Int}:((Sum.inl a:Key)=Sum.inl b) ↔ a=b:=⟨Sum.inl.inj,congrArg _⟩
theorem bC(k:Int):∀ r:av,bO (kvs r) (Sum.inl k:Key)=(ax r k).map V.int
 | []=>rfl
 | p::r=>by
   show bO (((Sum.inl p.1:Key),V.int p.2)::kvs r) (Sum.inl k:Key)=_;by_cases e:p.1=k
   . rw[cx e,bP (ni.mpr e)];rfl
   rw[cq e,bQ (fun z=>e (ni.mp z)),bC k r]
theorem xc(r:av)(k:Int):((kvs r).any fun kv=>decide (kv.1=(Sum.inl k:Key)))=(ax r k).isSome:=by
 rw[eQ,bC];cases ax r k <;> rfl
theorem gH(r:av)(k v:Int):cP (kvs r) (Sum.inl k:Key) (V.int v)=kvs (dO r k v):=by
 unfold cP dO;rw[xc];split
 . unfold kvs
   rw[List.map_map,List.map_map];refine List.map_congr_left fun p _=>?_;show(if(Sum.inl p.1:Key)=Sum.inl k then _ else _)=_;by_cases e:p.1=k
   . rw[if_pos (ni.mpr e)]
     show _=((Sum.inl (if p.1=k then(p.1,v)else p).1:Key),V.int (if p.1=k then(p.1,v)else p).2);rw[if_pos e]
   rw[if_neg (fun z=>e (ni.mp z))];show _=((Sum.inl (if p.1=k then(p.1,v)else p).1:Key),V.int (if p.1=k then(p.1,v)else p).2);rw[if_neg e]
 unfold kvs;rw[List.map_append]
 rfl
theorem fH(k:Int):∀ r:av,cW (kvs r) (Sum.inl k:Key)=kvs (cr r k)
 | []=>rfl
 | p::r=>by
   show cW (((Sum.inl p.1:Key),V.int p.2)::kvs r) (Sum.inl k:Key)=_;unfold cr;rw[List.filter_cons];by_cases e:p.1=k
   . rw[rj (ni.mpr e),if_neg (by simp[e]),fH k r];rfl
   rw[qX (fun z=>e (ni.mp z)),if_pos (by simp[e]),fH k r];rfl
theorem dB(r:av):(kvs r).length=r.length:=List.length_map ..
theorem bh(k:Int):∀{r:av},ax r k=none ↔ ¬ k∈r.map (·.1)
 | []=>by simp[ax]
 | p::r=>by
   rw[List.map_cons,List.mem_cons];by_cases e:p.1=k
   . rw[cx e];simp[e]
   rw[cq e,bh k]
   constructor
   . intro h z
     rcases z with z | z
     . exact e z.symm
     exact h z
   intro h z;exact h (.inr z)
theorem lT{r:av}{k v:Int}(h:(ax r k).isSome=true):(dO r k v).map (·.1)=r.map (·.1):=by
 unfold dO;rw[if_pos h,List.map_map];refine List.map_congr_left fun p _=>?_;show(if p.1=k then(p.1,v)else p).1=p.1;split <;> rfl
theorem gJ{r:av}{k v:Int}(h:ax r k=none):dO r k v=r++[(k,v)]:=by
 unfold dO;rw[h]
 rfl
theorem lN{r:av}{k v:Int}(h:ROk r):ROk (dO r k v):=by
 cases e:ax r k with
 | some x=>rw[ROk,lT (by rw[e];rfl)];exact h
 | none=>
   rw[ROk,gJ e,List.map_append];exact ml h ((bh k).mp e)
theorem nY{r:av}{k v:Int}:(dO r k v).length=r.length+(if ax r k=none then 1 else 0):=by
 cases e:ax r k with
 | some x=>
   unfold dO;rw[e];simp
 | none=>rw[gJ e];simp
theorem mF{r:av}{k:Int}(h:ROk r):ROk (cr r k):=by
 have:(cr r k).map (·.1)=(r.map (·.1)).filter fun a=>decide (a≠k):=by
  unfold cr;rw[List.filter_map]
  rfl
 rw[ROk,this];exact List.Pairwise.filter _ h
theorem iI:∀{r:av}{k:Int},¬ k∈r.map (·.1)->cr r k=r
 | [],_,_=>rfl
 | p::r,k,h=>by
   rw[List.map_cons,List.mem_cons]at h;unfold cr;rw[List.filter_cons,if_pos (by simp only[decide_eq_true_eq];exact fun z=>h (.inl z.symm))]
   exact congrArg _ (iI fun z=>h (.inr z))
theorem jf:∀{r:av}{k:Int},ROk r->(cr r k).length+(if ax r k=none then 0 else 1)=r.length
 | [],_,_=>rfl
 | p::r,k,h=>by
   obtain⟨h1,h2⟩:=List.nodup_cons.mp (show(p.1::r.map (·.1)).Nodup from h);by_cases e:p.1=k
   . have e2:cr (p::r) k=cr r k:=by
      unfold cr;rw[List.filter_cons,if_neg (by simp[e])]
     rw[e2,iI (by rw[← e];exact h1),cx e,if_neg (by simp)]
     rfl
   have e2:cr (p::r) k=p::cr r k:=by
    unfold cr;rw[List.filter_cons,if_pos (by simp[e])]
   have ih:=jf (k:=k) h2;rw[e2,cq e,List.length_cons,List.length_cons];omega
abbrev aj:=List av
def plc(f m:Int)(n:Nat)(k:Int):Nat:=((k*f+m) % 65536 % (n:Int)).toNat
theorem mi{f m:Int}{n:Nat}{k:Int}(h:0 < n):((plc f m n k:Nat):Int)=(k*f+m) % 65536 % (n:Int):=by
 unfold plc;rw[Int.toNat_of_nonneg (Int.emod_nonneg _ (by omega))]
theorem cy{f m:Int}{n:Nat}{k:Int}(h:0 < n):plc f m n k < n:=by
 have e:=mi (f:=f) (m:=m) (k:=k) h;have:=Int.emod_lt_of_pos ((k*f+m) % 65536) (show(0:Int) < n by omega)
 omega
def tot(R:aj):Nat:=(R.map List.length).sum
def dn(f m:Int)(R:aj)(k:Int):av:=R.getD (plc f m R.length k) []
def au(f m:Int)(R:aj)(k:Int):Option Int:=ax (dn f m R k) k
def b_(f m:Int)(R:aj)(k v:Int):aj:=R.set (plc f m R.length k) (dO (dn f m R k) k v)
def cU(f m:Int)(R:aj)(k:Int):aj:=R.set (plc f m R.length k) (cr (dn f m R k) k)
theorem bu{R:aj}{i:Nat}(h:i < R.length):R[i]?=some (R.getD i []):=by
 rw[List.getD_eq_getElem?_getD,List.getElem?_eq_getElem h]
 rfl
theorem fz:∀(R:aj) (i:Nat) (r:av),i < R.length->tot (R.set i r)+(R.getD i []).length=tot R+r.length
 | [],i,r,h=>absurd h (Nat.not_lt_zero _)
 | a::R,0,r,_=>by
   show r.length+(R.map List.length).sum+a.length=a.length+(R.map List.length).sum+r.length;omega
 | a::R,i+1,r,h=>by
   have ih:=fz R i r (Nat.lt_of_succ_lt_succ h);have e:(a::R).getD (i+1) []=R.getD i []:=by simp
   rw[e];show a.length+tot (R.set i r)+_=a.length+tot R+r.length;omega
theorem ck:∀(R:aj) (i:Nat),(R.getD i []).length<=tot R
 | [],i=>by simp
 | a::R,0=>by
   show a.length<=a.length+(R.map List.length).sum;omega
 | a::R,i+1=>by
   have ih:=ck R i;have e:(a::R).getD (i+1) []=R.getD i []:=by simp
   rw[e];show _<=a.length+tot R;omega
theorem mq(n:Nat):tot (List.replicate n [])=0:=by
 unfold tot;rw[List.map_replicate];show(List.replicate n 0).sum=0;simp
theorem bH{f m:Int}{R:aj}{k v:Int}:(b_ f m R k v).length=R.length:=List.length_set ..
theorem cM{f m:Int}{R:aj}{k:Int}:(cU f m R k).length=R.length:=List.length_set ..
theorem dS{f m:Int}{R:aj}{k v:Int}(h:0 < R.length):tot (b_ f m R k v)=tot R+(if au f m R k=none then 1 else 0):=by
 have:=fz R _ (dO (dn f m R k) k v) (cy (f:=f) (m:=m) (k:=k) h);rw[nY]at this;unfold b_ au;unfold dn at *;omega
theorem gR{f m:Int}{R:aj}{k:Int}(h:0 < R.length)(ok:∀ r∈R,ROk r):tot (cU f m R k)+(if au f m R k=none then 0 else 1)=tot R:=by
 have lt:=cy (f:=f) (m:=m) (k:=k) h;have:=fz R _ (cr (dn f m R k) k) lt;have e:=jf (r:=dn f m R k) (k:=k) (ok _ (List.mem_of_getElem? (bu lt)));unfold cU au;unfold dn at *;omega
theorem oW{R:aj}{i:Nat}{r:av}(ok:∀ r∈R,ROk r)(h:ROk r):∀ q∈R.set i r,ROk q:=fun q hq=>by
 rcases List.mem_or_eq_of_mem_set hq with z | z
 . exact ok q z
 rw[z];exact h
def sfl(t L:Addr)(z:Int):List (Str×V):=[("mixer",.ref t),("rows",.ref L),("held",.int z)]
theorem Bl:¬ (("mixer":Str)="rows"):=by decide +kernel
theorem zf:¬ (("mixer":Str)="held"):=by decide +kernel
theorem yn:¬ (("rows":Str)="held"):=by decide +kernel
theorem jp(t L:Addr)(z:Int):aX "held" (.int z) (aX "rows" (.ref L) (aX "mixer" (.ref t) []))=sfl t L z:=by
 show aX "held" (.int z) (if("mixer":Str)="rows" then _ else _)=_;rw[if_neg Bl];show(if("mixer":Str)="held" then _ else _)=_;rw[if_neg zf];show _::(if("rows":Str)="held" then _ else _)=_;rw[if_neg yn]
 rfl
theorem qE(t L:Addr)(z:Int):(sfl t L z).lookup ("mixer":Str)=some (.ref t):=by rw[← jp,bo,if_neg zf,bo,if_neg Bl,bo,if_pos rfl]
theorem dQ(t L:Addr)(z:Int):(sfl t L z).lookup ("rows":Str)=some (.ref L):=by rw[← jp,bo,if_neg yn,bo,if_pos rfl]
theorem gO(t L:Addr)(z:Int):(sfl t L z).lookup ("held":Str)=some (.int z):=by rw[← jp,bo,if_pos rfl]
theorem l6(t L:Addr)(z y:Int):aX "held" (.int y) (sfl t L z)=sfl t L y:=by
 show(if("mixer":Str)="held" then _ else _)=_;rw[if_neg zf];show _::(if("rows":Str)="held" then _ else _)=_;rw[if_neg yn];show _::_::(if("held":Str)="held" then _ else _)=_;rw[if_pos rfl]
 rfl
structure NoS(x:Str):Prop where
 n1:¬ x="mixer"
 n2:¬ x="rows"
 n3:¬ x="held"
theorem yq(t L:Addr)(z:Int){x:Str}(h:NoS x):(sfl t L z).lookup x=none:=by
 rw[← jp,bo,if_neg h.n3,bo,if_neg h.n2,bo,if_neg h.n1]
 rfl
structure ShX(C:Addr)(H:Hp)(p:Addr)(f m:Int)(R:aj)(t L:Addr)(ds:List Addr):Prop where
 ob:∃ dx,H p=some (.ins C dx (sfl t L (tot R)))
 mx:H t=some (.tup [.int f,.int m])
 bm:0<=f/\f<=65535
 rw:H L=some (.lst (ds.map V.ref))
 len:ds.length=R.length
 nd:ds.Nodup
 at_:∀(i:Nat) (d:Addr) (r:av),ds[i]?=some d->R[i]?=some r->H d=some (.dK (kvs r))
 ok:∀ r∈R,ROk r
 pos:0 < R.length
 top:R.length<=8192
def Sh(C:Addr)(H:Hp)(p:Addr)(f m:Int)(R:aj)(F:Addr->Prop):Prop:=∃ t L ds,ShX C H p f m R t L ds /\ ∀ b,F b ↔ (b=p∨b=L∨b∈ds)
def Fr(F:Addr->Prop)(H H':Hp):Prop:=∀ b o,¬ F b->H b=some o->H' b=some o
theorem Fr.refl(F:Addr->Prop)(H:Hp):Fr F H H:=fun _ _ _ h=>h
theorem Fr.trans{F:Addr->Prop}{H H1 H2:Hp}(a:Fr F H H1)(b:Fr F H1 H2):Fr F H H2:=fun c o n h=>b c o n (a c o n h)
theorem Sh.live{C:Addr}{H:Hp}{p:Addr}{f m:Int}{R:aj}{F:Addr->Prop}(S:Sh C H p f m R F){b:Addr}(h:F b):∃ o,H b=some o /\ ∀ xs,o ≠ .tup xs:=by
 obtain⟨t,L,ds,S,hF⟩:=S;rcases(hF b).mp h with rfl | rfl | h
 . obtain⟨dx,e⟩:=S.ob
   exact⟨_,e,fun xs z=>by cases z⟩
 . exact⟨_,S.rw,fun xs z=>by cases z⟩
 obtain⟨i,e⟩:=List.mem_iff_getElem?.mp h;have hi:i < R.length:=by
  rw[← S.len];exact(List.getElem?_eq_some_iff.mp e).1
 exact⟨_,S.at_ i b _ e (List.getElem?_eq_getElem hi),fun xs z=>by cases z⟩
theorem Sh.fresh{C:Addr}{H:Hp}{p:Addr}{f m:Int}{R:aj}{F:Addr->Prop}(S:Sh C H p f m R F){b:Addr}(h:H b=none):¬ F b:=fun z=>by
 obtain⟨o,e,_⟩:=S.live z;rw[h]at e;cases e
theorem Sh.notup{C:Addr}{H:Hp}{p:Addr}{f m:Int}{R:aj}{F:Addr->Prop}(S:Sh C H p f m R F){b:Addr}{xs:List V}(h:H b=some (.tup xs)):¬ F b:=fun z=>by
 obtain⟨o,e,n⟩:=S.live z;rw[h]at e;cases e;exact n _ rfl
theorem Sh.keep{C:Addr}{H H':Hp}{p:Addr}{f m:Int}{R:aj}{F G:Addr->Prop}(S:Sh C H p f m R F)(k:Fr G H H')(d:∀ b,F b -> ¬ G b)(dt:∀ b xs,H b=some (.tup xs) -> ¬ G b):Sh C H' p f m R F:=by
 obtain⟨t,L,ds,S,hF⟩:=S;have hp:¬ G p:=d p ((hF p).mpr (.inl rfl));have hL:¬ G L:=d L ((hF L).mpr (.inr (.inl rfl)));refine⟨t,L,ds,⟨?_,k _ _ (dt _ _ S.mx) S.mx,S.bm,k _ _ hL S.rw,S.len,S.nd,fun i x r e1 e2=>k _ _ (d x ((hF x).mpr (.inr (.inr (List.mem_of_getElem? e1))))) (S.at_ i x r e1 e2),S.ok,S.pos,S.top⟩,hF⟩;obtain⟨dx,e⟩:=S.ob;exact⟨dx,k _ _ hp e⟩
theorem Sh.same{C:Addr}{H H':Hp}{p:Addr}{f m:Int}{R:aj}{F:Addr->Prop}(S:Sh C H p f m R F)(k:ao H H'):Sh C H' p f m R F:=
 S.keep (G:=fun _=>False) (fun b o _ e=>k b o e) (fun _ _ z=>z) fun _ _ _ z=>z
theorem Sh.pos{C:Addr}{H:Hp}{p:Addr}{f m:Int}{R:aj}{F:Addr->Prop}(S:Sh C H p f m R F):0 < R.length:=by
 obtain⟨t,L,ds,S,hF⟩:=S;exact S.pos
theorem Sh.top{C:Addr}{H:Hp}{p:Addr}{f m:Int}{R:aj}{F:Addr->Prop}(S:Sh C H p f m R F):R.length<=8192:=by
 obtain⟨t,L,ds,S,hF⟩:=S;exact S.top
def PrV(H:Hp)(v:V)(p:Int×Int):Prop:=∃ a,v=.ref a/\H a=some (.tup [.int p.1,.int p.2])
abbrev Prs(H:Hp)(xs:List V)(r:av):Prop:=Paired (PrV H) xs r
theorem PrV.keep{H H':Hp}{v:V}{p:Int×Int}(h:PrV H v p)(k:∀ a xs,H a=some (.tup xs)->H' a=some (.tup xs)):PrV H' v p:=by
 obtain⟨a,e,h⟩:=h;exact⟨a,e,k a _ h⟩
theorem Prs.keep{H H':Hp}{xs:List V}{r:av}(h:Prs H xs r)(k:∀ a xs,H a=some (.tup xs)->H' a=some (.tup xs)):Prs H' xs r:=Paired.mapP h fun _ _ z=>z.keep k
def dP(C:Addr):Sp:=fun vs H Q _=>∃(p:Addr) (k f m:Int) (R:aj) (F:Addr->Prop),vs=[.ref p,.int k]/\Sh C H p f m R F/\Q (.int (plc f m R.length k)) H
def gK(C:Addr):Sp:=fun vs H Q _=>∃(p:Addr) (k f m:Int) (R:aj) (t L:Addr) (ds:List Addr),vs=[.ref p,.int k]/\ShX C H p f m R t L ds /\ ∀ d,ds[plc f m R.length k]?=some d->Q (.ref d) H
def jt(C:Addr):Sp:=fun vs H Q _=>∃(p:Addr) (k v f m:Int) (R:aj) (F:Addr->Prop),vs=[.ref p,.int k,.int v]/\Sh C H p f m R F/\tot R<=100000 /\ ∀ H',Sh C H' p f m (b_ f m R k v) F->Fr F H H'->Q (oV (au f m R k)) H'
def ou(C:Addr):Sp:=fun vs H Q _=>∃(p:Addr) (k f m:Int) (R:aj) (F:Addr->Prop),vs=[.ref p,.int k]/\Sh C H p f m R F /\ ∀ H',Sh C H' p f m (cU f m R k) F->Fr F H H'->Q (oV (au f m R k)) H'
def iN(C:Addr):Sp:=fun vs H Q _=>∃(p:Addr) (k f m:Int) (R:aj) (F:Addr->Prop),vs=[.ref p,.int k]/\Sh C H p f m R F/\Q (oV (au f m R k)) H
def iK(C:Addr):Sp:=fun vs H Q _=>∃(p:Addr) (f m:Int) (R:aj) (F:Addr->Prop),vs=[.ref p]/\Sh C H p f m R F/\Q (.int (tot R)) H
def dy(C:Addr):Sp:=fun vs H Q _=>∃(p:Addr) (f m:Int) (R:aj) (F:Addr->Prop),vs=[.ref p]/\Sh C H p f m R F/\Q (.int R.length) H
def ng(C:Addr):Sp:=fun vs H Q _=>∃(p:Addr) (i f m:Int) (R:aj) (F:Addr->Prop),vs=[.ref p,.int i]/\Sh C H p f m R F/\0<=i/\i < R.length/\Q .non H
def mD(C:Addr):Sp:=fun vs H Q _=>∃(p:Addr) (i:Nat) (f m:Int) (R:aj) (F:Addr->Prop),vs=[.ref p,.int i]/\Sh C H p f m R F/\i < R.length /\ ∀ l xs H',ao H H'->H l=none->H' l=some (.lst xs)->Prs H' xs (R.getD i [])->Q (.ref l) H'
def jd(C:Addr):Sp:=fun vs H Q _=>∃(p:Addr) (i:Nat) (f m:Int) (R:aj) (F:Addr->Prop),vs=[.ref p,.int i]/\Sh C H p f m R F/\i < R.length /\
 ∀ l xs H' F',Fr F H H'->H l=none -> ¬ F' l->H' l=some (.lst xs)->Prs H' xs (R.getD i [])->Sh C H' p f m (R.set i []) F'->(∀ b,F' b->F b∨H b=none)->(∀ b,H' b=none->H b=none)->Q (.ref l) H'
def ay(n:Nat):Prop:=n∈[4,8,16,32,64,128,256,512,1024,2048,4096]
def iH(C:Addr):Sp:=fun vs H Q _=>∃(x t dx:Addr) (n:Nat) (f m:Int),vs=[.ref x,.int n,.ref t]/\H x=some (.ins C dx [])/\H t=some (.tup [.int f,.int m])/\(0<=f/\f<=65535)/\ay n /\
 ∀ H' F,Sh C H' x f m (List.replicate n []) F->(∀ b,F b->b=x∨H b=none)->(∀ b o,b≠x->H b=some o->H' b=some o)->Q .non H'
section
variable{D:fJ}{U:L2.St}{H:Hp}{Q:VK}{v:V}{K:W.Frag}{C:Addr}{E:XK}
theorem wFld{ta:TE}{f:Str}(h:ta U H fun x H1=>∃ a C dx fs v,x=.ref a/\H1 a=some (.ins C dx fs)/\Cls K C/\bz K C f/\fs.lookup f=some v/\Q v H1):vK K ta f U H Q:=h
theorem wSFld{ta tv:TE}{f:Str}(h:tv U H fun y H1=>ta U H1 fun x H2=>∃ a C dx fs,x=.ref a/\H2 a=some (.ins C dx fs)/\Cls K C/\bz K C f/\fs.length < 1000/\D.nx U (upd H2 a (.ins C dx (aX f y fs)))):xo K ta tv f D U H:=h
theorem wMeth{m:Str}{sp:Sp}{ta:TE}{t:TA}(h:ta U H fun x H1=>∃ a dx fs,x=.ref a/\H1 a=some (.ins C dx fs)/\fs.lookup m=none/\t U H1 fun vs H2=>sp (x::(vs++[])) H2 Q E):iq C m sp [] E ta t U H Q:=h
theorem wMake{sp:Sp}{t:TA}(h:t U H fun vs H1=>∀ x dx,H1 x=none->H1 dx=none->dx≠x->sp (.ref x::(vs++[])) (upd (upd H1 dx (.own x)) x (.ins C dx [])) (fun v H2=>v=.non/\Q (.ref x) H2) E):nN C sp [] E t U H Q:=h
theorem wS{p:Addr}{f m:Int}{R:aj}{F:Addr->Prop}{x:Str}{P:Prop}(S:Sh C H p f m R F)(hn:NoS x)(h:P):∃ a dx fs,V.ref p=.ref a/\H a=some (.ins C dx fs)/\fs.lookup x=none/\P:=by
 obtain⟨t,L,ds,S,_⟩:=S;obtain⟨dx,e⟩:=S.ob;exact⟨p,dx,_,rfl,e,yq _ _ _ hn,h⟩
theorem iM{p:Addr}{k f m:Int}{R:aj}{F:Addr->Prop}(S:Sh C H p f m R F)(q:Q (.int (plc f m R.length k)) H):dP C (V.ref p::([V.int k]++[])) H Q E:=⟨p,k,f,m,R,F,rfl,S,q⟩
theorem qr{p:Addr}{k y f m:Int}{R:aj}{F:Addr->Prop}(S:Sh C H p f m R F)(hl:tot R<=100000)(q:∀ H',Sh C H' p f m (b_ f m R k y) F->Fr F H H'->Q (oV (au f m R k)) H'):jt C (V.ref p::([V.int k,V.int y]++[])) H Q E:=⟨p,k,y,f,m,R,F,rfl,S,hl,q⟩
theorem xK{p:Addr}{k f m:Int}{R:aj}{F:Addr->Prop}(S:Sh C H p f m R F)(q:∀ H',Sh C H' p f m (cU f m R k) F->Fr F H H'->Q (oV (au f m R k)) H'):ou C (V.ref p::([V.int k]++[])) H Q E:=⟨p,k,f,m,R,F,rfl,S,q⟩
theorem pB{p:Addr}{k f m:Int}{R:aj}{F:Addr->Prop}(S:Sh C H p f m R F)(q:Q (oV (au f m R k)) H):iN C (V.ref p::([V.int k]++[])) H Q E:=⟨p,k,f,m,R,F,rfl,S,q⟩
theorem o5{p:Addr}{f m:Int}{R:aj}{F:Addr->Prop}(S:Sh C H p f m R F)(q:Q (.int (tot R)) H):iK C (V.ref p::([]++[])) H Q E:=⟨p,f,m,R,F,rfl,S,q⟩
theorem de{p:Addr}{f m:Int}{R:aj}{F:Addr->Prop}(S:Sh C H p f m R F)(q:Q (.int R.length) H):dy C (V.ref p::([]++[])) H Q E:=⟨p,f,m,R,F,rfl,S,q⟩
theorem uI{p:Addr}{i:Int}{f m:Int}{R:aj}{F:Addr->Prop}(S:Sh C H p f m R F)(i0:0<=i)(hi:i < R.length)(q:∀ l xs H',ao H H'->H l=none->H' l=some (.lst xs)->Prs H' xs (R.getD i.toNat [])->Q (.ref l) H'):mD C (V.ref p::([V.int i]++[])) H Q E:=
 ⟨p,i.toNat,f,m,R,F,by rw[Int.toNat_of_nonneg i0];rfl,S,by omega,q⟩
theorem vN{p:Addr}{i:Int}{f m:Int}{R:aj}{F:Addr->Prop}(S:Sh C H p f m R F)(i0:0<=i)(hi:i < R.length)
 (q:∀ l xs H' F',Fr F H H'->H l=none -> ¬ F' l->H' l=some (.lst xs)->Prs H' xs (R.getD i.toNat [])->Sh C H' p f m (R.set i.toNat []) F'->(∀ b,F' b->F b∨H b=none)->(∀ b,H' b=none->H b=none)->Q (.ref l) H'):jd C (V.ref p::([V.int i]++[])) H Q E:=
 ⟨p,i.toNat,f,m,R,F,by rw[Int.toNat_of_nonneg i0];rfl,S,by omega,q⟩
theorem tW{Qf:Addr->Hp->Prop}{t:Addr}{n:Int}{f m:Int}(ht:H t=some (.tup [.int f,.int m]))(bf:0<=f/\f<=65535)(n0:0<=n)(hn:ay n.toNat)
 (q:∀ p H' F,Sh C H' p f m (List.replicate n.toNat []) F->(∀ b,F b->H b=none)->ao H H'->Qf p H') :
 ∀ x dx,H x=none->H dx=none->dx≠x->iH C (V.ref x::([V.int n,V.ref t]++[])) (upd (upd H dx (.own x)) x (.ins C dx [])) (fun v H2=>v=.non/\Qf x H2) E:=fun x dx hx hdx hne=>by
 have s0:ao H (upd (upd H dx (.own x)) x (.ins C dx [])):=(ao.new hdx).trans (ao.new (by rw[af hne.symm];exact hx))
 refine⟨x,t,dx,n.toNat,f,m,by rw[Int.toNat_of_nonneg n0];rfl,aa,s0 _ _ ht,bf,hn,fun H' F S g k=>⟨rfl,q x H' F S (fun b hb=>?_) fun b o e=>k b o (ah e hx) (s0 b o e)⟩⟩
 rcases g b hb with rfl | z
 . exact hx
 exact s0.free z
end
def CN(Pv:Nat->L2.St->Hp->Prop)(n i:Nat)(D:Addr)(U:L2.St)(y:V)(H4:Hp):Prop:=∃ ys,H4 D=some (.lst ys)/\ys.length < sizeLine /\ ∃ m',m' < n - i/\(m'=n - (i+1)/\i+1<=n/\Pv (i+1) U (upd H4 D (.lst (ys++[y]))))
def CO(Pv:Nat->L2.St->Hp->Prop)(n i:Nat)(U:L2.St)(H3:Hp):Prop:=∃ m',m' < n - i/\(m'=n - (i+1)/\i+1<=n/\Pv (i+1) U H3)
theorem CN.mk{Pv:Nat->L2.St->Hp->Prop}{n i:Nat}{D:Addr}{U:L2.St}{y:V}{H4:Hp}{ys:List V}(hi:i < n)(hD:H4 D=some (.lst ys))(hl:ys.length < sizeLine)(h:Pv (i+1) U (upd H4 D (.lst (ys++[y])))):CN Pv n i D U y H4:=
 ⟨ys,hD,hl,n - (i+1),by omega,rfl,hi,h⟩
theorem CO.mk{Pv:Nat->L2.St->Hp->Prop}{n i:Nat}{U:L2.St}{H3:Hp}(hi:i < n)(h:Pv (i+1) U H3):CO Pv n i U H3:=⟨n - (i+1),by omega,rfl,hi,h⟩
section
variable{K:W.Frag}{n:Nat}{lo:Int}{a D:Addr}{xs:List V}{U0:L2.St}{H1:Hp}{Q:VK}{tt:TT}{te:TE}
theorem pD{Qf:Hp->Prop}(Pv:Nat->L2.St->Hp->Prop)(h0:Pv 0 U0 H1)
 (step:∀ i U' H',i < n->Pv i U' H'->tt (U'.set 0 (some (.int (lo+i)))) H' fun ok H3=>if ok=true then te (U'.set 0 (some (.int (lo+i)))) H3 (fun y H4=>CN Pv n i D (U'.set 0 (some (.int (lo+i)))) y H4)else CO Pv n i (U'.set 0 (some (.int (lo+i)))) H3)
 (fin:∀ U H,Pv n U H->Qf H) :
 ∃ W:Nat->Nat->L2.St->Hp->Prop,(∃ m,W 0 m U0 H1) /\ ∀ i m U' H',W i m U' H'->((Itr lo n).stop i H'/\Qf H')∨((Itr lo n).go i H' /\ ∀ x H2,(Itr lo n).yld i H' x H2->tt (U'.set 0 (some x)) H2 fun ok H3=>
   if ok=true then te (U'.set 0 (some x)) H3 fun y H4=>∃ ys,H4 D=some (.lst ys)/\ys.length < sizeLine /\ ∃ m',m' < m/\W (i+1) m' (U'.set 0 (some x)) (upd H4 D (.lst (ys++[y])))
   else ∃ m',m' < m/\W (i+1) m' (U'.set 0 (some x)) H3):=by
 refine⟨fun i m U H=>m=n - i/\i<=n/\Pv i U H,⟨n,by omega,Nat.zero_le _,h0⟩,?_⟩
 rintro i m U' H' ⟨rfl,hi,p⟩;by_cases hlt:i < n
 . refine .inr ⟨hlt,fun x H2 y=>?_⟩
   obtain⟨rfl,rfl⟩:=y;exact step i U' _ hlt p
 have e:i=n:=by omega
 subst e;exact .inl ⟨Nat.le_refl _,fin _ _ p⟩
theorem oi{Qf:Hp->Prop}(Pv:Nat->L2.St->Hp->Prop)(h0:Pv 0 U0 H1)
 (step:∀ i U' H',i < n->Pv i U' H'->te (U'.set 0 (some (.int (lo+i)))) H' (fun y H4=>CN Pv n i D (U'.set 0 (some (.int (lo+i)))) y H4))
 (fin:∀ U H,Pv n U H->Qf H) :
 ∃ W:Nat->Nat->L2.St->Hp->Prop,(∃ m,W 0 m U0 H1) /\ ∀ i m U' H',W i m U' H'->((Itr lo n).stop i H'/\Qf H')∨((Itr lo n).go i H' /\ ∀ x H2,(Itr lo n).yld i H' x H2 ->
   if true=true then te (U'.set 0 (some x)) H2 fun y H4=>∃ ys,H4 D=some (.lst ys)/\ys.length < sizeLine /\ ∃ m',m' < m/\W (i+1) m' (U'.set 0 (some x)) (upd H4 D (.lst (ys++[y])))
   else ∃ m',m' < m/\W (i+1) m' (U'.set 0 (some x)) H2):=
 pD (tt:=fun _ H Q=>Q true H) Pv h0 (fun i U' H' hi p=>bL (step i U' H' hi p)) fin
theorem fG{Qf:Hp->Prop}(Pv:Nat->L2.St->Hp->Prop)(h0:Pv 0 U0 H1)(hl:∀ i U H,i<=xs.length->Pv i U H->SqL K H a xs)
 (step:∀ i x U' H',xs[i]?=some x->i < xs.length->Pv i U' H'->tt (U'.set 0 (some x)) H' fun ok H3=>if ok=true then te (U'.set 0 (some x)) H3 (fun y H4=>CN Pv xs.length i D (U'.set 0 (some x)) y H4)else CO Pv xs.length i (U'.set 0 (some x)) H3)
 (fin:∀ U H,Pv xs.length U H->Qf H) :
 ∃ W:Nat->Nat->L2.St->Hp->Prop,(∃ m,W 0 m U0 H1) /\ ∀ i m U' H',W i m U' H'->((Itl K a).stop i H'/\Qf H')∨((Itl K a).go i H' /\ ∀ x H2,(Itl K a).yld i H' x H2->tt (U'.set 0 (some x)) H2 fun ok H3=>
   if ok=true then te (U'.set 0 (some x)) H3 fun y H4=>∃ ys,H4 D=some (.lst ys)/\ys.length < sizeLine /\ ∃ m',m' < m/\W (i+1) m' (U'.set 0 (some x)) (upd H4 D (.lst (ys++[y])))
   else ∃ m',m' < m/\W (i+1) m' (U'.set 0 (some x)) H3):=by
 refine⟨fun i m U H=>m=xs.length - i/\i<=xs.length/\Pv i U H,⟨xs.length,by omega,Nat.zero_le _,h0⟩,?_⟩
 rintro i m U' H' ⟨rfl,hi,p⟩;have q:=hl i U' H' hi p;by_cases hlt:i < xs.length
 . refine .inr ⟨⟨xs,xs[i],q,by simp[hlt]⟩,fun x H2 y=>?_⟩
   obtain⟨rfl,y⟩:=y;exact step i x U' _ (y xs q) hlt p
 have e:i=xs.length:=by omega
 subst e;exact .inl ⟨⟨xs,q,Nat.le_refl _⟩,fin _ _ p⟩
theorem dj{Qf:Hp->Prop}(Pv:Nat->L2.St->Hp->Prop)(h0:Pv 0 U0 H1)(hl:∀ i U H,i<=xs.length->Pv i U H->SqL K H a xs)
 (step:∀ i x U' H',xs[i]?=some x->i < xs.length->Pv i U' H'->te (U'.set 0 (some x)) H' (fun y H4=>CN Pv xs.length i D (U'.set 0 (some x)) y H4))
 (fin:∀ U H,Pv xs.length U H->Qf H) :
 ∃ W:Nat->Nat->L2.St->Hp->Prop,(∃ m,W 0 m U0 H1) /\ ∀ i m U' H',W i m U' H'->((Itl K a).stop i H'/\Qf H')∨((Itl K a).go i H' /\ ∀ x H2,(Itl K a).yld i H' x H2 ->
   if true=true then te (U'.set 0 (some x)) H2 fun y H4=>∃ ys,H4 D=some (.lst ys)/\ys.length < sizeLine /\ ∃ m',m' < m/\W (i+1) m' (U'.set 0 (some x)) (upd H4 D (.lst (ys++[y])))
   else ∃ m',m' < m/\W (i+1) m' (U'.set 0 (some x)) H2):=
 fG (tt:=fun _ H Q=>Q true H) Pv h0 hl (fun i x U' H' e hi p=>bL (step i x U' H' e hi p)) fin
end
section
variable{C:Addr}{H H':Hp}{p:Addr}{f m:Int}{R:aj}{t L:Addr}{ds:List Addr}
theorem ShX.place{C:Addr}{H:Hp}(X:ShX C H p f m R t L ds)(k:Int):∃ d,ds[plc f m R.length k]?=some d/\H d=some (.dK (kvs (dn f m R k))):=by
 have lt:=cy (f:=f) (m:=m) (k:=k) X.pos;have lt':plc f m R.length k < ds.length:=by rw[X.len];exact lt
 exact⟨ds[plc f m R.length k],List.getElem?_eq_getElem lt',X.at_ _ _ _ (List.getElem?_eq_getElem lt') (bu lt)⟩
theorem ShX.set{i:Nat}{d:Addr}{r:av}(X:ShX C H p f m R t L ds)(hd:ds[i]?=some d)(ok:ROk r)(h1:∃ dx,H' p=some (.ins C dx (sfl t L (tot (R.set i r)))))(h2:H' d=some (.dK (kvs r)))
 (h3:∀ b o,b≠p->b≠d->H b=some o->H' b=some o):ShX C H' p f m (R.set i r) t L ds:=by
 have hi:i < R.length:=by rw[← X.len];exact(List.getElem?_eq_some_iff.mp hd).1
 have hd0:=X.at_ i d _ hd (bu hi);obtain⟨dx,hp⟩:=X.ob;refine⟨h1,h3 _ _ (aR X.mx hp (by intro z;cases z)) (aR X.mx hd0 (by intro z;cases z)) X.mx,X.bm,h3 _ _ (aR X.rw hp (by intro z;cases z)) (aR X.rw hd0 (by intro z;cases z)) X.rw,by rw[List.length_set];exact X.len,X.nd,fun j x q e1 e2=>?_,oW X.ok ok,by rw[List.length_set];exact X.pos,by rw[List.length_set];exact X.top⟩
 by_cases e:i=j
 . subst e
   rw[hd]at e1;cases e1;rw[List.getElem?_set_self hi]at e2;cases e2;exact h2
 rw[List.getElem?_set_ne e]at e2;have hx:=X.at_ j x q e1 e2;refine h3 _ _ (aR hx hp (by intro z;cases z)) (fun z=>e ?_) hx
 subst z;have l1:=(List.getElem?_eq_some_iff.mp hd).1;exact(List.getElem?_inj l1 X.nd).mp (hd.trans e1.symm)
theorem ShX.emptied{i:Nat}{d':Addr}(X:ShX C H p f m R t L ds)(hi:i < R.length)(hn:H d'=none)(h1:∃ dx,H' p=some (.ins C dx (sfl t L (tot (R.set i [])))))(h2:H' d'=some (.dK []))
 (h4:H' L=some (.lst ((ds.set i d').map V.ref))) (h3:∀ b o,b≠p->b≠L->H b=some o->H' b=some o):ShX C H' p f m (R.set i []) t L (ds.set i d'):=by
 obtain⟨dx,hp⟩:=X.ob;have live:∀ x∈ds,∃ r,H x=some (.dK (kvs r)):=fun x hx=>by
  obtain⟨j,e⟩:=List.mem_iff_getElem?.mp hx;have hj:j < R.length:=by rw[← X.len];exact(List.getElem?_eq_some_iff.mp e).1
  exact⟨_,X.at_ j x _ e (bu hj)⟩
 have nin:d'∉ds:=fun z=>by
  obtain⟨r,e⟩:=live _ z;rw[hn]at e;cases e
 refine⟨h1,h3 _ _ (aR X.mx hp (by intro z;cases z)) (aR X.mx X.rw (by intro z;cases z)) X.mx,X.bm,h4,by rw[List.length_set,List.length_set];exact X.len,?_,fun j x q e1 e2=>?_,oW X.ok (by simp[ROk]),by rw[List.length_set];exact X.pos,by rw[List.length_set];exact X.top⟩
 . have key:∀(l:List Addr) (i:Nat),l.Nodup->d'∉l->(l.set i d').Nodup:=by
    intro l
    induction l with
    | nil=>intro i h _;simpa using h
    | cons a l ih=>
      intro i h hn;obtain⟨h1,h2⟩:=List.nodup_cons.mp h;cases i with
      | zero=>exact List.nodup_cons.mpr ⟨fun z=>hn (List.mem_cons_of_mem _ z),h2⟩
      | succ i=>
        refine List.nodup_cons.mpr ⟨fun z=>?_,ih i h2 fun z=>hn (List.mem_cons_of_mem _ z)⟩;rcases List.mem_or_eq_of_mem_set z with z | z
        . exact h1 z
        exact hn (z ▸ List.mem_cons_self ..)
   exact key ds i X.nd nin
 by_cases e:i=j
 . subst e
   rw[List.getElem?_set_self (by rw[X.len];exact hi)]at e1
   cases e1;rw[List.getElem?_set_self hi]at e2;cases e2;exact h2
 rw[List.getElem?_set_ne e]at e1 e2;have hx:=X.at_ j x q e1 e2;exact h3 _ _ (aR hx hp (by intro z;cases z)) (aR hx X.rw (by intro z;cases z)) hx
end
theorem ul{H:Hp}:∀{as:List Addr}{r:av},as.length=r.length->(∀(j:Nat) (a:Addr),as[j]?=some a -> ∃ k x,(kvs r)[j]?=some (k,x)/\H a=some (.tup [kV k,x]))->Prs H (as.map V.ref) r
 | [],[],_,_=>.nil
 | a::as,p::r,hl,h=>by
   refine .cons ⟨a,rfl,?_⟩ (ul (Nat.succ.inj hl) fun j b e=>h (j+1) b e);obtain⟨k,x,e,z⟩:=h 0 a rfl;cases e;exact z
 | [],_::_,hl,_=>by cases hl
 | _::_,[],hl,_=>by cases hl
def dC:Sp:=fun vs H Q _=>∃ n:Int,vs=[.int n]/\Q (.bl true) H
def mN:Sp:=fun vs H Q _=>∃ n:Nat,vs=[.int n]/\ay n/\Q (.bl true) H
theorem wr{n:Nat}(h:ay n):inV (V.int n) [.int 4,.int 8,.int 16,.int 32,.int 64,.int 128,.int 256,.int 512,.int 1024,.int 2048,.int 4096]=true:=by
 unfold ay at h;simp only[List.mem_cons,List.not_mem_nil,or_false]at h;rcases h with rfl | rfl | rfl | rfl | rfl | rfl | rfl | rfl | rfl | rfl | rfl <;> decide
theorem ay.bounds{n:Nat}(h:ay n):4<=n/\n<=4096:=by
 unfold ay at h;simp only[List.mem_cons,List.not_mem_nil,or_false]at h;rcases h with rfl | rfl | rfl | rfl | rfl | rfl | rfl | rfl | rfl | rfl | rfl <;> decide
theorem p6{r:av}{k:Int}:(bO (kvs r) (Sum.inl k:Key)).getD V.non=oV (ax r k):=by
 rw[bC];cases ax r k <;> rfl
theorem wIf{U:L2.St}{H:Hp}{Q:VK}{t:TT}{ta tb:TE}(h:t U H fun c H1=>if c=true then ta U H1 Q else tb U H1 Q):tIf t ta tb U H Q:=h
end SW
namespace SW.B
open PySem PySem.Spec PyProof.Rows L2 SW
theorem cmpI{X:Cx}{a b:Expr}{ta tb:TE}{pos:Pos}{op:CmpOp}{r:R2}(ho:OpR X (compareOp op) r)(ha:Bx (PE X a ta))(hb:Bx (PE X b tb))(hm:behindInMarks op b=false:=by first | rfl | with_unfolding_all rfl):Bx (PE X (.Compare a [op] [b] pos) (tOp r ta tb)):=⟨pN ho ha.out hb.out hm⟩
theorem tcmpI{X:Cx}{a b:Expr}{ta tb:TE}{pos:Pos}{op:CmpOp}{r:R2}(ho:OpR X (compareOp op) r)(ha:Bx (PE X a ta))(hb:Bx (PE X b tb))(hm:behindInMarks op b=false:=by first | rfl | with_unfolding_all rfl):Bx (PT X (.Compare a [op] [b] pos) (kX (tOp r ta tb))):=⟨qk ho ha.out hb.out hm⟩
end SW.B
namespace SW
open PySem PySem.Spec PyProof.Rows L2
theorem cL(f:Str)(v:V):∀ fs:List (Str×V),(aX f v fs).length<=fs.length+1
 | []=>Nat.le_refl _
 | (k,x)::r=>by
   show(if k=f then(k,v)::r else(k,x)::aX f v r).length<=_;split
   . show r.length+1<=r.length+1+1;omega
   have:=cL f v r;show(aX f v r).length+1<=r.length+1+1;omega
end SW
namespace SW
open PySem PySem.Spec PyProof.Rows L2
section
variable{D:fJ}{U:L2.St}{H:Hp}{Q:VK}{K:W.Frag}
theorem wDGet1{td ty:TE}(h:td U H fun x H1=>∃ a,x=.ref a/\IsD H1 a/\ty U H1 fun y H2=>∃ o,cR H2 a y o/\Q (o.getD .non) H2):ph td ty U H Q:=h
theorem wDPop2{td ty tx:TE}(h:td U H fun x H1=>∃ a,x=.ref a/\IsD H1 a/\ty U H1 fun y H2=>tx U H2 fun z H3=>∃ kvs k,H3 a=some (.dK kvs)/\y=kV k/\(∀ v,bO kvs k=some v->Q v (upd H3 a (.dK (cW kvs k))))/\(bO kvs k=none->Q z H3)):oz td ty tx U H Q:=h
theorem wItems{td:TE}(h:td U H fun x H1=>∃ a kvs,x=.ref a/\H1 a=some (.dK kvs) /\ ∀ v,H1 v=none->Q (.ref v) (upd H1 v (ku v a))):pf td U H Q:=h
theorem wDPut{td ty tv:TE}(h:tv U H fun v H1=>td U H1 fun x H2=>ty U H2 fun y H3=>∃ a H4,x=.ref a/\ke H3 a y v H4/\D.nx U H4):sX td ty tv D U H:=h
theorem wFAug{ta tv:TE}{rd:V->V->Hp->VK->Prop}{f:Str}(h:ta U H fun x H1=>∃ a C dx fs v,x=.ref a/\H1 a=some (.ins C dx fs)/\Cls K C/\bz K C f/\fs.lookup f=some v /\
 tv U H1 fun y H2=>rd v y H2 fun z H3=>∃ dx' fs',H3 a=some (.ins C dx' fs')/\fs'.length < 1000/\D.nx U (upd H3 a (.ins C dx' (aX f z fs')))):mz K ta tv rd f D U H:=h
theorem wCompSet{i:Nat}{t:TE}(h:t U H fun v H1=>D.nx (U.set i (some v)) H1):dX i t D U H:=h
theorem wSl{r:V->Option Int->Option Int->Hp->VK->Prop}{te:TE}{tl th:TO}(h:te U H fun x H1=>tl U H1 fun l H2=>th U H2 fun u H3=>r x l u H3 Q):tSl r te tl th U H Q:=h
theorem wNoPart{Q:Option Int->Hp->Prop}(h:Q none H):mr U H Q:=h
theorem wPart{t:TE}{Q:Option Int->Hp->Prop}(h:t U H fun x H1=>∃ i,x=.int i/\Q (some i) H1):sD t U H Q:=h
end
section
variable{X:Cx}{pins:List (Addr×Obj)}{U:L2.St}{H:Hp}{s:Shared}{h':Heap}
end
section
variable{X:Cx}{elts:List Expr}{k:Nat}{tp:Pos}
end
namespace B
end B
section
variable{prog:Program}{w:World}{A:Around}{E:Value->Shared->Prop}{s:Shared}
set_option maxRecDepth 100000 in
end
section
variable{X:Cx}{o e:Expr}{to te:TE}{pos p2:Pos}{hi:Option Expr}{th:TO}
end
namespace B
end B
theorem Prs.len{H:Hp}{xs:List V}{r:av}(h:Prs H xs r):xs.length=r.length:=Paired.length h
theorem Prs.get{H:Hp}:∀{xs:List V}{r:av}{i:Nat}{p:Int×Int},Prs H xs r->r[i]?=some p -> ∃ a,xs[i]?=some (.ref a)/\H a=some (.tup [.int p.1,.int p.2])
 | _,_,_,_,.nil,h=>by simp at h
 | _,_,0,p,.cons (b:=b) ⟨a,e,h⟩ _,g=>by
   simp at g;subst g;exact⟨a,by rw[e];rfl,h⟩
 | _,_,i+1,p,.cons _ t,g=>by
   obtain⟨a,e,h⟩:=Prs.get (i:=i) t (by simpa using g)
   exact⟨a,by simpa using e,h⟩
namespace B
theorem fldK(K:W.Frag){X:Cx}{e:Expr}{ta:TE}{f:Str}{pos:Pos}(he:Bx (PE X e ta))(h:X.K=K:=by rfl)(hb:attributeBase e f X.env (eval e X.env)=eval e X.env:=by rfl):Bx (PE X (.Attribute e f pos) (vK K ta f)):=by subst h;exact⟨sO he.out hb⟩
end B
end SW
namespace SW
open PySem PySem.Spec PyProof.Rows L2
theorem b_range:bootBuiltins "range"=some (.type "range"):=by decide +kernel
theorem b_set:bootBuiltins "set"=some (.type "set"):=by decide +kernel
theorem b_min:bootBuiltins "min"=some (.builtin "min"):=by decide +kernel
theorem b_max:bootBuiltins "max"=some (.builtin "max"):=by decide +kernel
def cf(ns:List Int):Nat:=(firstMet (fun i=>ns.getD i 0) ns.length).length
def ic(i:Int)(n:Nat):List Int:=(List.range n).map fun(k:Nat)=>i+(k:Int)
theorem ut{i:Int}:∀{n:Nat}{acc:List Value},acc.length=n->(∀(j:Nat) v,acc[j]?=some v -> ∃ t,v=.int (i+j*1) t)->aH ((ic i n).map V.int) acc:=by
 intro n acc hl h;have key:∀(acc:List Value) (b:Nat),(∀(j:Nat) v,acc[j]?=some v -> ∃ t,v=.int (i+((b+j:Nat):Int)) t)->aH (((List.range' b acc.length).map fun(k:Nat)=>i+(k:Int)).map V.int) acc:=by
  intro acc
  induction acc with
  | nil=>intro b _;exact .nil
  | cons v acc ih=>
    intro b h;refine .cons ?_ (ih (b+1) fun j v e=>?_)
    . obtain⟨t,e⟩:=h 0 v rfl
      exact⟨t,e⟩
    obtain⟨t,e'⟩:=h (j+1) v (by simpa using e)
    exact⟨t,by rw[e',show b+(j+1)=b+1+j by omega]⟩
 have:=key acc 0 fun j v e=>by
  obtain⟨t,e'⟩:=h j v e;exact⟨t,by rw[e',Int.mul_one,Nat.zero_add]⟩
 rw[hl]at this;unfold ic;rw[List.range_eq_range'];exact this
section
variable{X:Cx}
theorem lX:bR X (.type "range") (fun xs H Q=>∃ i j,xs=[.int i,.int j] /\ ∀ p,H p=none->Q (.ref p) (upd H p (.rng i j))):=by
 intro pins s U H xs us Q I r h;obtain⟨i,j,rfl,q⟩:=h;obtain⟨u,w',rfl,⟨t,rfl⟩,⟨t',rfl⟩⟩:=pU r;refine call_range_2 ⟨.ref s.heap.objs.size,upd H s.heap.objs.size (.rng i j),I.laid (t':=s.toks+1) (fun b u e=>Heap.get?_push_of_some _ e) (Nat.le_refl _) ?_,rfl,q _ (I.hok.fresh (Nat.le_refl _))⟩;exact⟨t,t',s.toks,Heap.get?_push_size _ rfl⟩
theorem kg:bR X (.type "list") (fun xs H Q=>∃ r i j,xs=[.ref r]/\H r=some (.rng i j)/\(-(2 ^ 62)<=i/\i < 2 ^ 62 /\ -(2 ^ 62)<=j/\j < 2 ^ 62)/\i<=j/\j - i<=1000000/\X.calm=true /\ ∀ l,H l=none->Q (.ref l) (upd H l (.lst ((ic i (j - i).toNat).map V.int)))):=by
 intro pins s U H xs us Q I r h;obtain⟨a,i,j,rfl,ha,⟨h1,h2,h3,h4⟩,hij,hsz,hc,q⟩:=h;obtain⟨u,rfl,rx⟩:=cZ r;cases rx;obtain⟨t,u',v',g⟩:=(show bq X.prog X.w H s.heap a (.rng i j)from I.hok a _ ha);have hn:Builtin.Range.rangeSize i j 1=((j - i).toNat:Int):=by rw[rangeSize_one];split <;> omega
 refine call_list_range (n:=(j - i).toNat) (I.ok.hd hc) (show IsRange s.heap a i j 1 t u' v' from g) (small_one h1 h2 h3 h4) hn (by omega) fun h' tk acc c hk hS hacc=>?_
 have vs:aH ((ic i (j - i).toNat).map V.int) acc.toList:=ut (by rw[Array.length_toList];exact hacc.1) fun k v e=>hacc.2 k v (by simpa using e)
 have ll:((ic i (j - i).toNat).map V.int).length=(j - i).toNat:=by unfold ic;simp
 refine⟨.ref s.heap.objs.size,_,I.laid (t':=tk) hk (Nat.le_refl _) (show bq X.prog X.w _ h' _ (.lst ((ic i (j - i).toNat).map V.int))from⟨by rw[ll,sizeLine_eq];omega,acc.toList,c,vs,hS⟩),rfl,q _ (I.hok.fresh (Nat.le_refl _))⟩
theorem lJ:bR X (.type "set") (fun xs H Q=>∃ l ns,xs=[.ref l]/\SqL X.K H l (List.map V.int ns)/\List.length ns+1 < 4096/\X.calm=true /\ ∀ a S,H a=none->Q (.ref a) (upd H a (.set S (cf ns)))):=by
 intro pins s U H xs us Q I r h;obtain⟨l,ns,rfl,hl,hn,hc,q⟩:=h;obtain⟨u,rfl,rx⟩:=cZ r;cases rx;obtain⟨its,rv,pl,_⟩:=I.list hl;have hi:IntsAre its ns:=jm rv;have le:=rv.length;rw[List.length_map]at le;refine call_set_list (items:=its.toArray) (I.ok.hd hc) pl.isList hi (by rw[List.size_toArray,← le];exact hn) fun h' tk hS hk=>?_
 have e:(firstMet (fun i=>ns.getD i 0) its.toArray.size).length=cf ns:=by rw[List.size_toArray,← le];rfl
 rw[e]at hS;exact⟨.ref s.heap.objs.size,_,I.laid (t':=tk) (fun b u g=>hk b u (Heap.lt_size g) g) (Nat.le_refl _) (show bq X.prog X.w _ h' _ (.set _ _)from hS),rfl,q _ _ (I.hok.fresh (Nat.le_refl _))⟩
theorem kI:bR X (.builtin "len") (fun xs H Q=>∃ a S n,xs=[.ref a]/\H a=some (.set S n)/\Q (.int (n:Nat)) H):=by
 intro pins s U H xs us Q I r h;obtain⟨a,S,n,rfl,ha,q⟩:=h;obtain⟨u,rfl,rx⟩:=cZ r;cases rx;obtain⟨o,es,ep,t,ho,hex,hd,_,_,hb,hf,hn⟩:=(show bq X.prog X.w H s.heap a (.set S n)from I.hok a _ ha);have:(scanBound:Nat)=4096:=rfl;exact call_len_set ho hex hd hf (by omega) ⟨.int n,H,I.tok _,⟨_,by rw[hn]⟩,q⟩
end
end SW
namespace SW
open PySem PySem.Spec PyProof.Rows L2
structure MT where
 el:Option aj
 mv:Nat
 nw:aj
def aI(f m:Int)(N:aj)(r:av):aj:=r.foldl (fun N p=>b_ f m N p.1 p.2) N
def aN(f m:Int):aj->aj->Nat->Nat->aj×aj
 | E,N,_,0=>(E,N)
 | E,N,i,c+1=>aN f m (E.set i []) (aI f m N (E.getD i [])) (i+1) c
def du(f m:Int)(n:Nat):aj->Nat->Nat->List Int
 | _,_,0=>[]
 | E,i,c+1=>((E.getD i []).map fun p=>((plc f m n p.1:Nat):Int))++du f m n E (i+1) c
def due(pc:Nat)(M:MT):Nat:=match M.el with
 | none=>0
 | some E=>min (M.mv+pc) E.length - M.mv
def a_(f m:Int)(pc:Nat)(M:MT):MT:=match M.el with
 | none=>M
 | some E=>if M.mv+due pc M=E.length then⟨none,0,(aN f m E M.nw M.mv (due pc M)).2⟩else⟨some (aN f m E M.nw M.mv (due pc M)).1,M.mv+due pc M,(aN f m E M.nw M.mv (due pc M)).2⟩
def onE(f m:Int)(M:MT)(k:Int):Option Int:=match M.el with
 | none=>none
 | some E=>au f m E k
def aA(f m:Int)(M:MT)(k:Int):Option Int:=match onE f m M k with
 | some v=>some v
 | none=>au f m M.nw k
def putAt(f m:Int)(M:MT)(k v:Int):MT:=match M.el with
 | none=>{ M with nw:=b_ f m M.nw k v }
 | some E=>if au f m E k=none then { M with nw:=b_ f m M.nw k v } else { M with el:=some (b_ f m E k v) }
def bY(f m:Int)(M:MT)(k:Int):MT:=match M.el with
 | none=>{ M with nw:=cU f m M.nw k }
 | some E=>if au f m E k=none then { M with nw:=cU f m M.nw k } else { M with el:=some (cU f m E k) }
def cA(N:aj):Nat:=if N.length < tot N then min (N.length*2) 4096 else if tot N*8 < N.length then max (N.length / 2) 4 else N.length
def beg(M:MT):MT:=match M.el with
 | some _=>M
 | none=>if cA M.nw=M.nw.length then M else⟨some M.nw,M.mv,List.replicate (cA M.nw) []⟩
def tch(f m:Int)(pc:Nat)(M:MT)(k:Int):Nat:=due pc M+cf (((plc f m M.nw.length k:Nat):Int)::(match M.el with | none=>[] | some E=>du f m M.nw.length E M.mv (due pc M)))
 + (match(a_ f m pc M).el with | none=>0 | some E=>if(a_ f m pc M).mv<=plc f m E.length k then 1 else 0)
def cnt(M:MT):Nat:=(match M.el with | none=>0 | some E=>tot E)+tot M.nw
structure POk(f m:Int)(N:aj):Prop where
 at_:∀(i:Nat) r p,N[i]?=some r->p∈r->plc f m N.length p.1=i
 ok:∀ r∈N,ROk r
structure TOk(f m:Int)(M:MT):Prop where
 nw:POk f m M.nw
 sz:ay M.nw.length
 el:∀ E,M.el=some E->POk f m E/\ay E.length/\M.mv < E.length/\(∀ i r,i < M.mv->E[i]?=some r->r=[])/\(∀ k,au f m E k≠none->au f m M.nw k=none)
 no:M.el=none->M.mv=0
theorem bV{f m:Int}{N:aj}{k:Int}:au f m N k=ax (N.getD (plc f m N.length k) []) k:=rfl
theorem ff{R:aj}{i j:Nat}{r:av}(h:i < R.length):(R.set i r).getD j []=if i=j then r else R.getD j []:=by
 rw[List.getD_eq_getElem?_getD,List.getElem?_set];by_cases e:i=j
 . rw[if_pos e,if_pos e,if_pos h];rfl
 rw[if_neg e,if_neg e,List.getD_eq_getElem?_getD]
theorem ie{r:av}{k v j:Int}:ax (dO r k v) j=if j=k then some v else ax r j:=by
 have h:=tO (kvs r) (Sum.inl k:Key) (Sum.inl j) (V.int v);rw[gH,bC,bC]at h;by_cases e:j=k
 . rw[if_pos (ni.mpr e)]at h
   rw[if_pos e];cases q:ax (dO r k v) j with
   | none=>rw[q]at h;cases h
   | some z=>rw[q]at h;injection h with h;injection h with h;rw[h]
 rw[if_neg (fun z=>e (ni.mp z))]at h;rw[if_neg e];cases q:ax (dO r k v) j with
 | none=>rw[q]at h;cases q2:ax r j with
   | none=>rfl
   | some z=>rw[q2]at h;cases h
 | some z=>rw[q]at h;cases q2:ax r j with
   | none=>rw[q2]at h;cases h
   | some y=>rw[q2]at h;injection h with h;injection h with h;rw[h]
theorem fI{k j:Int}:∀{r:av},ax (cr r k) j=if j=k then none else ax r j
 | []=>by unfold cr;simp[ax]
 | p::r=>by
   have ih:=fI (k:=k) (j:=j) (r:=r);by_cases e:p.1=k
   . have e2:cr (p::r) k=cr r k:=by
      unfold cr;rw[List.filter_cons,if_neg (by simp[e])]
     rw[e2,ih];by_cases ej:j=k
     . rw[if_pos ej,if_pos ej]
     rw[if_neg ej,if_neg ej,cq (fun z=>ej (by rw[← z,e]))]
   have e2:cr (p::r) k=p::cr r k:=by
    unfold cr;rw[List.filter_cons,if_pos (by simp[e])]
   rw[e2];by_cases ep:p.1=j
   . rw[cx ep,cx ep,if_neg (fun z=>e (by rw[ep,z]))]
   rw[cq ep,cq ep,ih]
theorem cp{f m:Int}{N:aj}{k v j:Int}(h:0 < N.length):au f m (b_ f m N k v) j=if j=k then some v else au f m N j:=by
 unfold au dn;rw[bH];unfold b_ dn;rw[ff (cy h)];by_cases e:j=k
 . subst e
   rw[if_pos rfl,if_pos rfl,ie,if_pos rfl]
 rw[if_neg e];split
 . rename_i e2
   rw[ie,if_neg e,e2]
 rfl
theorem cY{f m:Int}{N:aj}{k j:Int}(h:0 < N.length):au f m (cU f m N k) j=if j=k then none else au f m N j:=by
 unfold au dn;rw[cM];unfold cU dn;rw[ff (cy h)];by_cases e:j=k
 . subst e
   rw[if_pos rfl,if_pos rfl,fI,if_pos rfl]
 rw[if_neg e];split
 . rename_i e2
   rw[fI,if_neg e,e2]
 rfl
theorem w_{r:av}{k v:Int}{p:Int×Int}(h:p∈dO r k v):p.1=k∨p∈r:=by
 cases e:ax r k with
 | none=>
   rw[gJ e]at h;rcases List.mem_append.mp h with h | h
   . exact .inr h
   exact .inl (by rw[List.mem_singleton.mp h])
 | some z=>
   unfold dO at h;rw[e,if_pos (show(some z).isSome=true from rfl)]at h;obtain⟨q,hq,rfl⟩:=List.mem_map.mp h;by_cases e2:q.1=k
   . rw[if_pos e2];exact .inl e2
   rw[if_neg e2];exact .inr hq
theorem POk.set{f m:Int}{N:aj}{i:Nat}{r:av}(P:POk f m N)(h:∀ p∈r,plc f m N.length p.1=i)(hr:ROk r):POk f m (N.set i r):=by
 refine⟨fun j q p e hp=>?_,oW P.ok hr⟩;rw[List.length_set];by_cases z:i=j
 . subst z
   have lt:i < (N.set i r).length:=(List.getElem?_eq_some_iff.mp e).1;rw[List.length_set]at lt;rw[List.getElem?_set_self lt]at e;cases e;exact h p hp
 rw[List.getElem?_set_ne z]at e;exact P.at_ j q p e hp
theorem POk.put{f m:Int}{N:aj}{k v:Int}(P:POk f m N)(h:0 < N.length):POk f m (b_ f m N k v):=
 P.set (fun p hp=>by
  rcases w_ hp with e | e
  . rw[e]
  exact P.at_ _ _ p (bu (cy h)) e) (lN (P.ok _ (List.mem_of_getElem? (bu (cy h)))))
theorem POk.cut{f m:Int}{N:aj}{k:Int}(P:POk f m N)(h:0 < N.length):POk f m (cU f m N k):=
 P.set (fun p hp=>P.at_ _ _ p (bu (cy h)) (List.mem_filter.mp hp).1) (mF (P.ok _ (List.mem_of_getElem? (bu (cy h)))))
theorem POk.empty{f m:Int}{N:aj}{i:Nat}(P:POk f m N):POk f m (N.set i []):=P.set (fun p hp=>(List.not_mem_nil hp).elim) List.nodup_nil
theorem POk.rep{f m:Int}{n:Nat}:POk f m (List.replicate n []):=
 ⟨fun i r p e hp=>by rw[List.eq_of_mem_replicate (List.mem_of_getElem? e)]at hp;exact(List.not_mem_nil hp).elim,fun r hr=>by rw[List.eq_of_mem_replicate hr];exact List.nodup_nil⟩
theorem dh{f m:Int}:∀{r:av}{N:aj},(aI f m N r).length=N.length
 | [],_=>rfl
 | p::r,N=>by
   show(aI f m (b_ f m N p.1 p.2) r).length=_;rw[dh,bH]
theorem jQ{f m:Int}:∀{r:av}{N:aj},POk f m N->0 < N.length->POk f m (aI f m N r)
 | [],_,P,_=>P
 | p::r,N,P,h=>jQ (r:=r) (P.put h) (by rw[bH];exact h)
theorem ed{f m:Int}{k:Int}:∀{r:av}{N:aj},ROk r->0 < N.length->au f m (aI f m N r) k=match ax r k with | some v=>some v | none=>au f m N k
 | [],_,_,_=>rfl
 | p::r,N,ok,h=>by
   obtain⟨h1,h2⟩:=List.nodup_cons.mp (show(p.1::r.map (·.1)).Nodup from ok);show au f m (aI f m (b_ f m N p.1 p.2) r) k=_;rw[ed h2 (by rw[bH];exact h),cp h]
   by_cases e:p.1=k
   . have:ax r k=none:=(bh k).mpr (by rw[← e];exact h1)
     rw[this,cx e,if_pos e.symm]
   rw[cq e,if_neg (fun z=>e z.symm)]
theorem jx{f m:Int}:∀{r:av}{N:aj},ROk r->0 < N.length->(∀ p∈r,au f m N p.1=none)->tot (aI f m N r)=tot N+r.length
 | [],_,_,_,_=>rfl
 | p::r,N,ok,h,hn=>by
   obtain⟨h1,h2⟩:=List.nodup_cons.mp (show(p.1::r.map (·.1)).Nodup from ok);show tot (aI f m (b_ f m N p.1 p.2) r)=_;rw[jx h2 (by rw[bH];exact h) (fun q hq=>?_),dS h,hn p (List.mem_cons_self ..),if_pos rfl,List.length_cons]
   . omega
   rw[cp h,if_neg (fun z=>h1 (List.mem_map.mpr ⟨q,hq,z⟩))];exact hn q (List.mem_cons_of_mem _ hq)
structure l8(f m:Int)(E N:aj)(i:Nat):Prop where
 e:POk f m E
 n:POk f m N
 e0:0 < E.length
 n0:0 < N.length
 dis:∀ k,au f m E k≠none->au f m N k=none
 bare:∀ j r,j < i->E[j]?=some r->r=[]
theorem rT{r:av}{k v:Int}(h:ax r k=some v):∃ p∈r,p.1=k:=by
 unfold ax at h;obtain⟨p,e,_⟩:=Option.map_eq_some_iff.mp h;exact⟨p,List.mem_of_find?_eq_some e,of_decide_eq_true (List.find?_some (p:=fun p:Int×Int=>decide (p.1=k)) e)⟩
theorem l8.row{f m:Int}{E N:aj}{i:Nat}(P:l8 f m E N i)(hi:i < E.length):ROk (E.getD i [])/\(∀ k,plc f m E.length k≠i->ax (E.getD i []) k=none) /\ ∀ p∈E.getD i [],au f m E p.1=ax (E.getD i []) p.1:=by
 have e:=bu hi;refine⟨P.e.ok _ (List.mem_of_getElem? e),fun k hk=>?_,fun p hp=>?_⟩
 . cases q:ax (E.getD i []) k with
   | none=>rfl
   | some v=>
     obtain⟨p,hp,ep⟩:=rT q;exact absurd (P.e.at_ i _ p e hp) (by rw[ep];exact hk)
 rw[bV,P.e.at_ i _ p e hp]
theorem l8.step{f m:Int}{E N:aj}{i:Nat}(P:l8 f m E N i)(hi:i < E.length):l8 f m (E.set i []) (aI f m N (E.getD i [])) (i+1) /\
 (∀ k,(match au f m (E.set i []) k with | some v=>some v | none=>au f m (aI f m N (E.getD i [])) k)=match au f m E k with | some v=>some v | none=>au f m N k)/\tot (E.set i [])+tot (aI f m N (E.getD i []))=tot E+tot N:=by
 obtain⟨ok,out,ins⟩:=P.row hi;have se:∀ k,au f m (E.set i []) k=if plc f m E.length k=i then none else au f m E k:=fun k=>by
  rw[bV,List.length_set,ff hi];by_cases e:plc f m E.length k=i
  . rw[if_pos e.symm,if_pos e];rfl
  rw[if_neg (fun z=>e z.symm),if_neg e];rfl
 have key:∀ k,plc f m E.length k=i->au f m E k=ax (E.getD i []) k:=fun k e=>by rw[bV,e]
 refine⟨⟨P.e.empty,jQ P.n P.n0,by rw[List.length_set];exact P.e0,by rw[dh];exact P.n0,fun k hk=>?_,fun j r hj e=>?_⟩,fun k=>?_,?_⟩
 . rw[se]at hk
   by_cases e:plc f m E.length k=i
   . rw[if_pos e]at hk;exact absurd rfl hk
   rw[if_neg e]at hk;rw[ed ok P.n0,out k e];exact P.dis k hk
 . by_cases z:i=j
   . subst z
     rw[List.getElem?_set_self hi]at e;cases e
     rfl
   rw[List.getElem?_set_ne z]at e;exact P.bare j r (by omega) e
 . rw[se,ed ok P.n0]
   by_cases e:plc f m E.length k=i
   . rw[if_pos e,key k e]
   rw[if_neg e,out k e]
 have h1:=fz E i [] hi;have h2:=jx (f:=f) (m:=m) (N:=N) ok P.n0 fun p hp=>P.dis _ (by
  rw[ins p hp];exact fun z=>(bh p.1).mp z (List.mem_map.mpr ⟨p,hp,rfl⟩))
 rw[h2];have:([]:av).length=0:=rfl;omega
theorem iX{f m:Int}:∀(c:Nat) {E N:aj}{i:Nat},l8 f m E N i->i+c<=E.length->l8 f m (aN f m E N i c).1 (aN f m E N i c).2 (i+c)/\(aN f m E N i c).1.length=E.length/\(aN f m E N i c).2.length=N.length /\
 (∀ k,(match au f m (aN f m E N i c).1 k with | some v=>some v | none=>au f m (aN f m E N i c).2 k)=match au f m E k with | some v=>some v | none=>au f m N k)/\tot (aN f m E N i c).1+tot (aN f m E N i c).2=tot E+tot N
 | 0,E,N,i,P,_=>⟨P,rfl,rfl,fun _=>rfl,rfl⟩
 | c+1,E,N,i,P,h=>by
   obtain⟨P1,l1,t1⟩:=P.step (show i < E.length by omega)
   obtain⟨P2,a2,b2,l2,t2⟩:=iX c P1 (by rw[List.length_set];omega)
   refine⟨?_,by show(aN f m (E.set i []) (aI f m N (E.getD i [])) (i+1) c).1.length=_;rw[a2,List.length_set],by show(aN f m (E.set i []) (aI f m N (E.getD i [])) (i+1) c).2.length=_;rw[b2,dh],fun k=>(l2 k).trans (l1 k),t2.trans t1⟩
   have e:i+(c+1)=i+1+c:=by omega
   rw[e];exact P2
theorem ee{f m:Int}{E:aj}(h0:0 < E.length)(h:∀ j r,j < E.length->E[j]?=some r->r=[])(k:Int):au f m E k=none:=by
 rw[bV];have lt:=cy (f:=f) (m:=m) (k:=k) h0;rw[h _ _ lt (bu lt)]
 rfl
theorem vv{E:aj}(h:∀ j r,j < E.length->E[j]?=some r->r=[]):tot E=0:=by
 have key:∀ E:aj,(∀ r∈E,r=[])->tot E=0:=by
  intro E
  induction E with
  | nil=>intro _;rfl
  | cons a E ih=>
    intro h;have:=ih fun r hr=>h r (List.mem_cons_of_mem _ hr);have e:=h a (List.mem_cons_self ..);subst e;show([]:av).length+tot E=0;rw[this]
    rfl
 refine key E fun r hr=>?_;obtain⟨i,e⟩:=List.mem_iff_getElem?.mp hr;exact h i r (List.getElem?_eq_some_iff.mp e).1 e
theorem ay.pos{n:Nat}(h:ay n):0 < n:=by have:=h.bounds;omega
theorem TOk.pair{f m:Int}{M:MT}{E:aj}(T:TOk f m M)(e:M.el=some E):l8 f m E M.nw M.mv:=by
 obtain⟨P,s,_,b,d⟩:=T.el E e;exact⟨P,T.nw,s.pos,T.sz.pos,d,b⟩
theorem gZ{pc:Nat}{M:MT}{E:aj}(e:M.el=some E)(h:M.mv < E.length):M.mv+due pc M<=E.length:=by
 unfold due;rw[e];show M.mv+(min (M.mv+pc) E.length - M.mv)<=E.length;omega
theorem eh{f m:Int}{pc:Nat}{M:MT}(T:TOk f m M):TOk f m (a_ f m pc M)/\(∀ k,aA f m (a_ f m pc M) k=aA f m M k)/\cnt (a_ f m pc M)=cnt M:=by
 cases e:M.el with
 | none=>
   have:a_ f m pc M=M:=by unfold a_;rw[e]
   rw[this];exact⟨T,fun _=>rfl,rfl⟩
 | some E=>
   obtain⟨P,s,hm,b,d⟩:=T.el E e;obtain⟨P2,l1,l2,lk,tt⟩:=iX (due pc M) (T.pair e) (gZ e hm);by_cases z:M.mv+due pc M=E.length
   . have eg:a_ f m pc M=⟨none,0,(aN f m E M.nw M.mv (due pc M)).2⟩:=by unfold a_;rw[e];exact if_pos z
     have bare:∀ j r,j < (aN f m E M.nw M.mv (due pc M)).1.length->(aN f m E M.nw M.mv (due pc M)).1[j]?=some r->r=[]:=fun j r hj=>P2.bare j r (by rw[l1]at hj;omega)
     rw[eg];refine⟨⟨P2.n,by show ay (aN f m E M.nw M.mv (due pc M)).2.length;rw[l2];exact T.sz,(fun E' h=>by cases h),fun _=>rfl⟩,fun k=>?_,?_⟩
     . have h1:=lk k
       rw[ee P2.e0 bare]at h1;refine Eq.trans (show au f m (aN f m E M.nw M.mv (due pc M)).2 k=_ from h1) ?_;unfold aA onE;rw[e]
     have h1:=vv bare;unfold cnt;rw[e];show 0+tot (aN f m E M.nw M.mv (due pc M)).2=tot E+tot M.nw;omega
   have eg:a_ f m pc M=⟨some (aN f m E M.nw M.mv (due pc M)).1,M.mv+due pc M,(aN f m E M.nw M.mv (due pc M)).2⟩:=by unfold a_;rw[e];exact if_neg z
   rw[eg];have:=gZ (pc:=pc) e hm;refine⟨⟨P2.n,by show ay (aN f m E M.nw M.mv (due pc M)).2.length;rw[l2];exact T.sz,(fun E' h=>by
    cases h;exact⟨P2.e,by rw[l1];exact s,by show M.mv+due pc M < _;rw[l1];omega,P2.bare,P2.dis⟩),fun h=>by cases h⟩,fun k=>?_,?_⟩
   . have h1:=lk k
     unfold aA onE;rw[e];exact h1
   unfold cnt;rw[e];exact tt
theorem eW{f m:Int}{M:MT}{k v:Int}(T:TOk f m M):TOk f m (putAt f m M k v)/\(∀ j,aA f m (putAt f m M k v) j=if j=k then some v else aA f m M j)/\cnt (putAt f m M k v)=cnt M+(if aA f m M k=none then 1 else 0):=by
 have n0:=T.sz.pos;cases e:M.el with
 | none=>
   have eg:putAt f m M k v={ M with nw:=b_ f m M.nw k v }:=by unfold putAt;rw[e]
   rw[eg];refine⟨⟨T.nw.put n0,by show ay (b_ f m M.nw k v).length;rw[bH];exact T.sz,(fun E h=>by rw[show M.el=none from e]at h;cases h),T.no⟩,fun j=>?_,?_⟩
   . unfold aA onE
     simp only[e];exact cp n0
   unfold cnt aA onE;simp only[e];rw[dS n0];omega
 | some E=>
   obtain⟨P,s,hm,b,d⟩:=T.el E e;by_cases z:au f m E k=none
   . have eg:putAt f m M k v={ M with nw:=b_ f m M.nw k v }:=by unfold putAt;rw[e];exact if_pos z
     rw[eg];refine⟨⟨T.nw.put n0,by show ay (b_ f m M.nw k v).length;rw[bH];exact T.sz,(fun E' h=>?_),T.no⟩,fun j=>?_,?_⟩
     . obtain rfl:E=E':=Option.some.inj (e.symm.trans h)
       refine⟨P,s,hm,b,fun j hj=>?_⟩;show au f m (b_ f m M.nw k v) j=none;rw[cp n0,if_neg (fun q=>hj (by rw[q];exact z))]
       exact d j hj
     . unfold aA onE
       simp only[e];by_cases q:j=k
       . subst q
         rw[z,if_pos rfl];show au f m (b_ f m M.nw j v) j=_;rw[cp n0,if_pos rfl]
       rw[if_neg q];show(match au f m E j with | some v=>some v | none=>au f m (b_ f m M.nw k v) j)=_;rw[cp n0,if_neg q]
     unfold cnt aA onE;simp only[e,z];rw[dS n0];omega
   have eg:putAt f m M k v={ M with el:=some (b_ f m E k v) }:=by unfold putAt;rw[e];exact if_neg z
   rw[eg];have e0:=s.pos;refine⟨⟨T.nw,T.sz,(fun E' h=>?_),fun h=>by cases h⟩,fun j=>?_,?_⟩
   . cases h
     refine⟨P.put e0,by rw[bH];exact s,by rw[bH];exact hm,fun i r hi er=>?_,fun j hj=>?_⟩
     . have hi:i < M.mv:=hi
       have hpl:plc f m E.length k≠i:=fun q=>z (by
        rw[bV,q,b i _ hi (bu (by omega))]
        rfl)
       unfold b_ at er;rw[List.getElem?_set_ne hpl]at er;exact b i r hi er
     rw[cp e0]at hj;by_cases q:j=k
     . rw[q];exact d k z
     rw[if_neg q]at hj;exact d j hj
   . unfold aA onE
     simp only[e];rw[cp e0];by_cases q:j=k
     . rw[if_pos q,if_pos q]
     rw[if_neg q,if_neg q]
   unfold cnt aA onE;simp only[e];rw[dS e0,if_neg z];cases q:au f m E k with
   | none=>exact absurd q z
   | some x=>simp
theorem fc{f m:Int}{M:MT}{k:Int}(T:TOk f m M):TOk f m (bY f m M k)/\(∀ j,aA f m (bY f m M k) j=if j=k then none else aA f m M j)/\cnt (bY f m M k)+(if aA f m M k=none then 0 else 1)=cnt M:=by
 have n0:=T.sz.pos;cases e:M.el with
 | none=>
   have eg:bY f m M k={ M with nw:=cU f m M.nw k }:=by unfold bY;rw[e]
   rw[eg];have ct:=gR (f:=f) (m:=m) (k:=k) n0 T.nw.ok;refine⟨⟨T.nw.cut n0,by show ay (cU f m M.nw k).length;rw[cM];exact T.sz,(fun E h=>by rw[show M.el=none from e]at h;cases h),T.no⟩,fun j=>?_,?_⟩
   . unfold aA onE
     simp only[e];exact cY n0
   unfold cnt aA onE;simp only[e];omega
 | some E=>
   obtain⟨P,s,hm,b,d⟩:=T.el E e;by_cases z:au f m E k=none
   . have eg:bY f m M k={ M with nw:=cU f m M.nw k }:=by unfold bY;rw[e];exact if_pos z
     rw[eg];have ct:=gR (f:=f) (m:=m) (k:=k) n0 T.nw.ok;refine⟨⟨T.nw.cut n0,by show ay (cU f m M.nw k).length;rw[cM];exact T.sz,(fun E' h=>?_),T.no⟩,fun j=>?_,?_⟩
     . obtain rfl:E=E':=Option.some.inj (e.symm.trans h)
       refine⟨P,s,hm,b,fun j hj=>?_⟩;show au f m (cU f m M.nw k) j=none;rw[cY n0];split
       . rfl
       exact d j hj
     . unfold aA onE
       simp only[e];by_cases q:j=k
       . subst q
         rw[z,if_pos rfl];show au f m (cU f m M.nw j) j=_;rw[cY n0,if_pos rfl]
       rw[if_neg q];show(match au f m E j with | some v=>some v | none=>au f m (cU f m M.nw k) j)=_;rw[cY n0,if_neg q]
     unfold cnt aA onE;simp only[e,z];omega
   have eg:bY f m M k={ M with el:=some (cU f m E k) }:=by unfold bY;rw[e];exact if_neg z
   rw[eg];have e0:=s.pos;have ct:=gR (f:=f) (m:=m) (k:=k) e0 P.ok;rw[if_neg z]at ct;refine⟨⟨T.nw,T.sz,(fun E' h=>?_),fun h=>by cases h⟩,fun j=>?_,?_⟩
   . cases h
     refine⟨P.cut e0,by rw[cM];exact s,by rw[cM];exact hm,fun i r hi er=>?_,fun j hj=>?_⟩
     . have hi:i < M.mv:=hi
       have hpl:plc f m E.length k≠i:=fun q=>z (by
        rw[bV,q,b i _ hi (bu (by omega))]
        rfl)
       unfold cU at er;rw[List.getElem?_set_ne hpl]at er;exact b i r hi er
     rw[cY e0]at hj;by_cases q:j=k
     . rw[if_pos q]at hj;exact absurd rfl hj
     rw[if_neg q]at hj;exact d j hj
   . unfold aA onE
     simp only[e];rw[cY e0];by_cases q:j=k
     . subst q
       rw[if_pos rfl,if_pos rfl];exact d j z
     rw[if_neg q,if_neg q]
   unfold cnt aA onE;simp only[e];cases q:au f m E k with
   | none=>exact absurd q z
   | some x=>simp;omega
theorem lu{N:aj}(h:ay N.length):ay (cA N):=by
 unfold cA;generalize tot N=t;unfold ay at h;simp only[List.mem_cons,List.not_mem_nil,or_false]at h;rcases h with h | h | h | h | h | h | h | h | h | h | h <;> rw[h] <;> (split;· unfold ay;decide) <;> (split;· unfold ay;decide) <;> (unfold ay;decide)
theorem cQ{f m:Int}{M:MT}(T:TOk f m M):TOk f m (beg M)/\(∀ j,aA f m (beg M) j=aA f m M j)/\cnt (beg M)=cnt M:=by
 cases e:M.el with
 | some E=>
   have:beg M=M:=by unfold beg;rw[e]
   rw[this];exact⟨T,fun _=>rfl,rfl⟩
 | none=>
   by_cases z:cA M.nw=M.nw.length
   . have:beg M=M:=by unfold beg;rw[e];exact if_pos z
     rw[this];exact⟨T,fun _=>rfl,rfl⟩
   have eg:beg M=⟨some M.nw,M.mv,List.replicate (cA M.nw) []⟩:=by unfold beg;rw[e];exact if_neg z
   rw[eg];have ws:=lu T.sz;have hz:∀ k,au f m (List.replicate (cA M.nw) []) k=none:=fun k=>ee (by rw[List.length_replicate];exact ws.pos) (fun j r _ er=>List.eq_of_mem_replicate (List.mem_of_getElem? er)) k
   refine⟨⟨POk.rep,by show ay (List.replicate (cA M.nw) []).length;rw[List.length_replicate];exact ws,(fun E h=>by
    cases h;exact⟨T.nw,T.sz,by rw[T.no e];exact T.sz.pos,fun i r hi=>absurd hi (by rw[T.no e];exact Nat.not_lt_zero _),fun k _=>hz k⟩),fun h=>by cases h⟩,fun j=>?_,?_⟩
   . unfold aA onE
     simp only[e];show(match au f m M.nw j with | some v=>some v | none=>au f m (List.replicate (cA M.nw) []) j)=_;rw[hz];cases au f m M.nw j <;> rfl
   unfold cnt;simp only[e];rw[mq];omega
def tfl(t:Addr)(pc:Int)(el:V)(mv:Int)(n:Addr)(tc:Int):List (Str×V):=[("mixer",.ref t),("pace",.int pc),("elder",el),("moved",.int mv),("newer",.ref n),("touches",.int tc)]
section
variable(t:Addr)(pc:Int)(el:V)(mv:Int)(n:Addr)(tc:Int)
theorem qJ:(tfl t pc el mv n tc).lookup ("mixer":Str)=some (.ref t):=by kernel_rfl
theorem sv:(tfl t pc el mv n tc).lookup ("pace":Str)=some (.int pc):=by kernel_rfl
theorem bb:(tfl t pc el mv n tc).lookup ("elder":Str)=some el:=by kernel_rfl
theorem dM:(tfl t pc el mv n tc).lookup ("moved":Str)=some (.int mv):=by kernel_rfl
theorem br:(tfl t pc el mv n tc).lookup ("newer":Str)=some (.ref n):=by kernel_rfl
theorem mT:(tfl t pc el mv n tc).lookup ("touches":Str)=some (.int tc):=by kernel_rfl
theorem kJ(v:V):aX "elder" v (tfl t pc el mv n tc)=tfl t pc v mv n tc:=by kernel_rfl
theorem k_(z:Int):aX "moved" (.int z) (tfl t pc el mv n tc)=tfl t pc el z n tc:=by kernel_rfl
theorem si(z:Addr):aX "newer" (.ref z) (tfl t pc el mv n tc)=tfl t pc el mv z tc:=by kernel_rfl
theorem nH(z:Int):aX "touches" (.int z) (tfl t pc el mv n tc)=tfl t pc el mv n z:=by kernel_rfl
theorem Ax:aX "touches" (.int tc) (aX "newer" (.ref n) (aX "moved" (.int mv) (aX "elder" el (aX "pace" (.int pc) (aX "mixer" (.ref t) [])))))=tfl t pc el mv n tc:=by kernel_rfl
end
structure NoT(x:Str):Prop where
 no:∀(t:Addr) (pc:Int) (el:V) (mv:Int) (n:Addr) (tc:Int),(tfl t pc el mv n tc).lookup x=none
theorem yp:NoT "put":=⟨fun _ _ _ _ _ _=>by kernel_rfl⟩
theorem zH:NoT "cut":=⟨fun _ _ _ _ _ _=>by kernel_rfl⟩
theorem wF:NoT "look":=⟨fun _ _ _ _ _ _=>by kernel_rfl⟩
theorem vW:NoT "many":=⟨fun _ _ _ _ _ _=>by kernel_rfl⟩
theorem om:NoT "touched":=⟨fun _ _ _ _ _ _=>by kernel_rfl⟩
theorem u_:NoT "sizes":=⟨fun _ _ _ _ _ _=>by kernel_rfl⟩
theorem iZ:NoT "shelves":=⟨fun _ _ _ _ _ _=>by kernel_rfl⟩
theorem jE:NoT "go_on":=⟨fun _ _ _ _ _ _=>by kernel_rfl⟩
theorem kc:NoT "due_places":=⟨fun _ _ _ _ _ _=>by kernel_rfl⟩
theorem kh:NoT "move_place":=⟨fun _ _ _ _ _ _=>by kernel_rfl⟩
theorem mU:NoT "end_move":=⟨fun _ _ _ _ _ _=>by kernel_rfl⟩
theorem fT:NoT "stands_on_elder":=⟨fun _ _ _ _ _ _=>by kernel_rfl⟩
theorem dJ:NoT "shelf_with":=⟨fun _ _ _ _ _ _=>by kernel_rfl⟩
theorem dI:NoT "begin_move":=⟨fun _ _ _ _ _ _=>by kernel_rfl⟩
theorem jB:NoT "wanted_size":=⟨fun _ _ _ _ _ _=>by kernel_rfl⟩
def oB(CS:Addr)(H:Hp)(f m:Int)(v:V)(o:Option aj)(FE:Addr->Prop):Prop:=match o with
 | none=>v=.non /\ ∀ b,¬ FE b
 | some E=>∃ e,v=.ref e/\Sh CS H e f m E FE
structure TbX(CS CT:Addr)(H:Hp)(p:Addr)(f m:Int)(pc:Nat)(M:MT)(tc:Int)(t n:Addr)(v:V)(FN FE:Addr->Prop):Prop where
 ob:∃ dx,H p=some (.ins CT dx (tfl t pc v M.mv n tc))
 mx:H t=some (.tup [.int f,.int m])
 bm:0<=f/\f<=65535
 nw:Sh CS H n f m M.nw FN
 el:oB CS H f m v M.el FE
 ne:∀ b,FE b -> ¬ FN b
 np:¬ FN p /\ ¬ FE p
def Tb(CS CT:Addr)(H:Hp)(p:Addr)(f m:Int)(pc:Nat)(M:MT)(tc:Int)(F:Addr->Prop):Prop:=∃ t n v FN FE,TbX CS CT H p f m pc M tc t n v FN FE /\ ∀ b,F b ↔ (b=p∨FN b∨FE b)
section
variable{CS CT:Addr}{H H':Hp}{p:Addr}{f m:Int}{pc:Nat}{M:MT}{tc:Int}{t n:Addr}{v:V}{FN FE F G:Addr->Prop}
theorem oB.keep{o:Option aj}(S:oB CS H f m v o FE)(k:Fr G H H')(d:∀ b,FE b -> ¬ G b)(dt:∀ b xs,H b=some (.tup xs) -> ¬ G b):oB CS H' f m v o FE:=by
 cases o with
 | none=>exact S
 | some E=>
   obtain⟨e,he,S⟩:=S;exact⟨e,he,S.keep k d dt⟩
theorem oB.live{o:Option aj}(S:oB CS H f m v o FE){b:Addr}(h:FE b):∃ o',H b=some o' /\ ∀ xs,o' ≠ .tup xs:=by
 cases o with
 | none=>exact absurd h (S.2 b)
 | some E=>
   obtain⟨e,he,S⟩:=S;exact S.live h
theorem Tb.live(S:Tb CS CT H p f m pc M tc F){b:Addr}(h:F b):∃ o',H b=some o' /\ ∀ xs,o' ≠ .tup xs:=by
 obtain⟨t,n,v,FN,FE,X,hF⟩:=S;rcases(hF b).mp h with rfl | h | h
 . obtain⟨dx,e⟩:=X.ob
   exact⟨_,e,fun xs z=>by cases z⟩
 . exact X.nw.live h
 exact X.el.live h
theorem Tb.fresh(S:Tb CS CT H p f m pc M tc F){b:Addr}(h:H b=none):¬ F b:=fun z=>by
 obtain⟨o,e,_⟩:=S.live z;rw[h]at e;cases e
theorem Tb.keep(S:Tb CS CT H p f m pc M tc F)(k:Fr G H H')(d:∀ b,F b -> ¬ G b)(dt:∀ b xs,H b=some (.tup xs) -> ¬ G b):Tb CS CT H' p f m pc M tc F:=by
 obtain⟨t,n,v,FN,FE,X,hF⟩:=S;obtain⟨dx,e⟩:=X.ob;exact⟨t,n,v,FN,FE,⟨⟨dx,k _ _ (d p ((hF p).mpr (.inl rfl))) e⟩,k _ _ (dt _ _ X.mx) X.mx,X.bm,X.nw.keep k (fun b hb=>d b ((hF b).mpr (.inr (.inl hb)))) dt,X.el.keep k (fun b hb=>d b ((hF b).mpr (.inr (.inr hb)))) dt,X.ne,X.np⟩,hF⟩
theorem Tb.same(S:Tb CS CT H p f m pc M tc F)(k:ao H H'):Tb CS CT H' p f m pc M tc F:=
 S.keep (G:=fun _=>False) (fun b o _ e=>k b o e) (fun _ _ z=>z) fun _ _ _ z=>z
theorem Tb.self(S:Tb CS CT H p f m pc M tc F):F p:=by
 obtain⟨t,n,v,FN,FE,X,hF⟩:=S;exact(hF p).mpr (.inl rfl)
end
abbrev Gr(H:Hp)(F F':Addr->Prop):Prop:=∀ b,F' b->F b∨H b=none
def ol(CS CT:Addr):Sp:=fun vs H Q _=>∃(p:Addr) (f m:Int) (pc:Nat) (M:MT) (tc:Int) (F:Addr->Prop),vs=[.ref p]/\Tb CS CT H p f m pc M tc F/\TOk f m M/\pc<=1000 /\
 ∀ l H',ao H H'->H l=none->H' l=some (.lst ((ic M.mv (due pc M)).map V.int))->Q (.ref l) H'
def qz(CS CT:Addr):Sp:=fun vs H Q _=>∃(p:Addr) (i:Nat) (f m:Int) (pc:Nat) (E N:aj) (mv:Nat) (tc:Int) (F:Addr->Prop),vs=[.ref p,.int i]/\Tb CS CT H p f m pc ⟨some E,mv,N⟩ tc F/\i < E.length/\l8 f m E N i/\tot E+tot N<=90000 /\
 ∀ l H' F',Tb CS CT H' p f m pc ⟨some (E.set i []),mv,aI f m N (E.getD i [])⟩ tc F'->Gr H F F'->Fr F H H'->H l=none -> ¬ F' l->H' l=some (.lst (((E.getD i []).map fun q=>((plc f m N.length q.1:Nat):Int)).map V.int))->Q (.ref l) H'
def j9(M:MT):MT:=match M.el with
 | none=>M
 | some E=>if M.mv=E.length then⟨none,0,M.nw⟩else M
def oU(CS CT:Addr):Sp:=fun vs H Q _=>∃(p:Addr) (f m:Int) (pc:Nat) (M:MT) (tc:Int) (F:Addr->Prop),vs=[.ref p]/\Tb CS CT H p f m pc M tc F /\
 ∀ H' F',Tb CS CT H' p f m pc (j9 M) tc F'->Gr H F F'->Fr F H H'->Q .non H'
def ci(f m:Int)(M:MT)(k:Int):Bool:=match M.el with
 | none=>false
 | some E=>decide (M.mv<=plc f m E.length k)
def g_(CS CT:Addr):Sp:=fun vs H Q _=>∃(p:Addr) (k f m:Int) (pc:Nat) (M:MT) (tc:Int) (F:Addr->Prop),vs=[.ref p,.int k]/\Tb CS CT H p f m pc M tc F/\Q (.bl (ci f m M k)) H
def nB(CS CT:Addr):Sp:=fun vs H Q _=>∃(p:Addr) (k f m:Int) (pc:Nat) (M:MT) (tc:Int) (F:Addr->Prop),vs=[.ref p,.int k]/\Tb CS CT H p f m pc M tc F/\TOk f m M/\pc<=1000/\(cnt M<=4000∨M.el=none) /\
 ∀ H' F',Tb CS CT H' p f m pc (a_ f m pc M) (tch f m pc M k) F'->Gr H F F'->Fr F H H'->Q .non H'
def gC(CS CT:Addr):Sp:=fun vs H Q _=>∃(p:Addr) (k f m:Int) (pc:Nat) (M:MT) (tc:Int) (t n:Addr) (v:V) (FN FE:Addr->Prop),vs=[.ref p,.int k]/\TbX CS CT H p f m pc M tc t n v FN FE /\
 (∀ E,M.el=some E->au f m E k≠none->Q v H)/\(onE f m M k=none->Q (.ref n) H)
def l_(CS CT:Addr):Sp:=fun vs H Q _=>∃(p:Addr) (f m:Int) (pc:Nat) (M:MT) (tc:Int) (F:Addr->Prop),vs=[.ref p]/\Tb CS CT H p f m pc M tc F/\Q (.int (cA M.nw:Nat)) H
def cJ(CS CT:Addr):Sp:=fun vs H Q _=>∃(p:Addr) (f m:Int) (pc:Nat) (M:MT) (tc:Int) (F:Addr->Prop),vs=[.ref p]/\Tb CS CT H p f m pc M tc F/\ay M.nw.length /\
 ∀ H' F',Tb CS CT H' p f m pc (beg M) tc F'->Gr H F F'->Fr F H H'->Q .non H'
def yX(f m:Int)(pc:Nat)(M:MT)(k v:Int):MT:=beg (putAt f m (a_ f m pc M) k v)
def yB(f m:Int)(pc:Nat)(M:MT)(k:Int):MT:=beg (bY f m (a_ f m pc M) k)
def s_(f m:Int)(pc:Nat)(M:MT):MT:=beg (a_ f m pc M)
def ox(CS CT:Addr):Sp:=fun vs H Q _=>∃(p:Addr) (k y f m:Int) (pc:Nat) (M:MT) (tc:Int) (F:Addr->Prop),vs=[.ref p,.int k,.int y]/\Tb CS CT H p f m pc M tc F/\TOk f m M/\pc<=1000/\cnt M<=4900/\(cnt M<=4000∨M.el=none) /\
 ∀ H' F',Tb CS CT H' p f m pc (yX f m pc M k y) (tch f m pc M k) F'->Gr H F F'->Fr F H H'->Q (oV (aA f m M k)) H'
def o8(CS CT:Addr):Sp:=fun vs H Q _=>∃(p:Addr) (k f m:Int) (pc:Nat) (M:MT) (tc:Int) (F:Addr->Prop),vs=[.ref p,.int k]/\Tb CS CT H p f m pc M tc F/\TOk f m M/\pc<=1000/\cnt M<=4000 /\
 ∀ H' F',Tb CS CT H' p f m pc (yB f m pc M k) (tch f m pc M k) F'->Gr H F F'->Fr F H H'->Q (oV (aA f m M k)) H'
def mH(CS CT:Addr):Sp:=fun vs H Q _=>∃(p:Addr) (k f m:Int) (pc:Nat) (M:MT) (tc:Int) (F:Addr->Prop),vs=[.ref p,.int k]/\Tb CS CT H p f m pc M tc F/\TOk f m M/\pc<=1000/\cnt M<=4000 /\
 ∀ H' F',Tb CS CT H' p f m pc (s_ f m pc M) (tch f m pc M k) F'->Gr H F F'->Fr F H H'->Q (oV (aA f m M k)) H'
def eJ(CS CT:Addr):Sp:=fun vs H Q _=>∃(p:Addr) (f m:Int) (pc:Nat) (M:MT) (tc:Int) (t n:Addr) (v:V) (FN FE:Addr->Prop),vs=[.ref p]/\TbX CS CT H p f m pc M tc t n v FN FE /\
 ∀ l,H l=none->Q (.ref l) (upd H l (.lst (match M.el with | none=>[.ref n] | some _=>[v,.ref n])))
def mC(CS CT:Addr):Sp:=fun vs H Q _=>∃(p:Addr) (f m:Int) (pc:Nat) (M:MT) (tc:Int) (F:Addr->Prop),vs=[.ref p]/\Tb CS CT H p f m pc M tc F /\ ∀ H',ao H H'->Q (.int (cnt M:Nat)) H'
def PrT(K:W.Frag)(H:Hp)(v:V)(p:Int×Int):Prop:=∃ a,v=.ref a/\SqT K H a [.int p.1,.int p.2]
def wO(K:W.Frag)(H:Hp)(v:V)(r:av):Prop:=∃ b ys,v=.ref b/\SqT K H b ys/\Paired (PrT K H) ys r
def iu(K:W.Frag)(H:Hp)(a:Addr)(R:aj):Prop:=∃ xs,SqT K H a xs/\Paired (wO K H) xs R
def laid(f m:Int)(R:aj):aj:=R.foldl (fun N r=>aI f m N r) (List.replicate R.length [])
def h9(K:W.Frag)(CS:Addr):Sp:=fun vs H Q _=>∃(a t:Addr) (f m:Int) (R:aj),vs=[.ref a,.ref t]/\iu K H a R/\ay R.length/\tot R<=5000/\H t=some (.tup [.int f,.int m])/\(0<=f/\f<=65535) /\
 ∀ p H' F,Sh CS H' p f m (laid f m R) F->(∀ b,F b->H b=none)->ao H H'->Q (.ref p) H'
def M0:MT:=⟨none,0,List.replicate 4 []⟩
section
variable{CS CT:Addr}{H:Hp}{Q:VK}{E:XK}{p:Addr}{k y f m:Int}{pc:Nat}{M:MT}{tc:Int}{F:Addr->Prop}
theorem wT{x:Str}{P:Prop}(S:Tb CS CT H p f m pc M tc F)(hn:NoT x)(h:P):∃ a dx fs,V.ref p=.ref a/\H a=some (.ins CT dx fs)/\fs.lookup x=none/\P:=by
 obtain⟨t,n,v,FN,FE,X,hF⟩:=S;obtain⟨dx,e⟩:=X.ob;exact⟨p,dx,_,rfl,e,hn.no _ _ _ _ _ _,h⟩
theorem BX(S:Tb CS CT H p f m pc M tc F)(T:TOk f m M)(hp:pc<=1000)(hc:cnt M<=4000)(q:∀ H' F',Tb CS CT H' p f m pc (yX f m pc M k y) (tch f m pc M k) F'->Gr H F F'->Fr F H H'->Q (oV (aA f m M k)) H'):ox CS CT (V.ref p::([V.int k,V.int y]++[])) H Q E:=⟨p,k,y,f,m,pc,M,tc,F,rfl,S,T,hp,Nat.le_trans hc (by decide),.inl hc,q⟩
theorem BO(S:Tb CS CT H p f m pc M tc F)(T:TOk f m M)(hp:pc<=1000)(hc:cnt M<=4000)(q:∀ H' F',Tb CS CT H' p f m pc (yB f m pc M k) (tch f m pc M k) F'->Gr H F F'->Fr F H H'->Q (oV (aA f m M k)) H'):o8 CS CT (V.ref p::([V.int k]++[])) H Q E:=⟨p,k,f,m,pc,M,tc,F,rfl,S,T,hp,hc,q⟩
theorem zW(S:Tb CS CT H p f m pc M tc F)(T:TOk f m M)(hp:pc<=1000)(hc:cnt M<=4000)(q:∀ H' F',Tb CS CT H' p f m pc (s_ f m pc M) (tch f m pc M k) F'->Gr H F F'->Fr F H H'->Q (oV (aA f m M k)) H'):mH CS CT (V.ref p::([V.int k]++[])) H Q E:=⟨p,k,f,m,pc,M,tc,F,rfl,S,T,hp,hc,q⟩
theorem Ao(S:Tb CS CT H p f m pc M tc F)(q:∀ H',ao H H'->Q (.int (cnt M:Nat)) H'):mC CS CT (V.ref p::([]++[])) H Q E:=⟨p,f,m,pc,M,tc,F,rfl,S,q⟩
end
theorem xU{f m:Int}:TOk f m M0:=⟨POk.rep,by show ay 4;unfold ay;decide,(fun E h=>by cases h),fun _=>rfl⟩
theorem dg{f m:Int}:∀(j:Nat) (E N:aj) (i:Nat),aN f m E N i (j+1)=((aN f m E N i j).1.set (i+j) [],aI f m (aN f m E N i j).2 ((aN f m E N i j).1.getD (i+j) []))
 | 0,E,N,i=>rfl
 | j+1,E,N,i=>by
   show aN f m (E.set i []) (aI f m N (E.getD i [])) (i+1) (j+1)=_;rw[dg j];have e:i+1+j=i+(j+1):=by omega
   rw[e]
   rfl
theorem fW{f m:Int}:∀(j:Nat) (E N:aj) (i k:Nat),i+j<=k->i+j<=E.length->(aN f m E N i j).1.getD k []=E.getD k []
 | 0,_,_,_,_,_,_=>rfl
 | j+1,E,N,i,k,h,hl=>by
   show(aN f m (E.set i []) (aI f m N (E.getD i [])) (i+1) j).1.getD k []=_;rw[fW j _ _ _ _ (by omega) (by rw[List.length_set];omega),ff (by omega),if_neg (by omega)]
theorem fX{f m:Int}{n:Nat}:∀(j:Nat) (E:aj) (i:Nat),du f m n E i (j+1)=du f m n E i j++(E.getD (i+j) []).map fun p=>((plc f m n p.1:Nat):Int)
 | 0,E,i=>by
   show((E.getD i []).map fun p=>((plc f m n p.1:Nat):Int))++[]=[]++_;rw[List.append_nil,List.nil_append]
   rfl
 | j+1,E,i=>by
   show((E.getD i []).map fun p=>((plc f m n p.1:Nat):Int))++du f m n E (i+1) (j+1)=(((E.getD i []).map fun p=>((plc f m n p.1:Nat):Int))++du f m n E (i+1) j)++_;rw[fX j,List.append_assoc,show i+1+j=i+(j+1) by omega]
theorem eI{f m:Int}:∀(j:Nat) (E N:aj) (i:Nat),(aN f m E N i j).1.length=E.length
 | 0,_,_,_=>rfl
 | j+1,E,N,i=>by
   rw[dg];show((aN f m E N i j).1.set (i+j) []).length=_;rw[List.length_set,eI j]
theorem gg{f m:Int}:∀(j:Nat) (E N:aj) (i:Nat),(aN f m E N i j).2.length=N.length
 | 0,_,_,_=>rfl
 | j+1,E,N,i=>by
   rw[dg];show(aI f m (aN f m E N i j).2 _).length=_;rw[dh,gg j]
theorem ik{f m:Int}{n:Nat}:∀(j:Nat) (E N:aj) (i:Nat),i+j<=E.length->tot (aN f m E N i j).1+(du f m n E i j).length=tot E
 | 0,_,_,_,_=>rfl
 | j+1,E,N,i,h=>by
   have ih:=ik (f:=f) (m:=m) (n:=n) j E N i (by omega)
   have t:=fz (aN f m E N i j).1 (i+j) [] (by rw[eI];omega)
   rw[fW j E N i (i+j) (Nat.le_refl _) (by omega)]at t
   rw[dg,fX,List.length_append,List.length_map];show tot ((aN f m E N i j).1.set (i+j) [])+_=_;have e0:([]:av).length=0:=rfl;omega
theorem cE{f m:Int}:∀{r:av}{N:aj},0 < N.length->tot (aI f m N r)<=tot N+r.length
 | [],_,_=>Nat.le_refl _
 | p::r,N,h=>by
   show tot (aI f m (b_ f m N p.1 p.2) r)<=_;have:=cE (f:=f) (m:=m) (r:=r) (N:=b_ f m N p.1 p.2) (by rw[bH];exact h)
   rw[dS h]at this;rw[List.length_cons];split at this <;> omega
theorem ip{f m:Int}{N:aj}{r:av}{j:Nat}{p:Int×Int}(h:r[j]?=some p):aI f m N (r.take (j+1))=b_ f m (aI f m N (r.take j)) p.1 p.2:=by
 rw[List.take_add_one,h];unfold aI;rw[List.foldl_append]
 rfl
def mid(f m:Int)(M:MT)(j:Nat):MT:=match M.el with
 | none=>M
 | some E=>⟨some (aN f m E M.nw M.mv j).1,M.mv,(aN f m E M.nw M.mv j).2⟩
def rch(f m:Int)(M:MT)(j:Nat):List Int:=match M.el with
 | none=>[]
 | some E=>du f m M.nw.length E M.mv j
theorem Gr.trans{H H1:Hp}{F F1 F2:Addr->Prop}(a:Gr H F F1)(k:Fr F H H1)(b:Gr H1 F1 F2):Gr H F F2:=fun c hc=>by
 rcases b c hc with z | z
 . exact a c z
 by_cases hF:F c
 . exact .inl hF
 cases e:H c with
 | none=>exact .inr rfl
 | some o=>rw[k c o hF e]at z;cases z
section
variable{CS CT:Addr}{H H':Hp}{p:Addr}{f m:Int}{pc:Nat}{M:MT}{tc:Int}{t n:Addr}{v:V}{FN FE F G:Addr->Prop}
theorem TbX.tb(X:TbX CS CT H p f m pc M tc t n v FN FE):Tb CS CT H p f m pc M tc (fun b=>b=p∨FN b∨FE b):=⟨t,n,v,FN,FE,X,fun _=>Iff.rfl⟩
theorem TbX.setN{N':aj}(X:TbX CS CT H p f m pc M tc t n v FN FE)(S:Sh CS H' n f m N' FN)(k:Fr FN H H'):TbX CS CT H' p f m pc { M with nw:=N' } tc t n v FN FE:=by
 obtain⟨dx,e⟩:=X.ob;exact⟨⟨dx,k _ _ X.np.1 e⟩,k _ _ (X.nw.notup X.mx) X.mx,X.bm,S,X.el.keep k X.ne fun b xs e=>X.nw.notup e,X.ne,X.np⟩
theorem TbX.setE{E E':aj}{e:Addr}(X:TbX CS CT H p f m pc M tc t n (.ref e) FN FE)(he:M.el=some E)(S:Sh CS H' e f m E' FE)(k:Fr FE H H'):TbX CS CT H' p f m pc { M with el:=some E' } tc t n (.ref e) FN FE:=by
 obtain⟨dx,eo⟩:=X.ob;have hel:=X.el;rw[he]at hel;obtain⟨e',_,SE⟩:=hel;exact⟨⟨dx,k _ _ X.np.2 eo⟩,k _ _ (SE.notup X.mx) X.mx,X.bm,X.nw.keep k (fun b hb z=>X.ne b z hb) fun b xs e=>SE.notup e,⟨e,rfl,S⟩,X.ne,X.np⟩
end
theorem wH{f m:Int}{pc:Nat}{M:MT}:j9 { mid f m M (due pc M)with mv:=M.mv+due pc M }=a_ f m pc M:=by
 unfold j9 mid a_;cases e:M.el with
 | none=>
   have:due pc M=0:=by unfold due;rw[e]
   simp only[e,this];cases M;simp at e;subst e
   rfl
 | some E=>
   simp only[eI]
theorem tG{f m:Int}{pc:Nat}{M:MT}{k:Int}:tch f m pc M k=due pc M+cf (((plc f m M.nw.length k:Nat):Int)::rch f m M (due pc M))+(if ci f m (a_ f m pc M) k=true then 1 else 0):=by
 unfold tch rch ci
 congr 1
 cases (a_ f m pc M).el with
 | none=>rfl
 | some E=>
   simp only[];by_cases z:(a_ f m pc M).mv<=plc f m E.length k
   . rw[if_pos z,if_pos (decide_eq_true z)]
   rw[if_neg z,if_neg (by rw[decide_eq_false z];exact Bool.false_ne_true)]
theorem uv{f m:Int}{M:MT}{k v:Int}(h:onE f m M k=none):SW.putAt f m M k v={ M with nw:=b_ f m M.nw k v }:=by
 unfold SW.putAt;unfold onE at h;cases e:M.el with
 | none=>rfl
 | some E=>
   rw[e]at h;exact if_pos h
theorem tZ{f m:Int}{M:MT}{k v:Int}{E:aj}(e:M.el=some E)(h:au f m E k≠none):SW.putAt f m M k v={ M with el:=some (b_ f m E k v) }:=by
 unfold SW.putAt;rw[e];exact if_neg h
theorem tz{f m:Int}{M:MT}{k:Int}(h:onE f m M k=none):SW.bY f m M k={ M with nw:=cU f m M.nw k }:=by
 unfold SW.bY;unfold onE at h;cases e:M.el with
 | none=>rfl
 | some E=>
   rw[e]at h;exact if_pos h
theorem ux{f m:Int}{M:MT}{k:Int}{E:aj}(e:M.el=some E)(h:au f m E k≠none):SW.bY f m M k={ M with el:=some (cU f m E k) }:=by
 unfold SW.bY;rw[e];exact if_neg h
theorem jz{f m:Int}{M:MT}{k:Int}{E:aj}(e:M.el=some E)(h:au f m E k≠none):au f m E k=aA f m M k:=by
 unfold aA onE;rw[e];cases z:au f m E k with
 | none=>exact absurd z h
 | some x=>simp[z]
theorem jS{f m:Int}{M:MT}{k:Int}(h:onE f m M k=none):au f m M.nw k=aA f m M k:=by
 unfold aA;rw[h]
theorem wITup{K:W.Frag}{U:L2.St}{H:Hp}{tl:TE}{R:It->Hp->Prop}(h:tl U H fun x H1=>∃ a,x=.ref a/\(∃ xs,SqT K H1 a xs)/\R (Itt K a) H1):yT K tl U H R:=h
theorem wDPop1{U:L2.St}{H:Hp}{Q:VK}{td ty:TE}(h:td U H fun x H1=>∃ a,x=.ref a/\IsD H1 a/\ty U H1 fun y H2=>∃ kvs k v,H2 a=some (.dK kvs)/\y=kV k/\bO kvs k=some v/\Q v (upd H2 a (.dK (cW kvs k)))):pq td ty U H Q:=h
theorem wDIn{U:L2.St}{H:Hp}{Q:VK}{td ty:TE}(h:ty U H fun y H1=>td U H1 fun x H2=>∃ a o,x=.ref a/\cR H2 a y o/\Q (.bl o.isSome) H2):Ap ty td U H Q:=h
namespace B
theorem dpop1{X:Cx}{o e:Expr}{td ty:TE}{apos cpos:Pos}(ho:Bx (PE X o td))(he:Bx (PE X e ty))(m:M1 X o "pop" apos e cpos:=by exact B.m1):Bx (PE X (.Call (.Attribute o "pop" apos) [e] [] cpos) (pq td ty)):=⟨uZ ho.out he.out m⟩
theorem tdin{X:Cx}{a d:Expr}{ty td:TE}{pos:Pos}(hu:X.A.units+1 < cLine)(hk:Bx (PE X a ty))(hd:Bx (PE X d td))(h1:behindInMarks .In d=false:=by first | rfl | with_unfolding_all rfl):Bx (PT X (.Compare a [.In] [d] pos) (tB (Ap ty td))):=⟨uz (Az hu hk.out hd.out) h1⟩
end B
def bZ(H:Hp)(p:Addr):Prop:=∃ a b:Int,H p=some (.lst [.int a,.int b])/\0<=b/\b < 2147483648
theorem bZ.same{H H':Hp}{p:Addr}(r:bZ H p)(s:ao H H'):bZ H' p:=by
 obtain⟨a,b,h,z⟩:=r;exact⟨a,b,s _ _ h,z⟩
theorem bZ.new{H:Hp}{p q:Addr}{o:HO}(r:bZ H p)(h:H q=none):bZ (L2.upd H q o) p:=r.same (ao.new h)
theorem bZ.ne0{H:Hp}{p q:Addr}(r:bZ H p)(h:H q=none):p≠q:=by
 obtain⟨a,b,e,_⟩:=r;exact ah e h
theorem bZ.fr{H H':Hp}{p:Addr}{G:Addr->Prop}(r:bZ H p)(k:Fr G H H')(h:¬ G p):bZ H' p:=by
 obtain⟨a,b,e,z⟩:=r;exact⟨a,b,k _ _ h e,z⟩
theorem bZ.notup{H:Hp}{p b:Addr}{xs:List V}(r:bZ H p)(h:H b=some (.tup xs)):¬ b=p:=by
 obtain⟨_,_,e,_⟩:=r;exact aR h e (by intro z;cases z)
def pA:Sp:=fun vs H Q _=>∃ c:Int,vs=[.int c] /\ ∀ p o,H p=none->bZ (upd H p o) p->Q (.ref p) (upd H p o)
theorem xW{c:Int}{H:Hp}{Q:VK}{E:XK}(k:∀ p o,H p=none->bZ (upd H p o) p->Q (.ref p) (upd H p o)):pA ([.int c]++[]) H Q E:=⟨c,rfl,k⟩
def ia:Sp:=fun vs H Q _=>∃(p:Addr) (m:Int),vs=[.ref p,.int m]/\0 < m/\m < 18446744073709551616/\bZ H p /\ ∀ r H',0<=r->r < m->bZ H' p->ak p H H'->Q (.int r) H'
theorem dz{p:Addr}{m:Int}{H:Hp}{Q:VK}{E:XK}(hp:bZ H p)(h0:0 < m)(h1:m < 18446744073709551616)(k:∀ r H',0<=r->r < m->bZ H' p->ak p H H'->Q (.int r) H'):ia ([.ref p,.int m]++[]) H Q E:=⟨p,m,rfl,h0,h1,hp,k⟩
theorem ak.fr'{p:Addr}{H H':Hp}(k:ak p H H'):Fr (fun b=>b=p) H H':=fun b o n e=>k b o n e
theorem Mix.keepW{H H':Hp}{p t:Addr}(h:Mix H t)(r:bZ H p)(k:ak p H H'):Mix H' t:=by
 obtain⟨f,m,e,b⟩:=h;exact⟨f,m,k _ _ (r.notup e) e,b⟩
def jN:Sp:=fun vs H Q _=>∃ p:Addr,vs=[.ref p]/\bZ H p /\ ∀ t H',Mix H' t->bZ H' p->ak p H H'->Q (.ref t) H'
theorem vY{p:Addr}{H:Hp}{Q:VK}{E:XK}(hp:bZ H p)(k:∀ t H',Mix H' t->bZ H' p->ak p H H'->Q (.ref t) H'):jN ([.ref p]++[]) H Q E:=⟨p,rfl,hp,k⟩
inductive cK where
 | put (k v:Int)
 | look (k:Int)
 | cut (k:Int)
def xD:cK->List V
 | .put k v=>[.str "put",.int k,.int v]
 | .look k=>[.str "look",.int k]
 | .cut k=>[.str "cut",.int k]
def xI(H:Hp)(v:V)(d:cK):Prop:=∃ a,v=.ref a/\H a=some (.tup (xD d))
def ir(r:av):cK->av
 | .put k v=>dO r k v
 | .look _=>r
 | .cut k=>cr r k
def bF:cK->Int
 | .put k _=>k
 | .look k=>k
 | .cut k=>k
def bM(f m:Int)(pc:Nat)(M:MT):cK->MT
 | .put k v=>yX f m pc M k v
 | .look _=>s_ f m pc M
 | .cut k=>yB f m pc M k
def mw(CS CT:Addr):Sp:=fun vs H Q _=>∃(p:Addr) (v:V) (d:cK) (f m:Int) (pc:Nat) (M:MT) (tc:Int) (F:Addr->Prop),vs=[.ref p,v]/\Tb CS CT H p f m pc M tc F/\TOk f m M/\pc<=1000/\cnt M<=4000/\xI H v d /\
 ∀ H' F',Tb CS CT H' p f m pc (bM f m pc M d) (tch f m pc M (bF d)) F'->Gr H F F'->Fr F H H'->Q (oV (aA f m M (bF d))) H'
theorem o_{CS CT p:Addr}{v:V}{d:cK}{f m:Int}{pc:Nat}{M:MT}{tc:Int}{F:Addr->Prop}{H:Hp}{Q:VK}{E:XK}(S:Tb CS CT H p f m pc M tc F)(T:TOk f m M)(hp:pc<=1000)(hc:cnt M<=4000)(hd:xI H v d)
 (k:∀ H' F',Tb CS CT H' p f m pc (bM f m pc M d) (tch f m pc M (bF d)) F'->Gr H F F'->Fr F H H'->Q (oV (aA f m M (bF d))) H'):mw CS CT ([.ref p,v]++[]) H Q E:=⟨p,v,d,f,m,pc,M,tc,F,rfl,S,T,hp,hc,hd,k⟩
theorem qq{f m:Int}{pc:Nat}{M:MT}(T:TOk f m M)(d:cK):TOk f m (bM f m pc M d) /\ ∀ r:av,ROk r->(∀ k,ax r k=aA f m M k)->r.length=cnt M->ROk (ir r d)/\(∀ k,ax (ir r d) k=aA f m (bM f m pc M d) k)/\(ir r d).length=cnt (bM f m pc M d):=by
 obtain⟨T1,l1,c1⟩:=eh (pc:=pc) T;cases d with
 | put k v=>
   obtain⟨T2,l2,c2⟩:=eW (k:=k) (v:=v) T1;obtain⟨T3,l3,c3⟩:=cQ T2;refine⟨T3,fun r ok hl hc=>⟨lN ok,fun j=>?_,?_⟩⟩
   . show ax (dO r k v) j=aA f m (beg (SW.putAt f m (a_ f m pc M) k v)) j
     rw[l3,l2,l1,ie,hl]
   show(dO r k v).length=cnt (beg (SW.putAt f m (a_ f m pc M) k v));rw[c3,c2,c1,l1,nY,hl,hc]
 | look k=>
   obtain⟨T3,l3,c3⟩:=cQ T1;refine⟨T3,fun r ok hl hc=>⟨ok,fun j=>?_,?_⟩⟩
   . show ax r j=aA f m (beg (a_ f m pc M)) j
     rw[l3,l1,hl]
   show r.length=cnt (beg (a_ f m pc M));rw[c3,c1,hc]
 | cut k=>
   obtain⟨T2,l2,c2⟩:=fc (k:=k) T1;obtain⟨T3,l3,c3⟩:=cQ T2;refine⟨T3,fun r ok hl hc=>⟨mF ok,fun j=>?_,?_⟩⟩
   . show ax (cr r k) j=aA f m (beg (SW.bY f m (a_ f m pc M) k)) j
     rw[l3,l2,l1,fI,hl]
   show(cr r k).length=cnt (beg (SW.bY f m (a_ f m pc M) k));have h1:=jf (k:=k) ok;rw[hl]at h1;rw[l1]at c2;rw[c3];omega
structure be(X:Cx)(scope:Scope)(cl:List (Str×Addr))(os:List Str)(js:List Nat)(N':List Str):Prop where
 clos:closureFor scope X.env=pure cl
 kind:scope.kind=.function
 nocell:∀ y∈scope.names,y.2 ≠ .cell
 names:∀ y∈scope.names,y.2=.local->scope.names.lookup y.1=some .local
 sub:∀ p∈cl,X.env.cells.lookup p.1=some p.2
 has:∀ y,((relabel scope X.env).names.lookup y=some .cell∨(relabel scope X.env).names.lookup y=some .free) -> ∃ c,cl.lookup y=some c
 nm:N'=os++js.map fun j=>X.N.getD j Str.empty
 see:∀(i j:Nat),js[i]?=some j -> ∃ y,X.N[j]?=some y/\(X.env.kindOf y=some .cell∨X.env.kindOf y=some .free)/\((relabel scope X.env).names.lookup y=some .cell∨(relabel scope X.env).names.lookup y=some .free)
def gP(n:Nat)(U:L2.St)(js:List Nat):L2.St:=List.replicate n none++js.map fun j=>U.getD j none
section
variable{X:Cx}{scope:Scope}{cl:List (Str×Addr)}{os:List Str}{js:List Nat}{N':List Str}{pins:List (Addr×Obj)}{U:L2.St}{H:Hp}{s:Shared}{fp:List Addr}
theorem be.sub'(S:be X scope cl os js N'){y:Str}{c:Addr}(h:cl.lookup y=some c):X.env.cells.lookup y=some c:=S.sub (y,c) (PySem.mem_of_lookup h)
theorem nM(S:be X scope cl os js N')(I:Inv X pins U H s)(hf:∀ b∈fp,eF X pins H b)(ho:∀ b∈fp,b < s.heap.objs.size):(aB X scope cl N' s H fp pins).Ok where
 mod:=I.ok.mod
 kind:=S.kind
 glob:=I.ok.glob
 blt:=I.ok.blt
 above:=Nat.le_refl _
 inj:=fun y z c h1 h2=>I.ok.inj y z c (S.sub' h1) (S.sub' h2)
 has:=fun y h=>S.has y h
 cab:=fun y c h=>absurd h Bool.false_ne_true
 hd:=I.ok.hd
 frames:=I.ok.frames
 stk:=.inl rfl
 exf:=fun b hb=>⟨Nat.ne_of_lt (ho b hb),fun y c h=>(hf b hb).2.2.2.2.1 y c (S.sub' h)⟩
 bs:=I.bs
 bsz:=Nat.le_trans I.ok.bsz I.sz
 noex:=fun b o e hb=>by
  rcases(hf b hb).2.2.2.1 with z | z
  . exact I.ok.noex b o e z
  exact absurd (Nat.lt_of_lt_of_le (Heap.lt_size (I.ok.bs b o e).1) z) (Nat.lt_irrefl _)
 exfs:=fun b hb z=>by
  rcases List.mem_cons.mp (I.stkSub b z)with e | e
  . exact(hf b hb).2.1 e
  exact(hf b hb).2.2.1 e
 funs:=I.stack
 frf:=I.stkFree
theorem qS(S:be X scope cl os js N')(I:Inv X pins U H s)(hf:∀ b∈fp,eF X pins H b)(ho:∀ b∈fp,b < s.heap.objs.size){s4:Shared}{m:Str->Option Value}(hos:s4.os=s.os)(hg:s4.gens=s.gens)
 (hn:s4.heap.Ns s.heap.objs.size m) (hk:∀ b o,s.heap.get? b=some o->s4.heap.get? b=some o):Inv (aB X scope cl N' s H fp pins) [] (gP os.length U js) H s4 where
 ok:=nM S I hf ho
 os:=hos
 bare:=by rw[hg];exact I.bare
 base:=Un.kept hk
 loc:=by
  obtain⟨mX,_,hl⟩:=I.loc;refine⟨m,hn,fun i y v h1 h2 h3=>?_⟩;by_cases hio:i < os.length
  . unfold gP at h2
    rw[List.getElem?_append_left (by rw[List.length_replicate];exact hio),List.getElem?_replicate_of_lt hio]at h2
    cases h2
  obtain⟨i',rfl⟩:∃ i',i=os.length+i':=⟨i - os.length,by omega⟩
  have h1':N'[os.length+i']?=some y:=h1;rw[S.nm,List.getElem?_append_right (by omega),Nat.add_sub_cancel_left,List.getElem?_map]at h1'
  unfold gP at h2;rw[List.getElem?_append_right (by rw[List.length_replicate];omega),List.length_replicate,Nat.add_sub_cancel_left,List.getElem?_map]at h2
  revert h1' h2
  generalize i'=i;intro h2 h1';cases ej:js[i]? with
  | none=>rw[ej]at h2;cases h2
  | some j=>
    rw[ej]at h1' h2;obtain⟨z,hz,k1,k2⟩:=S.see i j ej;have ey:z=y:=by
     have:X.N.getD j Str.empty=y:=Option.some.inj h1';rw[List.getD_eq_getElem?_getD,hz]at this;exact this
    subst ey;have ev:U[j]?=some (some v):=by
     have q:U.getD j none=some v:=Option.some.inj h2;rw[List.getD_eq_getElem?_getD]at q;cases e:U[j]? with
     | none=>rw[e]at q;cases q
     | some w'=>rw[e]at q;exact congrArg some q
    have kx:X.env.scope.names.lookup z=some .cell∨X.env.scope.names.lookup z=some .free:=k1;obtain⟨u,r,l⟩:=hl j z v hz ev (.inr kx);refine⟨u,r,.inr ⟨k2,?_⟩⟩;obtain⟨c,hc⟩:=S.has z k2;rcases l with ⟨kl,_⟩ | ⟨_,c',e',cell⟩
    . rcases k1 with k1 | k1 <;> rw[k1]at kl <;> cases kl
    have:c'=c:=Option.some.inj (e'.symm.trans (S.sub' hc));subst this;obtain⟨o,q1,q2⟩:=cell;exact⟨c',hc,o,hk _ _ q1,q2⟩
 cell:=fun y c h=>by
  obtain⟨v,o,q1,q2⟩:=I.cell y c (S.sub' h);exact⟨v,o,hk _ _ q1,q2⟩
 free:=I.hok.fresh (Nat.le_refl _)
 freeC:=fun y c h=>I.freeC y c (S.sub' h)
 pin:=fun p hp=>by
  have hp':p∈X.pn++pins:=by
   have q:p∈(X.pn++pins)++[]:=hp;rw[List.append_nil]at q;exact q
  obtain⟨e,n,ne,nf,d⟩:=I.pin p hp';refine⟨hk _ _ e,n,Nat.ne_of_lt (Heap.lt_size e),fun z=>?_,d⟩;rcases List.mem_cons.mp (I.stkSub p.1 z)with q | q
  . exact ne q
  exact nf q
 hok:=I.hok.kept hk
 len:=by
  show(gP os.length U js).length=N'.length;rw[S.nm];unfold gP;simp
end
def j1(n:Nat)(js:List Nat)(wi:TI)(gt:TG)(tt:TT)(te:TE):TE:=fun U H Q=>wi U H fun J H1=>∀ D,H1 D=none -> ∃ W:Nat->Nat->L2.St->Hp->Prop,(∃ m,W 0 m (gP n U js) (upd H1 D (.lst []))) /\
 ∀ i m U' H',W i m U' H'->(J.stop i H'/\Q (.ref D) H')∨(J.go i H' /\ ∀ x H2,J.yld i H' x H2->gt x U' H2 fun U2 H2'=>tt U2 H2' fun ok H3=>
   if ok=true then te U2 H3 fun y H4=>∃ ys,H4 D=some (.lst ys)/\ys.length < sizeLine /\ ∃ m',m' < m/\W (i+1) m' U2 (upd H4 D (.lst (ys++[y])))
   else ∃ m',m' < m/\W (i+1) m' U2 H3)
section
variable{X:Cx}{scope:Scope}{cl:List (Str×Addr)}{os:List Str}{js:List Nat}{N':List Str}{elt iter:Expr}{ifs:List Expr}{tgt:Expr}{pos:Pos}{wi:TI}{gt:TG}{tt:TT}{te:TE}
theorem j2{RR:Value->Addr->Result->Shared->Prop}{pins:List (Addr×Obj)}{U:L2.St}{H2:Hp}{s2:Shared}{Q:VK}{it:Addr}{fp:List Addr}{tn:Nat->Heap->Prop}{J:It}(S:be X scope cl os js N')(hc:X.calm=true)(hg:∀ s H fp pins,PG (aB X scope cl N' s H fp pins) tgt gt)
 (ht:∀ s H fp pins,PTs (aB X scope cl N' s H fp pins) ifs tt) (he:∀ s H fp pins,PE (aB X scope cl N' s H fp pins) elt te)
 (I2:Inv X pins U H2 s2) (T:oJ X.prog X.w X.K tgt J fp it tn) (st2:tn 0 s2.heap) (f2:∀ b∈fp,eF X pins H2 b)
 (k:∀ D,H2 D=none -> ∃ W:Nat->Nat->L2.St->Hp->Prop,(∃ m,W 0 m (gP os.length U js) (upd H2 D (.lst []))) /\
  ∀ i m U' H',W i m U' H'->(J.stop i H'/\Q (.ref D) H')∨(J.go i H' /\ ∀ x H2,J.yld i H' x H2->gt x U' H2 fun U2 H2'=>tt U2 H2' fun ok H3=>
    if ok=true then te U2 H3 fun y H4=>∃ ys,H4 D=some (.lst ys)/\ys.length < sizeLine /\ ∃ m',m' < m/\W (i+1) m' U2 (upd H4 D (.lst (ys++[y])))
    else ∃ m',m' < m/\W (i+1) m' U2 H3))
 (fin:∀(D C:Addr) (s6:Shared) (H6:Hp) (m:Str->Option Value),s6.heap.Ns C m->(∀ h',Heap.SameBut C s6.heap h'->Inv X pins U H6 { s6 with heap:=h' })->H6 C=none->eF X pins H6 C->Q (.ref D) H6->RR (.ref D) C (.ok .next) s6) :
 wpAny (model X.prog X.w) X.A (newList []) (fun acc s₃=>wpAny (model X.prog X.w) X.A (newFunctionEnv scope X.env.globals cl [] X.env.qual none .none (some X.env)) (fun cenv s₄=>
  codeAny (model X.prog X.w) X.A (.compStart (.ListComp elt [⟨tgt,iter,ifs,0⟩] scope pos) 0 (.ref it) acc { cenv with scope:=relabel scope X.env }) (RR acc cenv.locals) s₄) X.xe s₃) X.xe s2:=by
 have hDn:H2 s2.heap.objs.size=none:=I2.hok.fresh (Nat.le_refl _);obtain⟨W,⟨m0,w0⟩,turn⟩:=k s2.heap.objs.size hDn;refine wpAny_newObj_type (wpAny_newFunctionEnv S.nocell (by intro y hy;simp at hy) (fun h4 hns4 hsb4=>?_) S.kind) (by show 0<=sizeLine;exact Nat.zero_le _)
 have I3:Inv X pins U (upd H2 s2.heap.objs.size (.lst [])) { s2 with heap:=s2.heap.push { cls:=.type "list",dict:=none,data:=.seq ([]:List Value).toArray } }:=
  I2.laid (t':=s2.toks) (fun b u e=>Heap.get?_push_of_some _ e) (Nat.le_refl _) ⟨Nat.zero_le _,[],0,.nil,Heap.get?_push_size _ rfl⟩
 have ltf:∀ b∈fp,b < s2.heap.objs.size:=fun b hb=>let⟨o,e,_⟩:=T.obj 0 _ st2 b hb;Heap.lt_size e;have f3:∀ b∈fp,eF X pins (upd H2 s2.heap.objs.size (.lst [])) b:=fun b hb=>⟨by rw[af (Nat.ne_of_lt (ltf b hb))];exact(f2 b hb).1,(f2 b hb).2⟩
 generalize hH:upd H2 s2.heap.objs.size (.lst [])=H3 at *;generalize hS3:({ s2 with heap:=s2.heap.push { cls:=.type "list",dict:=none,data:=.seq ([]:List Value).toArray } }:Shared)=s3 at *;have o3:∀ b∈fp,b < s3.heap.objs.size:=fun b hb=>by
  rw[← hS3];show b < (s2.heap.push _).objs.size;rw[Heap.size_push];exact Nat.lt_succ_of_lt (ltf b hb)
 have k4:∀ b o,s3.heap.get? b=some o->h4.get? b=some o:=fun b o e=>(hsb4.2 b (Nat.ne_of_lt (Heap.lt_size e))).trans (Heap.get?_push_of_some _ e);have st3:tn 0 s3.heap:=T.keep 0 _ _ st2 fun b hb o e=>by rw[← hS3];exact Heap.get?_push_of_some _ e
 have st4:tn 0 h4:=T.keep 0 _ _ st3 fun b hb o e=>k4 b o e;have I4:Inv (aB X scope cl N' s3 H3 fp pins) [] (gP os.length U js) H3 { s3 with heap:=h4,toks:=s3.toks+([]:List (Str×Value)).length }:=qS S I3 f3 o3 rfl rfl hns4 k4;have ok:=nM S I3 f3 o3;have fp5:∀{H':Hp},(∀ b∈fp,H' b=none) -> ∀ b∈fp,eF (aB X scope cl N' s3 H3 fp pins) [] H' b:=fun hn b hb=>
  ⟨hn b hb,Nat.ne_of_lt (o3 b hb),ok.exfs b hb,.inl hb,fun y c h=>(f3 b hb).2.2.2.2.1 y c (S.sub' h),fun p hp=>(f3 b hb).2.2.2.2.2 p (by
   have q:p∈(X.pn++pins)++[]:=hp;rw[List.append_nil]at q;exact q)⟩
 have loop:codeAny (model X.prog X.w) X.A (.compLoop (.ListComp elt [⟨tgt,iter,ifs,0⟩] scope pos) 0 (.ref it) (.ref s2.heap.objs.size) (compEnvC scope cl s3.heap.objs.size X.env))
  (RR (.ref s2.heap.objs.size) s3.heap.objs.size) { s3 with heap:=h4,toks:=s3.toks+([]:List (Str×Value)).length }:=by
  refine kE (fun n s'=>∃ i U' H',Inv (aB X scope cl N' s3 H3 fp pins) [] U' H' s'/\tn i s'.heap/\(∀ b∈fp,H' b=none)/\W i n U' H') ?_ m0 ⟨0,_,_,I4,st4,fun b hb=>(f3 b hb).1,w0⟩;rintro n s5 ⟨i,U5,H5,I5,st5,fr5,w5⟩;rcases turn i n U5 H5 w5 with ⟨stop,q⟩ | ⟨go,step⟩
  . refine wpAny_mono (T.done (aB X scope cl N' s3 H3 fp pins) rfl rfl rfl hc i [] s5 U5 H5 (fun _ _=>False) I5 (fp5 fr5) st5 stop) (fun r s6 ⟨hr,I6⟩=>?_) (fun _ _ z=>z.elim)
    subst hr;obtain⟨m,hm,_⟩:=I6.loc;exact fin _ _ s6 H5 m hm (fun h' hs'=>kL I3 f3 I6 hs') I6.free (I3.fpOk (Nat.le_refl _) I6.free) q
  refine wpAny_mono (T.item (aB X scope cl N' s3 H3 fp pins) rfl rfl rfl hc i [] s5 U5 H5 (fun _ _=>False) I5 (fp5 fr5) st5 go) (fun r s6 ⟨u,hr,h6⟩=>?_) (fun _ _ z=>z.elim);subst hr;refine wpAny_mono h6 (fun _ s6 ⟨y,H6,I6,r6,y6,st6,fr6⟩=>?_) (fun _ _ z=>z.elim);have I6':=I6.pinned (fp5 fr6) (T.obj _ _ st6);have again:∀{U7:L2.St}{H7:Hp}{s7:Shared}{m':Nat},Inv (aB X scope cl N' s3 H3 fp pins) ([]++hZ fp s6.heap) U7 H7 s7->m' < n->W (i+1) m' U7 H7 ->
   ∃ m,m < n /\ ∃ i U' H',Inv (aB X scope cl N' s3 H3 fp pins) [] U' H' s7/\tn i s7.heap/\(∀ b∈fp,H' b=none)/\W i m U' H':=fun {U7 H7 s7 m'} I7 hm w7=>by
   refine⟨m',hm,i+1,U7,H7,I7.unpinned,T.keep _ _ _ st6 fun b hb o e=>(I7.pin (b,o) (List.mem_append_right _ (List.mem_append_right _ (cz hb e)))).1,fun b hb=>?_,w7⟩;obtain⟨o,e,d⟩:=T.obj _ _ st6 b hb;exact(I7.pin (b,o) (List.mem_append_right _ (List.mem_append_right _ (cz hb e)))).2.1
  have step':=step y H6 y6;refine wpAny_mono (hg s3 H3 fp pins _ s6 U5 H6 y u _ I6' r6 step') (fun _ s7 ⟨U7,H7,I7,step'⟩=>?_) (fun _ _ z=>z.elim);refine wpAny_mono (ht s3 H3 fp pins _ s7 _ H7 _ (fun _ _=>False) (fun _ _ z=>z) I7 step') (fun okk s8 ⟨H8,I8,q8⟩=>?_) (fun _ _ z=>z.elim);cases okk with
  | false=>
    obtain⟨m',hm,w8⟩:=q8;exact again I8 hm w8
  | true=>
    refine wpAny_mono (he s3 H3 fp pins _ s8 _ H8 _ I8 q8) (fun ev s9 ⟨z,H9,I9,r9,ys,hys,hlen,m',hm,w9⟩=>?_) (fun _ _ z=>z.elim);refine wpAny_mono (fu (X:=aB X scope cl N' s3 H3 fp pins) _ s9 _ H9 (.ref s2.heap.objs.size) [z] (.ref s2.heap.objs.size) [ev] (fun _ H'=>H'=upd H9 s2.heap.objs.size (.lst (ys++[z]))) I9 rfl (.cons r9 .nil)
     ⟨_,ys,z,rfl,rfl,hys,hlen,rfl⟩) (fun _ s10 ⟨_,H10,I10,_,e10⟩=>?_) (fun _ _ z=>z.elim)
    subst e10;exact again I10 hm w9
 exact codeAny_compStart_list loop (T.self X.A 0 _ _ _ st4 loop)
theorem vC(S:be X scope cl os js N')(hc:X.calm=true)(hg:∀ s H fp pins,PG (aB X scope cl N' s H fp pins) tgt gt)(hi:PI X tgt iter wi)
 (ht:∀ s H fp pins,PTs (aB X scope cl N' s H fp pins) ifs tt) (he:∀ s H fp pins,PE (aB X scope cl N' s H fp pins) elt te)
 (hs:∀ x,foldedSetIterable iter X.env x=pure x:=by intro _;rfl):PE X (.ListComp elt [⟨tgt,iter,ifs,0⟩] scope pos) (j1 os.length js wi gt tt te):=by
 intro pins s U H Q I h;rw[eval_ListComp];refine wpAny_comprehension_free (use:=none) rfl hs S.clos S.kind S.names (thn (hi pins s U H _ I h) fun v s1 h1=>thn h1 fun itv s2 h2=>?_);obtain⟨it,fp,tn,J,H2,e,I2,T,st2,f2,k⟩:=h2;subst e;exact j2 (RR:=fun acc C=>compPost (model X.prog X.w) X.A X.xe none (EP X pins U Q) acc C) S hc hg ht he I2 T st2 f2 k fun D C s6 H6 m hm back _ _ q=>⟨m,hm,fun h' hs'=>⟨.ref D,H6,back h' hs',rfl,q⟩⟩
end
namespace B
section
variable{X:Cx}{scope:Scope}{cl:List (Str×Addr)}{tgt:Expr}{N':List Str}{elt iter c:Expr}{pos:Pos}{wi:TI}{gt:TG}{te:TE}{tc:TT}{os:List Str}
theorem compN(os:List Str)(js:List Nat)(N':List Str)(S:be X scope cl os js N')(hi:Bx (PI X tgt iter wi))(hg:∀ s H fp pins,Bx (PG (aB X scope cl N' s H fp pins) tgt gt))(he:∀ s H fp pins,Bx (PE (aB X scope cl N' s H fp pins) elt te))(hc:X.calm=true:=by rfl)
 (hs:∀ x,foldedSetIterable iter X.env x=pure x:=by intro _;rfl):Bx (PE X (.ListComp elt [⟨tgt,iter,[],0⟩] scope pos) (j1 os.length js wi gt (fun _ H Q=>Q true H) te)):=
 ⟨vC S hc (fun s H fp pins=>(hg s H fp pins).out) hi.out (fun _ _ _ _=>iJ) (fun s H fp pins=>(he s H fp pins).out) hs⟩
end
end B
theorem be.of{X:Cx}{scope:Scope}{cl:List (Str×Addr)}{os:List Str}{js:List Nat}{N':List Str}(clos:closureFor scope X.env=pure cl)(kind:scope.kind=.function)(nocell:scope.names.all (fun y=>y.2 != .cell)=true)
 (names:scope.names.all (fun y=>y.2 != .local || scope.names.lookup y.1 == some .local)=true) (sub:kC X.env.cells cl)
 (has:(relabel scope X.env).names.all (fun p=>!j_ (some p.2) || (cl.lookup p.1).isSome)=true) (nm:N'=os++js.map fun j=>X.N.getD j Str.empty)
 (see:js.all (fun j=>match X.N[j]? with | some y=>j_ (X.env.kindOf y) && j_ ((relabel scope X.env).names.lookup y) | none=>false)=true):be X scope cl os js N' where
 clos:=clos
 kind:=kind
 nocell:=fun y hy=>by
  have:=List.all_eq_true.mp nocell y hy;exact bne_iff_ne.mp this
 names:=fun y hy e=>by
  have:=List.all_eq_true.mp names y hy;rw[e]at this;exact beq_iff_eq.mp (by simpa using this)
 sub:=sub.all
 has:=fun y h=>by
  have go:∀ k,(relabel scope X.env).names.lookup y=some k->j_ (some k)=true -> ∃ c,cl.lookup y=some c:=fun k hk hc=>by
   have:=List.all_eq_true.mp has (y,k) (PySem.mem_of_lookup hk);simp only[hc,Bool.not_true,Bool.false_or]at this;exact Option.isSome_iff_exists.mp this
  rcases h with h | h
  . exact go _ h rfl
  exact go _ h rfl
 nm:=nm
 see:=fun i j e=>by
  have:=List.all_eq_true.mp see j (List.mem_of_getElem? e);cases ey:X.N[j]? with
  | none=>rw[ey]at this;cases this
  | some y=>
    rw[ey]at this;rw[Bool.and_eq_true]at this;exact⟨y,rfl,iQ this.1,iQ this.2⟩
theorem wCompN{n:Nat}{U:L2.St}{H:Hp}{Q:VK}{js:List Nat}{wi:TI}{gt:TG}{tt:TT}{te:TE}(h:wi U H fun J H1=>∀ D,H1 D=none -> ∃ W:Nat->Nat->L2.St->Hp->Prop,(∃ m,W 0 m (gP n U js) (upd H1 D (.lst []))) /\
 ∀ i m U' H',W i m U' H'->(J.stop i H'/\Q (.ref D) H')∨(J.go i H' /\ ∀ x H2,J.yld i H' x H2->gt x U' H2 fun U2 H2'=>tt U2 H2' fun ok H3=>
   if ok=true then te U2 H3 fun y H4=>∃ ys,H4 D=some (.lst ys)/\ys.length < sizeLine /\ ∃ m',m' < m/\W (i+1) m' U2 (upd H4 D (.lst (ys++[y])))
   else ∃ m',m' < m/\W (i+1) m' U2 H3)):j1 n js wi gt tt te U H Q:=h
theorem j6{K:PySem.W.Frag}{a D:Addr}{xs:List V}{U0:L2.St}{H1:Hp}{gt:TG}{tt:TT}{te:TE}{Qf:Hp->Prop}(Pv:Nat->L2.St->Hp->Prop)(h0:Pv 0 U0 H1)(hl:∀ i U H,i<=xs.length->Pv i U H->SqL K H a xs)
 (step:∀ i x U' H',xs[i]?=some x->i < xs.length->Pv i U' H'->gt x U' H' fun U2 H2'=>tt U2 H2' fun ok H3=>if ok=true then te U2 H3 (fun y H4=>CN Pv xs.length i D U2 y H4)else CO Pv xs.length i U2 H3)
 (fin:∀ U H,Pv xs.length U H->Qf H) :
 ∃ W:Nat->Nat->L2.St->Hp->Prop,(∃ m,W 0 m U0 H1) /\ ∀ i m U' H',W i m U' H'->((Itl K a).stop i H'/\Qf H')∨((Itl K a).go i H' /\ ∀ x H2,(Itl K a).yld i H' x H2->gt x U' H2 fun U2 H2'=>tt U2 H2' fun ok H3=>
   if ok=true then te U2 H3 fun y H4=>∃ ys,H4 D=some (.lst ys)/\ys.length < sizeLine /\ ∃ m',m' < m/\W (i+1) m' U2 (upd H4 D (.lst (ys++[y])))
   else ∃ m',m' < m/\W (i+1) m' U2 H3):=by
 refine⟨fun i m U H=>m=xs.length - i/\i<=xs.length/\Pv i U H,⟨xs.length,by omega,Nat.zero_le _,h0⟩,?_⟩
 rintro i m U' H' ⟨rfl,hi,p⟩;have q:=hl i U' H' hi p;by_cases hlt:i < xs.length
 . refine .inr ⟨⟨xs,xs[i],q,by simp[hlt]⟩,fun x H2 y=>?_⟩
   obtain⟨rfl,y⟩:=y;exact step i x U' _ (y xs q) hlt p
 have e:i=xs.length:=by omega
 subst e;exact .inl ⟨⟨xs,q,Nat.le_refl _⟩,fin _ _ p⟩
namespace B
theorem gtupK(K:W.Frag){X:Cx}{es:List Expr}{pos:Pos}{kk n:Nat}{u:TGs}(h:Bx (PGs X es u))(hK:X.K=K:=by rfl)(hc:X.calm=true:=by rfl)(hn:(assignEach es X.env).length=n:=by rfl)(hst:(assignEach es X.env).findIdx? (·.1)=none:=by rfl):Bx (PG X (.Tuple es kk pos) (yd K n u)):=by
 subst hK;exact⟨vG hc h.out hn hst⟩
end B
section
variable{prog:Program}{w:World}{A:Around}{E:Value->Shared->Prop}{s:Shared}
end
section
variable{X:Cx}{elts:List Expr}{k:Nat}{tp:Pos}
end
namespace B
end B
theorem b_str:bootBuiltins "str"=some (.type "str"):=by decide +kernel
abbrev jK(H H':Hp):Prop:=∀ a xs,H a=some (.tup xs)->H' a=some (.tup xs)
theorem jK.same{H H':Hp}(s:ao H H'):jK H H':=fun a xs e=>s _ _ e
def vq(H:Hp)(v:V)(r:av):Prop:=∃ b ys,v=.ref b/\H b=some (.tup ys)/\Prs H ys r
def gA(H:Hp)(v:V)(R:aj):Prop:=∃ a xs,v=.ref a/\H a=some (.tup xs)/\Paired (vq H) xs R
def ElU(H:Hp)(v:V):Option aj->Prop
 | none=>v=.non
 | some E=>gA H v E
def StU(H:Hp)(v:V)(M:MT):Prop:=∃ a e w,v=.ref a/\H a=some (.tup [e,.int (M.mv:Nat),w])/\ElU H e M.el/\gA H w M.nw
theorem vq.keep{H H':Hp}{v:V}{r:av}(h:vq H v r)(k:jK H H'):vq H' v r:=by
 obtain⟨b,ys,e,hb,p⟩:=h;exact⟨b,ys,e,k _ _ hb,p.keep k⟩
theorem gA.keep{H H':Hp}{v:V}{R:aj}(h:gA H v R)(k:jK H H'):gA H' v R:=by
 obtain⟨b,ys,e,hb,p⟩:=h;exact⟨b,ys,e,k _ _ hb,Paired.mapP p fun _ _ z=>vq.keep z k⟩
theorem ElU.keep{H H':Hp}{v:V}{o:Option aj}(h:ElU H v o)(k:jK H H'):ElU H' v o:=by
 cases o with
 | none=>exact h
 | some E=>exact gA.keep h k
theorem StU.keep{H H':Hp}{v:V}{M:MT}(h:StU H v M)(k:jK H H'):StU H' v M:=by
 obtain⟨a,e,w,hv,ha,he,hw⟩:=h;exact⟨a,e,w,hv,k _ _ ha,he.keep k,hw.keep k⟩
def szE:Option aj->V
 | none=>.non
 | some E=>.int (E.length:Nat)
def jG(CS CT:Addr):Sp:=fun vs H Q _=>∃(p:Addr) (f m:Int) (pc:Nat) (M:MT) (tc:Int) (F:Addr->Prop),vs=[.ref p]/\Tb CS CT H p f m pc M tc F /\ ∀ a,H a=none->Q (.ref a) (upd H a (.tup [szE M.el,.int (M.nw.length:Nat)]))
def gu(CS CT:Addr):Sp:=fun vs H Q _=>∃(p:Addr) (f m:Int) (pc:Nat) (M:MT) (tc:Int) (F:Addr->Prop),vs=[.ref p]/\Tb CS CT H p f m pc M tc F/\Q (.int tc) H
section
variable{CS CT:Addr}{H:Hp}{Q:VK}{E:XK}{p:Addr}{f m:Int}{pc:Nat}{M:MT}{tc:Int}{F:Addr->Prop}
theorem xb(S:Tb CS CT H p f m pc M tc F)(q:∀ a,H a=none->Q (.ref a) (upd H a (.tup [szE M.el,.int (M.nw.length:Nat)]))):jG CS CT (V.ref p::([]++[])) H Q E:=⟨p,f,m,pc,M,tc,F,rfl,S,q⟩
theorem qY(S:Tb CS CT H p f m pc M tc F)(q:Q (.int tc) H):gu CS CT (V.ref p::([]++[])) H Q E:=⟨p,f,m,pc,M,tc,F,rfl,S,q⟩
end
theorem _root_.L2.SqT.but{K:W.Frag}{H H':Hp}{x C dx b:Addr}{fs:List (Str×V)}{ys:List V}(hx:H x=some (.ins C dx fs))(k:∀ c o,c≠x->H c=some o->H' c=some o)(h:SqT K H b ys):SqT K H' b ys:=by
 rcases h with (z | ⟨o,z⟩) | z
 . exact .inl (.inl (k _ _ (aR z hx (by intro z;cases z)) z))
 . exact .inl (.inr ⟨o,k _ _ (aR z hx (by intro z;cases z)) z⟩)
 exact .inr z
theorem iu.but{K:W.Frag}{H H':Hp}{x C dx a:Addr}{fs:List (Str×V)}{R:aj}(hx:H x=some (.ins C dx fs))(k:∀ c o,c≠x->H c=some o->H' c=some o)(h:iu K H a R):iu K H' a R:=by
 obtain⟨xs,hs,p⟩:=h;refine⟨xs,hs.but hx k,Paired.mapP p fun v r ⟨b,ys,e,hb,q⟩=>⟨b,ys,e,hb.but hx k,Paired.mapP q fun v p ⟨a,e,ha⟩=>⟨a,e,ha.but hx k⟩⟩⟩
theorem gA.rowsT{K:W.Frag}{H:Hp}{v:V}{R:aj}(h:gA H v R):∃ a,v=.ref a/\iu K H a R:=by
 obtain⟨a,xs,e,ha,p⟩:=h;exact⟨a,e,xs,SqT.of ha,Paired.mapP p fun v r ⟨b,ys,e,hb,q⟩=>⟨b,ys,e,SqT.of hb,Paired.mapP q fun v p ⟨a,e,ha⟩=>⟨a,e,SqT.of ha⟩⟩⟩
def ElT(K:W.Frag)(H:Hp)(v:V):Option aj->Prop
 | none=>v=.non
 | some E=>∃ a,v=.ref a/\iu K H a E
theorem ElU.elT{K:W.Frag}{H:Hp}{v:V}{o:Option aj}(h:ElU H v o):ElT K H v o:=by
 cases o with
 | none=>exact h
 | some E=>exact gA.rowsT h
def mB(CS CT:Addr):Sp:=fun vs H Q _=>∃(x t dx:Addr) (f m:Int) (pc:Nat) (v:V) (M:MT),vs=[.ref x,.ref t,.int pc,v]/\H x=some (.ins CT dx [])/\H t=some (.tup [.int f,.int m])/\(0<=f/\f<=65535)/\TOk f m M/\cnt M<=5000/\(v=.non/\M=M0∨StU H v M) /\
 ∀ H' F,Tb CS CT H' x f m pc M 0 F->(∀ b,F b->b=x∨H b=none)->(∀ b o,b≠x->H b=some o->H' b=some o)->Q .non H'
section
variable{CS CT:Addr}{H:Hp}{Q:VK}{E:XK}{f m:Int}
theorem wG{Qf:Addr->Hp->Prop}{t:Addr}{n:Int}{v:V}{M:MT}(ht:H t=some (.tup [.int f,.int m]))(bf:0<=f/\f<=65535)(n0:0<=n)(T:TOk f m M)(hc:cnt M<=5000)(hv:v=.non/\M=M0∨StU H v M)
 (q:∀ p H' F,Tb CS CT H' p f m n.toNat M 0 F->(∀ b,F b->H b=none)->ao H H'->Qf p H') :
 ∀ x dx,H x=none->H dx=none->dx≠x->mB CS CT (V.ref x::([V.ref t,V.int n,v]++[])) (upd (upd H dx (.own x)) x (.ins CT dx [])) (fun v H2=>v=.non/\Qf x H2) E:=fun x dx hx hdx hne=>by
 have s0:ao H (upd (upd H dx (.own x)) x (.ins CT dx [])):=(ao.new hdx).trans (ao.new (by rw[af hne.symm];exact hx))
 refine⟨x,t,dx,f,m,n.toNat,v,M,by rw[Int.toNat_of_nonneg n0];rfl,aa,s0 _ _ ht,bf,T,hc,hv.imp id (fun u=>u.keep (jK.same s0)),fun H' F S g k=>⟨rfl,q x H' F S (fun b hb=>?_) fun b o e=>k b o (ah e hx) (s0 b o e)⟩⟩
 rcases g b hb with rfl | z
 . exact hx
 exact s0.free z
end
theorem jk{f m:Int}{N:aj}{j:Nat}(hj:j < N.length):∀(r p:av),ROk (p++r)->(∀ q∈r,plc f m N.length q.1=j)->aI f m (N.set j p) r=N.set j (p++r)
 | [],p,_,_=>by rw[List.append_nil];rfl
 | q::r,p,ok,h=>by
   show aI f m (b_ f m (N.set j p) q.1 q.2) r=_;have e1:plc f m (N.set j p).length q.1=j:=by rw[List.length_set];exact h q (List.mem_cons_self ..)
   have e2:dn f m (N.set j p) q.1=p:=by
    unfold dn;rw[e1,ff hj,if_pos rfl]
   have e3:ax p q.1=none:=(bh q.1).mpr fun z=>by
    have ok':(p.map (·.1)++(q::r).map (·.1)).Nodup:=by rw[← List.map_append];exact ok
    exact(List.nodup_append.mp ok').2.2 _ z _ (List.mem_map.mpr ⟨q,List.mem_cons_self ..,rfl⟩) rfl
   have e4:b_ f m (N.set j p) q.1 q.2=N.set j (p++[q]):=by
    unfold b_;rw[e1,e2,gJ e3,List.set_set]
   have e5:p++q::r=(p++[q])++r:=by simp
   rw[e4,e5];exact jk hj r (p++[q]) (by rw[← e5];exact ok) fun x hx=>h x (List.mem_cons_of_mem _ hx)
theorem qd{f m:Int}{n:Nat}:∀(R A:aj),A.length+R.length=n->(∀(i:Nat) r,R[i]?=some r->ROk r /\ ∀ p∈r,plc f m n p.1=A.length+i)->R.foldl (fun N r=>aI f m N r) (A++List.replicate R.length [])=A++R
 | [],A,_,_=>rfl
 | r::R,A,hn,h=>by
   have h0:=h 0 r rfl;show R.foldl _ (aI f m (A++List.replicate (R.length+1) []) r)=_;have hl:(A++List.replicate (R.length+1) ([]:av)).length=n:=by
    rw[List.length_append,List.length_replicate];rw[List.length_cons]at hn;exact hn
   have hj:A.length < (A++List.replicate (R.length+1) ([]:av)).length:=by
    rw[List.length_append,List.length_replicate];omega
   have es:∀ x:av,(A++List.replicate (R.length+1) ([]:av)).set A.length x=(A++[x])++List.replicate R.length []:=fun x=>by
    rw[List.set_append_right _ _ (Nat.le_refl _),Nat.sub_self,List.replicate_succ,List.set_cons_zero,List.append_assoc]
    rfl
   have e0:(A++List.replicate (R.length+1) ([]:av)).set A.length []=A++List.replicate (R.length+1) []:=by
    rw[es,List.replicate_succ,List.append_assoc]
    rfl
   have e1:=jk (f:=f) (m:=m) hj r [] h0.1 (fun q hq=>by rw[hl];exact h0.2 q hq)
   rw[e0,es]at e1;rw[e1];have ih:=qd (f:=f) (m:=m) (n:=n) R (A++[r]) (by rw[List.length_append];rw[List.length_cons]at hn;show A.length+1+R.length=n;omega) fun i q e=>by
    have:=h (i+1) q e;refine⟨this.1,fun p hp=>?_⟩;rw[this.2 p hp,List.length_append];show _=A.length+1+i;omega
   rw[show([]++r:av)=r from rfl,ih,List.append_assoc]
   rfl
theorem pX{f m:Int}{R:aj}(P:POk f m R):laid f m R=R:=
 qd (n:=R.length) R [] (Nat.zero_add _) fun i r e=>⟨P.ok r (List.mem_of_getElem? e),fun p hp=>by rw[P.at_ i r p e hp];exact(Nat.zero_add _).symm⟩
def shp(M:MT):Option Nat×Nat×Nat:=(M.el.map List.length,M.mv,M.nw.length)
theorem xa{f m:Int}{M:MT}{k v:Int}:shp (putAt f m M k v)=shp M:=by
 unfold putAt;cases e:M.el with
 | none=>unfold shp;simp only[e,bH]
 | some E=>
   simp only[];split
   . unfold shp;simp only[e,bH]
   unfold shp;simp only[e,Option.map,bH]
theorem xA{f m:Int}{M:MT}{k:Int}:shp (bY f m M k)=shp M:=by
 unfold bY;cases e:M.el with
 | none=>unfold shp;simp only[e,cM]
 | some E=>
   simp only[];split
   . unfold shp;simp only[e,cM]
   unfold shp;simp only[e,Option.map,cM]
section
variable{CS CT:Addr}{H H':Hp}{p p2:Addr}{f m f2 m2:Int}{pc pc2:Nat}{M M2:MT}{tc tc2:Int}{F F' G:Addr->Prop}
end
theorem wSeqC{D:fJ}{U:L2.St}{H:Hp}{t u:TS}(h:∀ N:L2.St->Hp->Prop,N=u D->t { D with nx:=N } U H):rN t u D U H:=h _ rfl
theorem wGo{N N':L2.St->Hp->Prop}{U:L2.St}{H:Hp}(e:N=N')(h:N' U H):N U H:=e ▸ h
@[elab_as_elim] theorem len0{α:Type}{P:List α -> Prop}(us:List α)(hl:us.length=0)(h:Unit->P []):P us:=by
  cases us with
  | nil=>exact h ()
  | cons a l=>cases hl
@[elab_as_elim] theorem len1{α:Type}{P:List α -> Prop}(us:List α)(hl:us.length=1)(h:∀ a,P [a]):P us:=by
  cases us with
  | nil=>cases hl
  | cons a l=>exact len0 (P:=fun l=>P (a::l)) l (Nat.succ.inj hl) fun _=>h a
@[elab_as_elim] theorem len2{α:Type}{P:List α -> Prop}(us:List α)(hl:us.length=2)(h:∀ a b,P [a,b]):P us:=by
  cases us with
  | nil=>cases hl
  | cons a l=>exact len1 (P:=fun l=>P (a::l)) l (Nat.succ.inj hl) fun b=>h a b
@[elab_as_elim] theorem len3{α:Type}{P:List α -> Prop}(us:List α)(hl:us.length=3)(h:∀ a b c,P [a,b,c]):P us:=by
  cases us with
  | nil=>cases hl
  | cons a l=>exact len2 (P:=fun l=>P (a::l)) l (Nat.succ.inj hl) fun b c=>h a b c
@[elab_as_elim] theorem len4{α:Type}{P:List α -> Prop}(us:List α)(hl:us.length=4)(h:∀ a b c d,P [a,b,c,d]):P us:=by
  cases us with
  | nil=>cases hl
  | cons a l=>exact len3 (P:=fun l=>P (a::l)) l (Nat.succ.inj hl) fun b c d=>h a b c d
@[elab_as_elim] theorem len5{α:Type}{P:List α -> Prop}(us:List α)(hl:us.length=5)(h:∀ a b c d e,P [a,b,c,d,e]):P us:=by
  cases us with
  | nil=>cases hl
  | cons a l=>exact len4 (P:=fun l=>P (a::l)) l (Nat.succ.inj hl) fun b c d e=>h a b c d e
theorem walkX{q:Program}{loose:List Str}{XP:(Str->Option Value)->Heap->Prop}{K:Params->W.Frag}{as:List Addr}{n t:Nat}{r:W.RowW}{d:DefRec}{kwd:List (Str×Expr)}{run:Value->List Value->Sem Value}
 (e:∀ P,as=(K P).map (·.1)) (h:W.WalkO q loose XP (W.InK K) r d kwd run):W.WalkX q loose XP (W.X.obsZ as) (W.X.valZ K n t) r d kwd run:=
 fun w s₀ s₁ mg mb G y a o pm cd doc dV kV ho hd hcd hD hmg hg args vals as' L hpre=>h w s₀ s₁ mg mb G (W.InK.keeps w _ _ (W.X.z_facts e y).2.1 (W.Laid.keeps L)) a o pm cd doc dV kV ho hd hcd hD hmg hg args vals as' hpre
def Cut(M:L2.St->Hp->Prop)(G:(L2.St->Hp->Prop)->Prop):Prop:=∀ N,N=M->G N
theorem wCut{M:L2.St->Hp->Prop}{G:(L2.St->Hp->Prop)->Prop}(h:∀ N,N=M->G N):Cut M G:=h
theorem fj{K:PySem.W.Frag}{a:Addr}{xs:List V}{g:TG}{tb:TS}{D:fJ}{U:L2.St}{H:Hp}(Pv:Nat->L2.St->Hp->Prop)(h0:Pv 0 U H)(hl:∀ i U H,i<=xs.length->Pv i U H->SqL K H a xs)
 (hs:∀ i x U H,xs[i]?=some x->Pv i U H->Cut (Pv (i+1)) fun N=>g x U H fun U2 H2=>tb { D with nx:=N,ct:=N,bk:=D.nx } U2 H2) (hd:∀ U H,Pv xs.length U H->D.nx U H) :
 ∃ W:Nat->Nat->L2.St->Hp->Prop,(∃ m,W 0 m U H) /\ ∀ i m U H,W i m U H ->
   ((Itl K a).stop i H/\D.nx U H)∨((Itl K a).go i H /\ ∃ N:L2.St->Hp->Prop,(∀ U' H',N U' H' -> ∃ m',m' < m/\W (i+1) m' U' H') /\ ∀ x H',(Itl K a).yld i H x H'->g x U H' fun U2 H2=>tb { D with nx:=N,ct:=N,bk:=D.nx } U2 H2):=
 nR Pv h0 hl (fun i x U H e p=>hs i x U H e p _ rfl) hd
theorem rC{lo:Int}{n:Nat}{g:TG}{tb:TS}{D:fJ}{U:L2.St}{H:Hp}(Pv:Nat->L2.St->Hp->Prop)(h0:Pv 0 U H)
 (hs:∀ i U H,i < n->Pv i U H->Cut (Pv (i+1)) fun N=>g (.int (lo+i)) U H fun U2 H2=>tb { D with nx:=N,ct:=N,bk:=D.nx } U2 H2) (hd:∀ U H,Pv n U H->D.nx U H) :
 ∃ W:Nat->Nat->L2.St->Hp->Prop,(∃ m,W 0 m U H) /\ ∀ i m U H,W i m U H ->
   ((Itr lo n).stop i H/\D.nx U H)∨((Itr lo n).go i H /\ ∃ N:L2.St->Hp->Prop,(∀ U' H',N U' H' -> ∃ m',m' < m/\W (i+1) m' U' H') /\ ∀ x H',(Itr lo n).yld i H x H'->g x U H' fun U2 H2=>tb { D with nx:=N,ct:=N,bk:=D.nx } U2 H2):=
 lI Pv h0 (fun i U H e p=>hs i U H e p _ rfl) hd
section
variable{K:W.Frag}{H:Hp}{p C dx:Addr}{fs:List (Str×V)}{v:V}{f:Str}
theorem bA{R:Addr->Addr->V->Prop}(hp:H p=some (.ins C dx fs))(hc:Cls K C)(hn:bz K C f)(hl:fs.lookup f=some v)(h:R p C v):∃ a C dx fs v,V.ref p=.ref a/\H a=some (.ins C dx fs)/\Cls K C/\bz K C f/\fs.lookup f=some v/\R a C v:=⟨p,C,dx,fs,v,rfl,hp,hc,hn,hl,h⟩
theorem dD{R:Addr->Addr->Addr->List (Str×V)->Prop}(hp:H p=some (.ins C dx fs))(hc:Cls K C)(hn:bz K C f)(hl:fs.length < 1000)(h:R p C dx fs):∃ a C dx fs,V.ref p=.ref a/\H a=some (.ins C dx fs)/\Cls K C/\bz K C f/\fs.length < 1000/\R a C dx fs:=⟨p,C,dx,fs,rfl,hp,hc,hn,hl,h⟩
theorem yb{x:V}{T:String}{t:Value}{b:Bool}{R:Bool->Prop}(ty:gi K H x t)(e:W.kitOne K t (.type T)=some b)(h:R b):∃ x' T' t' b',[x,V.ty T]=[x',V.ty T']/\gi K H x' t'/\W.kitOne K t' (.type T')=some b'/\R b':=⟨x,T,t,b,rfl,ty,e,h⟩
theorem eS{l:Addr}{ys:List V}{R:List V->Prop}(h1:SqL K H l ys∨SqT K H l ys)(h:R ys):∃ p ys,[V.ref l]=[V.ref p]/\(SqL K H p ys∨SqT K H p ys)/\R ys:=⟨l,ys,rfl,h1,h⟩
end
section
variable{CS CT:Addr}{H:Hp}{Q:VK}{E:XK}{p:Addr}{k f m:Int}{pc:Nat}{M:MT}{tc:Int}{F:Addr->Prop}
theorem yw(S:Tb CS CT H p f m pc M tc F)(T:TOk f m M)(hp:pc<=1000)(hc:cnt M<=4000∨M.el=none)(q:∀ H' F',Tb CS CT H' p f m pc (a_ f m pc M) (tch f m pc M k) F'->Gr H F F'->Fr F H H'->Q .non H'):nB CS CT (V.ref p::([V.int k]++[])) H Q E:=⟨p,k,f,m,pc,M,tc,F,rfl,S,T,hp,hc,q⟩
theorem oQ{t n:Addr}{v:V}{FN FE:Addr->Prop}(X:TbX CS CT H p f m pc M tc t n v FN FE)(q1:∀ E,M.el=some E->au f m E k≠none->Q v H)(q2:onE f m M k=none->Q (.ref n) H):gC CS CT (V.ref p::([V.int k]++[])) H Q E:=⟨p,k,f,m,pc,M,tc,t,n,v,FN,FE,rfl,X,q1,q2⟩
theorem mh(S:Tb CS CT H p f m pc M tc F)(hs:ay M.nw.length)(q:∀ H' F',Tb CS CT H' p f m pc (beg M) tc F'->Gr H F F'->Fr F H H'->Q .non H'):cJ CS CT (V.ref p::([]++[])) H Q E:=⟨p,f,m,pc,M,tc,F,rfl,S,hs,q⟩
theorem ye(S:Tb CS CT H p f m pc M tc F)(q:Q (.int (cA M.nw:Nat)) H):l_ CS CT (V.ref p::([]++[])) H Q E:=⟨p,f,m,pc,M,tc,F,rfl,S,q⟩
theorem AW(S:Tb CS CT H p f m pc M tc F)(T:TOk f m M)(hp:pc<=1000)(q:∀ l H',ao H H'->H l=none->H' l=some (.lst ((ic M.mv (due pc M)).map V.int))->Q (.ref l) H'):ol CS CT (V.ref p::([]++[])) H Q E:=⟨p,f,m,pc,M,tc,F,rfl,S,T,hp,q⟩
theorem BQ(S:Tb CS CT H p f m pc M tc F)(q:∀ H' F',Tb CS CT H' p f m pc (j9 M) tc F'->Gr H F F'->Fr F H H'->Q .non H'):oU CS CT (V.ref p::([]++[])) H Q E:=⟨p,f,m,pc,M,tc,F,rfl,S,q⟩
theorem sC(S:Tb CS CT H p f m pc M tc F)(q:Q (.bl (ci f m M k)) H):g_ CS CT (V.ref p::([V.int k]++[])) H Q E:=⟨p,k,f,m,pc,M,tc,F,rfl,S,q⟩
theorem lE{t n:Addr}{v:V}{FN FE:Addr->Prop}(X:TbX CS CT H p f m pc M tc t n v FN FE)(q:∀ l,H l=none->Q (.ref l) (upd H l (.lst (match M.el with | none=>[.ref n] | some _=>[v,.ref n])))):eJ CS CT (V.ref p::([]++[])) H Q E:=⟨p,f,m,pc,M,tc,t,n,v,FN,FE,rfl,X,q⟩
theorem oG{R:aj}{t L:Addr}{ds:List Addr}(X:ShX CS H p f m R t L ds)(q:∀ d,ds[plc f m R.length k]?=some d->Q (.ref d) H):gK CS (V.ref p::([V.int k]++[])) H Q E:=⟨p,k,f,m,R,t,L,ds,rfl,X,q⟩
end
theorem fs{N P:List Str}{sc:Scope}(a:sc.kind=.function:=by rfl)(b:sc.isCoroutine=false:=by rfl)(c:sc.isGenerator=false:=by rfl)(d:N.Nodup:=by decide +kernel)(e:N.take P.length=P:=by rfl)(f:∀ x∈P,sc.names.lookup x=some .local∨sc.names.lookup x=some .cell:=by decide +kernel)(h:∀ y∈sc.names,y.2 ≠ .free:=by decide +kernel):am N P sc:=⟨a,b,c,d,e,f,h⟩
theorem bd1{K:W.Frag}{x qual p0:Str}{st:Stmt}{f:Addr}{fd:FuncData}(F:Fun K x qual st f fd)(h:∀(kV doc pm:Value) (an:Option Addr) (cdv ct:Value) (a0:Value),bindArgs (W.fnOf x qual (cb st) (bv st) (ae st) .none kV doc pm an cdv ct) ⟨[a0],[]⟩=pure ([(p0,a0)]):=by intros;rfl):bW K fd [p0] []:=F.binds fun _ _ _ _ _ _ us hl=>len1 us hl fun a0=>h _ _ _ _ _ _ a0
theorem bd2{K:W.Frag}{x qual p0 p1:Str}{st:Stmt}{f:Addr}{fd:FuncData}(F:Fun K x qual st f fd)(h:∀(kV doc pm:Value) (an:Option Addr) (cdv ct:Value) (a0 a1:Value),bindArgs (W.fnOf x qual (cb st) (bv st) (ae st) .none kV doc pm an cdv ct) ⟨[a0,a1],[]⟩=pure ([(p0,a0),(p1,a1)]):=by intros;rfl):bW K fd [p0,p1] []:=F.binds fun _ _ _ _ _ _ us hl=>len2 us hl fun a0 a1=>h _ _ _ _ _ _ a0 a1
theorem bd3{K:W.Frag}{x qual p0 p1 p2:Str}{st:Stmt}{f:Addr}{fd:FuncData}(F:Fun K x qual st f fd)(h:∀(kV doc pm:Value) (an:Option Addr) (cdv ct:Value) (a0 a1 a2:Value),bindArgs (W.fnOf x qual (cb st) (bv st) (ae st) .none kV doc pm an cdv ct) ⟨[a0,a1,a2],[]⟩=pure ([(p0,a0),(p1,a1),(p2,a2)]):=by intros;rfl):bW K fd [p0,p1,p2] []:=F.binds fun _ _ _ _ _ _ us hl=>len3 us hl fun a0 a1 a2=>h _ _ _ _ _ _ a0 a1 a2
theorem bd4{K:W.Frag}{x qual p0 p1 p2 p3:Str}{st:Stmt}{f:Addr}{fd:FuncData}(F:Fun K x qual st f fd)(h:∀(kV doc pm:Value) (an:Option Addr) (cdv ct:Value) (a0 a1 a2 a3:Value),bindArgs (W.fnOf x qual (cb st) (bv st) (ae st) .none kV doc pm an cdv ct) ⟨[a0,a1,a2,a3],[]⟩=pure ([(p0,a0),(p1,a1),(p2,a2),(p3,a3)]):=by intros;rfl):bW K fd [p0,p1,p2,p3] []:=F.binds fun _ _ _ _ _ _ us hl=>len4 us hl fun a0 a1 a2 a3=>h _ _ _ _ _ _ a0 a1 a2 a3
theorem bd5{K:W.Frag}{x qual p0 p1 p2 p3 p4:Str}{st:Stmt}{f:Addr}{fd:FuncData}(F:Fun K x qual st f fd)(h:∀(kV doc pm:Value) (an:Option Addr) (cdv ct:Value) (a0 a1 a2 a3 a4:Value),bindArgs (W.fnOf x qual (cb st) (bv st) (ae st) .none kV doc pm an cdv ct) ⟨[a0,a1,a2,a3,a4],[]⟩=pure ([(p0,a0),(p1,a1),(p2,a2),(p3,a3),(p4,a4)]):=by intros;rfl):bW K fd [p0,p1,p2,p3,p4] []:=F.binds fun _ _ _ _ _ _ us hl=>len5 us hl fun a0 a1 a2 a3 a4=>h _ _ _ _ _ _ a0 a1 a2 a3 a4
section
variable{X:Cx}{elts:List Expr}{k:Nat}{tp:Pos}
end
namespace B
end B
theorem walks_list{prog:Program}{w:World}{A:Around}(hh:A.handled=none)(I l:Addr)(hne:l≠I)(items:Array Value):Walks prog w A I [I,l] [I] items.size (fun i v=>items[i]?=some v) (fun i h=>h.IsListIter I l i/\h.IsList l items) where
 sub:=by simp
 frame:=fun i h h' st k=>⟨st.1.at fun o e=>k I (by simp) o e,st.2.at fun o e=>k l (by simp) o e⟩
 item:=fun i s Q E hi st hQ=>by
  refine wpAny_pyNext_list_item st.1 st.2 (x:=items[i]) (by simp[hi]) fun h' a sb=>?_
  exact hQ items[i] h' s.toks (by simp[hi]) ⟨a,st.2.extBut sb.extBut hne⟩ fun b o hb e=>sb.extBut b o (fun z=>hb (by simp[z])) e
 done:=fun s Q E st hQ=>by
  refine wpAny_pyNext_list_end hh st.1 st.2 (by simp) fun h' kk=>?_
  exact hQ h' s.toks fun b o hb e=>kk b o (fun z=>hb (by simp[z])) e
 self:=fun i s Q E st hQ=>wpAny_pyIter_listiter st.1 hQ
theorem nT:∀ bs:List Bool,(List.range bs.length).all (fun i=>bs.getD i false)=bs.all id
 | []=>rfl
 | b::bs=>by
   rw[List.length_cons,List.range_succ_eq_map,List.all_cons,List.all_map,List.all_cons]
   congr 1
   exact nT bs
theorem b_all:bootBuiltins "all"=some (.builtin "all"):=by decide +kernel
theorem lA{X:Cx}:bR X (.builtin "all") (fun xs H Q=>∃ l bs,xs=[.ref l]/\SqL X.K H l (List.map V.bl bs)/\X.calm=true/\Q (.bl (List.all bs id)) H):=by
 intro pins s U H xs us Q I r h;obtain⟨l,bs,rfl,hl,hc,q⟩:=h;obtain⟨u,rfl,rx⟩:=cZ r;cases rx;obtain⟨its,rv,pl,_⟩:=I.list hl;have le:=rv.length;rw[List.length_map]at le;have hv:∀(i:Nat) v,its[i]?=some v->v=.bool (bs.getD i false):=fun i v e=>by
  have hi:i < its.length:=(List.getElem?_eq_some_iff.mp e).1;obtain⟨u,hu,ru⟩:=rv.get (i:=i) (x:=V.bl bs[i]) (by simp[le ▸ hi])
  rw[e]at hu;cases hu;rw[show v=Value.bool bs[i]from ru,List.getD_eq_getElem?_getD,List.getElem?_eq_getElem (by omega)]
  rfl
 have lt:l < s.heap.objs.size:=by
  obtain⟨o,e,_⟩:=pl.isList;exact Heap.lt_size e
 have W:=walks_list (prog:=X.prog) (w:=X.w) (A:=X.A.in1) (show X.A.in1.handled=none from I.ok.hd hc) s.heap.objs.size l (Nat.ne_of_lt lt) its.toArray;refine call_all_walk (wpAny_pyIter_list pl.isList ⟨_,_,_,_,_,_,fun i=>bs.getD i false,rfl,W,And.intro ?_ ?_,?_,fun h' tk hk=>?_⟩)
 . exact⟨_,Heap.get?_push_size _ rfl,rfl,rfl⟩
 . exact pl.isList.push _
 . intro i v s' Q' E' hp hq
   rw[hv i v (by simpa using hp)]
   exact wpAny_truthy_bool hq
 have ea:(List.range its.toArray.size).all (fun i=>bs.getD i false)=bs.all id:=by
  rw[List.size_toArray,← le];exact nT bs
 rw[ea];refine⟨.bl (bs.all id),H,I.kept (t':=tk) (fun b o e=>hk b o (fun z=>?_) (Heap.get?_push_of_some _ e)),rfl,q⟩;rw[List.mem_singleton]at z;subst z;exact absurd (Heap.lt_size e) (Nat.lt_irrefl _)
theorem b_sorted:bootBuiltins "sorted"=some (.builtin "sorted"):=by decide +kernel
section
variable{prog:Program}{w:World}{A:Around}{E:Value->Shared->Prop}{s:Shared}{T:String}{r d:Addr}{n:Nat}{P:Nat->Value->Prop}{OK:Heap->Prop}
theorem me{R:Result->Shared->Prop}(K:W.KdlSrc prog w T r d n P OK)(hh:A.handled=none)(hok:OK s.heap)(hn:n<=sizeLine)
 (hR:∀ h' tk acc' c',(∀ b o,s.heap.get? b=some o->h'.get? b=some o)->h'.get? s.heap.objs.size=some { cls:=.type "list",dict:=none,data:=.seq acc' c',slots:=#[] } -> ItemsOf P acc' n->R (.ok (.ret (.ref s.heap.objs.size))) { s with heap:=h',toks:=tk }) :
 codeAny (model prog w) A (.builtin "proto.collect" ⟨[.ref r],[]⟩) R s:=by
 have hlt:=K.there _ hok;refine codeAny_builtin PySem.F.entry_proto_collect ?_;rw[Around.under_plainId PySem.F.plain_proto_collect _];show wpAny _ A.in1 (newList [] >>= fun l=>again (.builtin "list.__iadd__" ⟨[l,.ref r],[]⟩)) _ _ s;refine wpAny_bind (wpAny_newObj_type ?_);refine wpAny_pure ⟨plainId_quiet PySem.F.plain_list_iadd _,codeAny_builtin PySem.F.entry_list_iadd ?_⟩;rw[Around.under_plainId PySem.F.plain_list_iadd _];have hS₁:(s.heap.push { cls:=.type "list",data:=.seq ([]:List Value).toArray }).get? s.heap.objs.size=some { cls:=.type "list",data:=.seq ([]:List Value).toArray }:=Heap.get?_push_size _ rfl;exact W.kdl_extend (A:=A) (R:=R) (s:={ s with heap:=s.heap.push { cls:=.type "list",data:=.seq ([]:List Value).toArray } }) K hh (K.keep _ _ hok fun b _ o e=>Heap.get?_push_of_some _ e) _ (Nat.ne_of_gt hlt.1) (Nat.ne_of_gt hlt.2) (.ref s.heap.objs.size) _ hS₁ (fun h' tk acc' c' hk hS' hacc=>
  hR h' tk acc' c' (fun b o e=>hk b o (Nat.ne_of_lt (Heap.lt_size e)) (Heap.get?_push_of_some _ e)) hS' hacc) hn
theorem mR{Q:List Value->Shared->Prop}(K:W.KdlSrc prog w T r d n P OK)(hh:A.handled=none)(hok:OK s.heap)(hn:n<=sizeLine)
 (h:∀ h' tk (acc:Array Value),(∀ b o,s.heap.get? b=some o->h'.get? b=some o)->s.heap.objs.size < h'.objs.size->ItemsOf P acc n->Q acc.toList { s with heap:=h',toks:=tk }) :
 wpAny (model prog w) A (collect (.ref r)) Q E s:=by
 unfold collect;refine wpAny_bind (wpAny_runValue (me K hh hok hn fun h' tk acc' c' hk hS' hacc=>?_));show wpAny _ A (load s.heap.objs.size >>= _) _ _ _;refine wpAny_bind (wpAny_load hS' ?_);exact wpAny_pure (h h' tk acc' hk (Heap.lt_size hS') hacc)
end
theorem qh:∀(ns:List Int) (vs:List Value),vs.length=ns.length->(∀(i:Nat) v,vs[i]?=some v -> ∃ n t,ns[i]?=some n/\v=.int n t)->IntsAre vs ns
 | [],[],_,_=>.nil
 | [],_::_,h,_=>by simp at h
 | _::_,[],h,_=>by simp at h
 | n::ns,v::vs,h,g=>by
   obtain⟨k,t,e,rfl⟩:=g 0 v rfl;cases (Option.some.inj e);exact .cons n t (qh ns vs (by simpa using h) fun i v e=>by simpa using g (i+1) v (by simpa using e))
theorem hW:∀{vs:List Value}{ns:List Int},IntsAre vs ns->aH (ns.map V.int) vs
 | _,_,.nil=>.nil
 | _,_,.cons n t r=>.cons ⟨t,rfl⟩ (hW r)
section
variable{X:Cx}{e st:Expr}{te ts:TE}{pos p2:Pos}
end
section
variable{K:W.Frag}{a D:Addr}{xs:List V}{U0:L2.St}{H1:Hp}{gt:TG}{tt:TT}{te:TE}
theorem nA{Qf:Hp->Prop}(Pv:Nat->L2.St->Hp->Prop)(h0:Pv 0 U0 H1)(hl:∀ i U H,i<=xs.length->Pv i U H->SqT K H a xs)
 (step:∀ i x U' H',xs[i]?=some x->i < xs.length->Pv i U' H'->tt (U'.set 0 (some x)) H' fun ok H3=>if ok=true then te (U'.set 0 (some x)) H3 (fun y H4=>CN Pv xs.length i D (U'.set 0 (some x)) y H4)else CO Pv xs.length i (U'.set 0 (some x)) H3)
 (fin:∀ U H,Pv xs.length U H->Qf H) :
 ∃ W:Nat->Nat->L2.St->Hp->Prop,(∃ m,W 0 m U0 H1) /\ ∀ i m U' H',W i m U' H'->((Itt K a).stop i H'/\Qf H')∨((Itt K a).go i H' /\ ∀ x H2,(Itt K a).yld i H' x H2->tt (U'.set 0 (some x)) H2 fun ok H3=>
   if ok=true then te (U'.set 0 (some x)) H3 fun y H4=>∃ ys,H4 D=some (.lst ys)/\ys.length < sizeLine /\ ∃ m',m' < m/\W (i+1) m' (U'.set 0 (some x)) (upd H4 D (.lst (ys++[y])))
   else ∃ m',m' < m/\W (i+1) m' (U'.set 0 (some x)) H3):=by
 refine⟨fun i m U H=>m=xs.length - i/\i<=xs.length/\Pv i U H,⟨xs.length,by omega,Nat.zero_le _,h0⟩,?_⟩
 rintro i m U' H' ⟨rfl,hi,p⟩;have q:=hl i U' H' hi p;by_cases hlt:i < xs.length
 . refine .inr ⟨⟨xs,xs[i],q,by simp[hlt]⟩,fun x H2 y=>?_⟩
   obtain⟨rfl,y⟩:=y;exact step i x U' _ (y xs q) hlt p
 have e:i=xs.length:=by omega
 subst e;exact .inl ⟨⟨xs,q,Nat.le_refl _⟩,fin _ _ p⟩
end
section
variable{X:Cx}
theorem wc(hu:X.A.units < cLine):OpR X (compareOp .Eq) (fun x y H Q=>∃ a b xs,x=.ref a/\y=.ref b/\SqL X.K H a xs/\SqL X.K H b []/\Q (.bl xs.isEmpty) H):=by
 intro pins s U H x y v u Q I rx ry h;obtain⟨a,b,xs,rfl,rfl,ha,hb,q⟩:=h;cases rx;cases ry;obtain⟨i1,r1,⟨o1,n1,g1,c1,_,d1⟩,_⟩:=I.list ha;obtain⟨i2,r2,⟨o2,n2,g2,c2,_,d2⟩,_⟩:=I.list hb;have e2:i2=[]:=by cases r2;rfl
 subst e2;cases r1 with
 | nil=>exact SeqAt.eq_listAt (items:=#[]) (items2:=#[]) (e:=fun _=>true) ⟨o1,g1,c1,n1,d1⟩ ⟨o2,g2,c2,n2,d2⟩ rfl hu (fun j h1 _=>absurd h1 (by simp)) ⟨.bl true,H,I,rfl,q⟩
 | cons a b=>exact SeqAt.eq_list_lengthsAt ⟨o1,g1,c1,n1,d1⟩ ⟨o2,g2,c2,n2,d2⟩ (by simp) hu ⟨.bl false,H,I,rfl,q⟩
end
def TK(H H':Hp):Prop:=∀ a xs,H a=some (.tup xs)->H' a=some (.tup xs)
theorem ao.tk{H H':Hp}(s:ao H H'):TK H H':=fun a xs e=>s a _ e
theorem ez{α β:Type}{F:α -> β -> Prop}:∀{xs:List α}{ys:List β},Paired F xs ys->xs.length=ys.length
 | _,_,.nil=>rfl
 | _,_,.cons _ t=>by rw[List.length_cons,List.length_cons,ez t]
theorem c_{α β:Type}{F:α -> β -> Prop}:∀{xs:List α}{ys:List β}{i:Nat}{v:α},Paired F xs ys->xs[i]?=some v -> ∃ d,ys[i]?=some d/\F v d
 | _,_,_,_,.nil,h=>by simp at h
 | _,_,0,v,.cons (b:=b) hd _,g=>by
   simp at g;subst g;exact⟨b,rfl,hd⟩
 | _,_,i+1,v,.cons _ t,g=>by
   obtain⟨d,e,h⟩:=c_ (i:=i) t (by simpa using g)
   exact⟨d,by simpa using e,h⟩
theorem dF{α β:Type}{F:α -> β -> Prop}{xs2:List α}{ys2:List β}(g:Paired F xs2 ys2):∀{xs:List α}{ys:List β},Paired F xs ys->Paired F (xs++xs2) (ys++ys2)
 | _,_,.nil=>g
 | _,_,.cons h t=>.cons h (dF g t)
def oN:Option Nat->V
 | none=>.non
 | some n=>.int n
theorem pC:∀(ns acc:List Int),(ns.foldl step_dedup acc).length<=acc.length+ns.length
 | [],acc=>Nat.le_refl _
 | n::ns,acc=>by
   have:=pC ns (step_dedup acc n);rw[List.foldl_cons,List.length_cons];have:(step_dedup acc n).length<=acc.length+1:=by unfold step_dedup;split <;> simp
   omega
theorem uc:∀(ns acc:List Int),(ns.foldl step_dedup acc).length=acc.length+ns.length ↔ (ns.Nodup /\ ∀ n∈ns,n∉acc)
 | [],acc=>by simp
 | n::ns,acc=>by
   rw[List.foldl_cons];by_cases h:n∈acc
   . have e:step_dedup acc n=acc:=by
      unfold step_dedup;rw[if_pos]
      simpa using h
     rw[e];have:=pC ns acc
     constructor
     . intro z
       rw[List.length_cons]at z;omega
     intro z;exact absurd h (z.2 n (List.mem_cons_self ..))
   have e:step_dedup acc n=acc++[n]:=by
    unfold step_dedup;rw[if_neg]
    simpa using h
   rw[e];have ih:=uc ns (acc++[n]);rw[List.length_append,List.length_singleton]at ih;rw[List.length_cons,show acc.length+(ns.length+1)=acc.length+1+ns.length by omega,ih,List.nodup_cons]
   constructor
   . rintro⟨a,b⟩
     refine⟨⟨fun z=>(b n z) (by simp),a⟩,fun m hm=>?_⟩
     rcases List.mem_cons.mp hm with rfl | hm
     . exact h
     exact fun z=>b m hm (by simp[z])
   rintro⟨⟨a,b⟩,c⟩;refine⟨b,fun m hm z=>?_⟩;rcases List.mem_append.mp z with z | z
   . exact c m (List.mem_cons_of_mem _ hm) z
   rw[List.mem_singleton]at z;subst z;exact a hm
theorem gc(ns:List Int):(List.range ns.length).map (fun i=>ns.getD i 0)=ns:=by
 apply List.ext_getElem?
 intro i;rw[List.getElem?_map];by_cases h:i < ns.length
 . simp[h]
 simp[h]
theorem qN(ns:List Int):cf ns=ns.length ↔ ns.Nodup:=by
 unfold cf firstMet;rw[gc];have:=uc ns []
 simpa using this
theorem t_(ns:List Int):cf ns<=ns.length:=by
 unfold cf firstMet;rw[gc];have:=pC ns []
 simpa using this
end SW
namespace SW
open PySem PySem.Spec PyProof.Rows L2
namespace B
theorem dget{X:Cx}{o i:Expr}{td ty:TE}{pos:Pos}(hu:X.A.units+1 < cLine)(ho:Bx (PE X o td))(hi:Bx (PE X i ty))(hs:z6 i:=by exact fun _ _=>rfl):Bx (PE X (.Subscript o i pos) (uw td ty)):=⟨wW hu ho.out hi.out hs⟩
theorem make0{X:Cx}{C:Addr}{x:Str}{k:Nat}{ps:List Str}{sp:Sp}{p pos:Pos}(M:Mkr X.prog X.w X.K X.mg X.base C x k ps sp)(hr:bp (k+1) X.A)(hg:Gl X x:=by rfl)(hdb:(x == ("__debug__":Str))=false:=by decide) :
 Bx (PE X (.Call (.Name x p) [] [] pos) (nN C sp [] E0 fS)):=by
 obtain⟨f,fd,G,M,hm,b⟩:=M.ex;exact⟨sA M G hr hg hm b .nil m7 hdb⟩
end B
theorem tX(K:W.Frag){X:Cx}(h:X.K=K:=by rfl):OpR X (compareOp .In) (rIn K false):=by subst h;exact fD
theorem qM(K:W.Frag){X:Cx}(h:X.K=K:=by rfl):OpR X (compareOp .NotIn) (rIn K true):=by subst h;exact lW
theorem wDGet{U:L2.St}{H:Hp}{Q:VK}{td ty:TE}(h:td U H fun x H1=>ty U H1 fun y H2=>∃ a v,x=.ref a/\cR H2 a y (some v)/\Q v H2):uw td ty U H Q:=h
section
variable{H:Hp}{Q:VK}{E:XK}{p:Addr}
end
section
variable{C:Addr}{H:Hp}{Q:VK}{E:XK}{p wa oa:Addr}{L:LS}
end
section
variable{C:Addr}{H H':Hp}{p:Addr}{L:LS}{wa oa:Addr}
end
end SW
namespace SW
open PySem PySem.Spec PyProof.Rows L2
section
variable{X:Cx}{scope:Scope}{cl:List (Str×Addr)}{os:List Str}{js:List Nat}{N':List Str}{elt tgt iter:Expr}{ifs:List Expr}{pos:Pos}{wi:TI}{gt:TG}{tt:TT}{te:TE}
theorem nz{i:Nat}{y:Str}{py spos:Pos}(S:be X scope cl os js N')(hc:X.calm=true)(hg:∀ s H fp pins,PG (aB X scope cl N' s H fp pins) tgt gt)(hi:PI X tgt iter wi)
 (ht:∀ s H fp pins,PTs (aB X scope cl N' s H fp pins) ifs tt) (he:∀ s H fp pins,PE (aB X scope cl N' s H fp pins) elt te)
 (hN:X.N.Nodup) (hy:X.N[i]?=some y) (hl:Loc X.env.scope y) (hf:X.fn y=true∨X.env.scope.names.lookup y=some .local)
 (hsw:swapsWith (.ListComp elt [⟨tgt,iter,ifs,0⟩] scope pos) (some (.Name y py)) spos.line X.env=pure true)
 (hs:∀ x,foldedSetIterable iter X.env x=pure x:=by intro _;rfl):PS X (.Assign [.Name y py] (.ListComp elt [⟨tgt,iter,ifs,0⟩] scope pos) spos) (dX i (j1 os.length js wi gt tt te)):=by
 intro pins s U H D I h;rw[exec_Assign_Name_used _ _ _ _ hsw];refine wpAny_bind (wpAny_standAt (wpAny_bind ?_));show wpAny _ X.A (do let _ ← comprehension (.ListComp elt [⟨tgt,iter,ifs,0⟩] scope pos) scope X.env _ (newList []) false (eval iter X.env) (some (assign (.Name y py) X.env))) _ _ s;refine wpAny_bind (wpAny_mono (wpAny_comprehension_free (use:=some (assign (.Name y py) X.env)) (Q:=fun _ s'=>SP X pins D .next s') rfl hs S.clos S.kind S.names
  (thn (hi pins s U H _ I h) fun v s1 h1=>thn h1 fun itv s2 h2=>?_)) (fun _ s' hq=>wpAny_pure (wpAny_pure hq)) fun _ _ e=>e)
 obtain⟨it,fp,tn,J,H2,e,I2,T,st2,f2,k⟩:=h2;subst e;refine j2 (Q:=fun v H1=>D.nx (U.set i (some v)) H1) (RR:=fun acc C=>compPost (model X.prog X.w) X.A X.xe (some (assign (.Name y py) X.env)) (fun _ s'=>SP X pins D .next s') acc C) S hc hg ht he I2 T st2 f2 k fun A C s6 H6 m hm back hC fC q=>?_;have I6:Inv X pins U H6 s6:=back s6.heap (Heap.SameBut.refl ..);obtain⟨oC,es,ep,hoC,hdC,hr⟩:=id hm;have I7:Inv X (pins++[(C,oC)]) U H6 s6:=I6.pins_of fun p hp=>by
  rcases List.mem_append.mp hp with z | z
  . exact I6.pin p (List.mem_append_right _ z)
  rw[List.mem_singleton.mp z];exact⟨hoC,hC,fC.2.1,fC.2.2.1,fun v e=>by rw[hdC]at e;cases e⟩
 show wpAny _ X.A (assign (.Name y py) X.env (.ref A)) _ _ s6;refine thn (iO hN hy hl hf _ s6 U H6 (.ref A) (.ref A) (fun U' H'=>U'=U.set i (some (.ref A))/\H'=H6) I7 rfl ⟨rfl,rfl⟩) fun _ s8 zz=>?_;obtain⟨U8,H8,I8,e8,e9⟩:=zz;subst e8;subst e9;have h8:s8.heap.get? C=some oC:=(I8.pin (C,oC) (List.mem_append_right _ (List.mem_append_right _ (List.mem_singleton.mpr rfl)))).1;refine⟨m,⟨oC,es,ep,h8,hdC,hr⟩,fun h' hs'=>⟨_,H8,?_,q⟩⟩;have I9:Inv X pins (U.set i (some (.ref A))) H8 s8:=I8.pins_of fun p hp=>I8.pin p (List.mem_append_right _ (List.mem_append_left _ hp));exact I9.turned (t':=s8.toks) (fun b o hb e=>(hs'.2 b hb).trans e) hC fC.2.1 fC.2.2.2.1 fC.2.2.2.2.1 fC.2.2.2.2.2
end
namespace B
theorem compNSet{X:Cx}{scope:Scope}{cl:List (Str×Addr)}{tgt elt iter:Expr}{pos:Pos}{wi:TI}{gt:TG}{te:TE}(i:Nat)(os:List Str)(js:List Nat)(N':List Str){y:Str}{py spos:Pos}(S:be X scope cl os js N')(hN:X.N.Nodup)(hi:Bx (PI X tgt iter wi))(hg:∀ s H fp pins,Bx (PG (aB X scope cl N' s H fp pins) tgt gt))(he:∀ s H fp pins,Bx (PE (aB X scope cl N' s H fp pins) elt te))(hc:X.calm=true:=by rfl)
 (hy:X.N[i]?=some y:=by rfl) (hl:Loc X.env.scope y:=by first | exact Or.inl rfl | exact Or.inr rfl) (hf:X.fn y=true∨X.env.scope.names.lookup y=some .local:=by first | exact .inl rfl | exact .inr rfl)
 (hsw:swapsWith (.ListComp elt [⟨tgt,iter,[],0⟩] scope pos) (some (.Name y py)) spos.line X.env=pure true:=by rfl)
 (hs:∀ x,foldedSetIterable iter X.env x=pure x:=by intro _;rfl):Bx (PS X (.Assign [.Name y py] (.ListComp elt [⟨tgt,iter,[],0⟩] scope pos) spos) (dX i (j1 os.length js wi gt (fun _ H Q=>Q true H) te))):=
 ⟨nz S hc (fun s H fp pins=>(hg s H fp pins).out) hi.out (fun _ _ _ _=>iJ) (fun s H fp pins=>(he s H fp pins).out) hN hy hl hf hsw hs⟩
end B
section
variable{X:Cx}{pins:List (Addr×Obj)}{U:L2.St}{H:Hp}{s:Shared}
end
section
variable{a D:Addr}{o:Obj}{kvs:List (Key×V)}{U0:L2.St}{H1:Hp}{tt:TT}{te:TE}
end
section
variable{K:W.Frag}{H:Hp}
end
namespace B
theorem tdnotin{X:Cx}{a d:Expr}{ty td:TE}{pos:Pos}(hu:X.A.units+1 < cLine)(hk:Bx (PE X a ty))(hd:Bx (PE X d td))(h1:behindInMarks .NotIn d=false:=by first | rfl | with_unfolding_all rfl):Bx (PT X (.Compare a [.NotIn] [d] pos) (tB (lS ty td))):=⟨uz (qI hu hk.out hd.out) h1⟩
end B
theorem wDNotIn{U:L2.St}{H:Hp}{Q:VK}{td ty:TE}(h:ty U H fun y H1=>td U H1 fun x H2=>∃ a o,x=.ref a/\cR H2 a y o/\Q (.bl (!o.isSome)) H2):lS ty td U H Q:=h
namespace B
theorem compSetIf{X:Cx}{scope:Scope}{cl:List (Str×Addr)}{x:Str}{px pos:Pos}{elt iter c:Expr}{wi:TI}{tc:TT}{te:TE}(i:Nat)(js:List Nat)(N':List Str){y:Str}{py spos:Pos}(S:aC X scope cl x js N')(nd:N'.Nodup)(hN:X.N.Nodup)(hi:Bx (PI X (.Name x px) iter wi))(hcc:∀ s H fp pins,Bx (PT (aB X scope cl N' s H fp pins) c tc))(he:∀ s H fp pins,Bx (PE (aB X scope cl N' s H fp pins) elt te))(hc:X.calm=true:=by rfl)
 (hy:X.N[i]?=some y:=by rfl) (hl:Loc X.env.scope y:=by first | exact Or.inl rfl | exact Or.inr rfl) (hf:X.fn y=true∨X.env.scope.names.lookup y=some .local:=by first | exact .inl rfl | exact .inr rfl)
 (hsw:swapsWith (.ListComp elt [⟨.Name x px,iter,[c],0⟩] scope pos) (some (.Name y py)) spos.line X.env=pure true:=by rfl)
 (hs:∀ x,foldedSetIterable iter X.env x=pure x:=by intro _;rfl):Bx (PS X (.Assign [.Name y py] (.ListComp elt [⟨.Name x px,iter,[c],0⟩] scope pos) spos) (dX i (j7 js wi tc te))):=
 ⟨jn S nd hc hi.out (fun s H fp pins=>pW (hcc s H fp pins).out) (fun s H fp pins=>(he s H fp pins).out) hN hy hl hf hsw hs⟩
end B
end SW
namespace SW
open PySem PySem.Spec PyProof.Rows L2
section
variable{X:Cx}{elts:List Expr}{k:Nat}{tp:Pos}
end
end SW
namespace SW
open PySem PySem.Spec PyProof.Rows L2
section
variable{prog:Program}{w:World}{A:Around}{E:Value->Shared->Prop}{s:Shared}
end
section
variable{X:Cx}
end
section
variable{X:Cx}
end
section
variable{X:Cx}
end
section
variable{X:Cx}
end
namespace B
theorem ppnil{X:Cx}{pos:Pos}:Bx (PPs X pos [] [] []):=⟨wu⟩
theorem ppcons{X:Cx}{pos:Pos}{k v:Expr}{ks:List (Option Expr)}{vs:List Expr}{tk tv:TE}{trs:List (TE×TE)}(hk:Bx (PE X k tk))(hv:Bx (PE X v tv))(hr:Bx (PPs X pos ks vs trs)):Bx (PPs X pos (some k::ks) (v::vs) ((tk,tv)::trs)):=⟨sV hk.out hv.out hr.out⟩
theorem disp{X:Cx}{pos:Pos}{keys:List (Option Expr)}{values:List Expr}{trs:List (TE×TE)}(h:Bx (PPs X pos keys values trs))(hall:keys.all (·.isSome)=true:=by rfl)(hl:keys.length=values.length:=by rfl)(h0:keys≠[]:=by intro h;cases h)(h15:keys.length<=15:=by exact Nat.le_of_ble_eq_true rfl):Bx (PE X (.Dict keys values pos) (su trs)):=⟨v_ h.out hall hl h0 h15⟩
end B
theorem AC{trs:List (TE×TE)}{U:L2.St}{H:Hp}{Q:VK}(h:∀ p,H p=none->gf trs U (upd H p (.dK [])) fun ps H2=>H2 p=some (.dK []) /\ ∃ kvs:List (Key×V),ps=kvs.map (fun kv=>(kV kv.1,kv.2))/\kvs.length<=15/\Q (.ref p) (upd H2 p (.dK (gn [] kvs)))):su trs U H Q:=h
theorem wPairs{tk tv:TE}{r:List (TE×TE)}{U:L2.St}{H:Hp}{Q:List (V×V)->Hp->Prop}(h:tk U H fun x H1=>tv U H1 fun y H2=>gf r U H2 fun ps H3=>Q ((x,y)::ps) H3):gf ((tk,tv)::r) U H Q:=h
theorem wPairs0{U:L2.St}{H:Hp}{Q:List (V×V)->Hp->Prop}(h:Q [] H):gf [] U H Q:=h
theorem cj{α:Type}{xs:List α}{i:Nat}{v:α}(h:xs[i]?=some v):xs.take (i+1)=xs.take i++[v]:=by rw[List.take_add_one,h];rfl
section
variable{X:Cx}
theorem vT(hu:X.A.units < cLine):OpR X (compareOp .NotEq) (fun x y H Q=>∃ a b xs,x=.ref a/\y=.ref b/\SqL X.K H a xs/\SqL X.K H b []/\Q (.bl (!xs.isEmpty)) H):=by
 intro pins s U H x y v u Q I rx ry h;obtain⟨a,b,xs,rfl,rfl,ha,hb,q⟩:=h;cases rx;cases ry;obtain⟨i1,r1,⟨o1,n1,g1,c1,_,d1⟩,_⟩:=I.list ha;obtain⟨i2,r2,⟨o2,n2,g2,c2,_,d2⟩,_⟩:=I.list hb;have e2:i2=[]:=by cases r2;rfl
 subst e2;cases r1 with
 | nil=>exact SeqAt.RcNeAt.lists (items:=#[]) (items2:=#[]) (e:=fun _=>true) ⟨o1,g1,c1,n1,d1⟩ ⟨o2,g2,c2,n2,d2⟩ rfl hu (fun j h1 _=>absurd h1 (by simp)) _ _ _ _ ⟨.bl false,H,I,rfl,q⟩
 | cons a b=>exact SeqAt.RcNeAt.lists_lengths ⟨o1,g1,c1,n1,d1⟩ ⟨o2,g2,c2,n2,d2⟩ (by simp) hu _ _ _ _ ⟨.bl true,H,I,rfl,q⟩
end
section
variable{X:Cx}
end
section
variable{t:Addr}{pc:Int}{ve:V}{mv:Int}{qn sp:Addr}
end
section
variable{H H':Hp}{md t sp qn qe:Addr}{ve:V}{f m:Int}{pc:Nat}{M:MT}{ss:Spots}{lsN lsE:List Addr}{F G:Addr->Prop}
theorem gh{a:Addr}{kvs:List (Key×V)}{x:PySem.Str}{v:V}{Qf:V->Prop}(d:H a=some (.dK kvs))(e:bO kvs (Sum.inr x)=some v)(q:Qf v):∃ a' v',V.ref a=.ref a'/\cR H a' (.str x) (some v')/\Qf v':=by
 refine⟨a,v,rfl,?_,q⟩;have z:=cR.k (k:=Sum.inr x) d;rw[e]at z;exact z
theorem eV{a:Addr}{kvs kvs':List (Key×V)}{x:PySem.Str}{v:V}{Qf:Hp->Prop}(d:H a=some (.dK kvs))(hl:kvs.length < sizeLine)(e:cP kvs (Sum.inr x) v=kvs')(q:Qf (upd H a (.dK kvs'))):∃ a' H4,V.ref a=.ref a'/\ke H a' (.str x) v H4/\Qf H4:=by
 subst e;exact⟨a,_,rfl,ke.k (k:=Sum.inr x) d hl,q⟩
end
theorem dk{α:Type}[DecidableEq α]:∀{a b:List α},a.Nodup->(∀ x∈a,x∈b)->a.length<=b.length
 | [],b,_,_=>Nat.zero_le _
 | x::a,b,n,h=>by
   obtain⟨h1,h2⟩:=List.nodup_cons.mp n;have hx:=h x (List.mem_cons_self ..);have:=dk (a:=a) (b:=b.erase x) h2 (fun y hy=>(List.mem_erase_of_ne (fun z=>h1 (by rw[← z];exact hy))).mpr (h y (List.mem_cons_of_mem _ hy)))
   rw[List.length_erase_of_mem hx]at this;have hp:=List.length_pos_of_mem hx;rw[List.length_cons];omega
theorem oo{α:Type}[DecidableEq α]{a b:List α}(ha:a.Nodup)(hb:b.Nodup)(h:∀ x,x∈a ↔ x∈b):a.length=b.length:=
 Nat.le_antisymm (dk ha fun x=>(h x).mp) (dk hb fun x=>(h x).mpr)
theorem sI:∀(ns acc:List Int),acc.Nodup->(ns.foldl step_dedup acc).Nodup /\ ∀ x,x∈ns.foldl step_dedup acc ↔ x∈acc∨x∈ns
 | [],acc,h=>⟨h,fun x=>⟨.inl,fun z=>z.elim id fun y=>(List.not_mem_nil y).elim⟩⟩
 | n::ns,acc,h=>by
   have h2:(step_dedup acc n).Nodup /\ ∀ x,x∈step_dedup acc n ↔ x∈acc∨x=n:=by
    unfold step_dedup;split
    . rename_i e
      have e:n∈acc:=by simpa using e
      exact⟨h,fun x=>⟨.inl,fun z=>z.elim id fun y=>y ▸ e⟩⟩
    rename_i e;have e:n∉acc:=by simpa using e
    refine⟨?_,fun x=>by simp⟩
    rw[List.nodup_append];exact⟨h,by simp,fun a ha b hb z=>e (by rw[List.mem_singleton.mp hb]at z;rw[← z];exact ha)⟩
   obtain⟨i1,i2⟩:=sI ns _ h2.1;refine⟨i1,fun x=>?_⟩;rw[List.foldl_cons,i2 x,h2.2 x,List.mem_cons]
   constructor
   . rintro((z | z) | z)
     . exact .inl z
     . exact .inr (.inl z)
     exact .inr (.inr z)
   rintro(z | z | z)
   . exact .inl (.inl z)
   . exact .inl (.inr z)
   exact .inr z
theorem rG{ns l:List Int}(h:l.Nodup)(e:∀ x,x∈l ↔ x∈ns):cf ns=l.length:=by
 unfold cf firstMet;rw[gc];obtain⟨a,b⟩:=sI ns [] List.nodup_nil;refine oo a h fun x=>?_;rw[b x,e x];simp
section
variable{H H' H3:Hp}{md t sp qn qe q:Addr}{ve:V}{f m:Int}{pc:Nat}{M:MT}{ss:Spots}{lsN lsE ls:List Addr}{R:aj}
end
section
variable{prog:Program}{w:World}{A:Around}{E:Value->Shared->Prop}{s:Shared}
end
section
variable{X:Cx}
end
theorem pJ{f m k:Int}:aA f m M0 k=none:=ee (by decide) (fun j r _ er=>List.eq_of_mem_replicate (List.mem_of_getElem? er)) k
end SW
set_option maxHeartbeats 4000000
namespace SW
open PySem PySem.Spec PyProof.Rows L2
def Rat(M:MT):Prop:=∀ E,M.el=some E->E.length=2*M.nw.length∨M.nw.length=2*E.length
theorem kT:∀ ns:List Int,∃ l:List Int,l.Nodup /\ ∀ x,x∈l ↔ x∈ns
 | []=>⟨[],List.nodup_nil,fun _=>Iff.rfl⟩
 | n::ns=>by
   obtain⟨l,h1,h2⟩:=kT ns;by_cases z:n∈l
   . exact⟨l,h1,fun x=>⟨fun y=>List.mem_cons_of_mem _ ((h2 x).mp y),fun y=>(List.mem_cons.mp y).elim (fun e=>e ▸ z) fun y=>(h2 x).mpr y⟩⟩
   exact⟨n::l,List.nodup_cons.mpr ⟨z,h1⟩,fun x=>by rw[List.mem_cons,List.mem_cons,h2]⟩
theorem qW{ns l:List Int}(h:∀ x∈ns,x∈l):cf ns<=l.length:=by
 obtain⟨q,h1,h2⟩:=kT ns;rw[rG h1 h2];exact dk h1 fun x hx=>h x ((h2 x).mp hx)
def sN(e n:Nat):Nat->Nat->List Int
 | _,0=>[]
 | i,c+1=>((i % n:Nat):Int)::(((i+e) % n:Nat):Int)::sN e n (i+1) c
theorem oj(e n:Nat):∀(c i:Nat),(sN e n i c).length=2*c
 | 0,_=>rfl
 | c+1,i=>by
   show(sN e n (i+1) c).length+1+1=_;rw[oj e n c];omega
theorem sQ{f m:Int}{e n i:Nat}{k:Int}(n0:0 < n)(e0:0 < e)(h:e=2*n∨n=2*e)(hi:plc f m e k=i):plc f m n k=i % n∨plc f m n k=(i+e) % n:=by
 obtain⟨μ,hμ⟩:∃ μ:Nat,((k*f+m) % 65536)=(μ:Int):=⟨((k*f+m) % 65536).toNat,by have:=Int.emod_nonneg (k*f+m) (show(65536:Int)≠0 by decide);omega⟩
 have pe:∀ q:Nat,plc f m q k=μ % q:=fun q=>by
  unfold plc;rw[hμ,← Int.natCast_emod]
  rfl
 rw[pe]at hi ⊢;rcases h with rfl | rfl
 . left
   rw[← hi,Nat.mod_mod_of_dvd _ ⟨2,Nat.mul_comm _ _⟩]
 rw[← hi];have hd:=Nat.div_add_mod μ e;have hlt:=Nat.mod_lt μ e0;rcases Nat.mod_two_eq_zero_or_one (μ / e)with z | z
 . left
   have hq:=Nat.div_add_mod (μ / e) 2;have e1:μ=μ % e+2*e*(μ / e / 2):=by
    rw[z]at hq;have:e*(μ / e)=2*e*(μ / e / 2):=by
     conv=>lhs;rw[← hq]
     rw[Nat.add_zero,← Nat.mul_assoc,Nat.mul_comm e 2]
    omega
   conv=>lhs;rw[e1]
   rw[Nat.add_mul_mod_self_left]
 right
 have hq:=Nat.div_add_mod (μ / e) 2;have e1:μ=(μ % e+e)+2*e*(μ / e / 2):=by
  rw[z]at hq;have:e*(μ / e)=2*e*(μ / e / 2)+e:=by
   conv=>lhs;rw[← hq]
   rw[Nat.mul_add,Nat.mul_one,← Nat.mul_assoc,Nat.mul_comm e 2]
  omega
 conv=>lhs;rw[e1]
 rw[Nat.add_mul_mod_self_left]
theorem j4{f m:Int}{E:aj}{n:Nat}(P:POk f m E)(n0:0 < n)(h:E.length=2*n∨n=2*E.length):∀(c i:Nat),i+c<=E.length -> ∀ x∈du f m n E i c,x∈sN E.length n i c
 | 0,_,_,_,hx=>hx
 | c+1,i,hi,x,hx=>by
   have hx:x∈((E.getD i []).map fun p=>((plc f m n p.1:Nat):Int))++du f m n E (i+1) c:=hx;rcases List.mem_append.mp hx with hx | hx
   . obtain⟨p,hp,rfl⟩:=List.mem_map.mp hx
     have hr:=P.at_ i _ p (bu (by omega)) hp
     show _∈((i % n:Nat):Int)::(((i+E.length) % n:Nat):Int)::_;rcases sQ n0 (by omega) h hr with z | z
     . rw[z];exact List.mem_cons_self ..
     rw[z];exact List.mem_cons_of_mem _ (List.mem_cons_self ..)
   exact List.mem_cons_of_mem _ (List.mem_cons_of_mem _ (j4 P n0 h c (i+1) (by omega) x hx))
theorem vE{f m:Int}{pc:Nat}{M:MT}{k:Int}(T:TOk f m M)(R:Rat M):tch f m pc M k<=3*pc+2:=by
 rw[tG];have h2:(if ci f m (a_ f m pc M) k=true then 1 else 0)<=1:=by split <;> omega
 generalize (if ci f m (a_ f m pc M) k=true then 1 else 0)=z at *;cases e:M.el with
 | none=>
   have hd:due pc M=0:=by unfold due;rw[e]
   have hr:rch f m M (due pc M)=[]:=by unfold rch;rw[e]
   have h1:=t_ [((plc f m M.nw.length k:Nat):Int)];rw[hr,hd];have h1:cf [((plc f m M.nw.length k:Nat):Int)]<=1:=h1;omega
 | some E=>
   obtain⟨P,sE,hm,_,_⟩:=T.el E e;have hdl:=gZ (pc:=pc) e hm;have hdp:due pc M<=pc:=by
    unfold due;rw[e];show min (M.mv+pc) E.length - M.mv<=pc;omega
   have hr:rch f m M (due pc M)=du f m M.nw.length E M.mv (due pc M):=by unfold rch;rw[e]
   rw[hr];have:=qW (ns:=((plc f m M.nw.length k:Nat):Int)::du f m M.nw.length E M.mv (due pc M)) (l:=((plc f m M.nw.length k:Nat):Int)::sN E.length M.nw.length M.mv (due pc M)) fun x hx=>by
    rcases List.mem_cons.mp hx with rfl | hx
    . exact List.mem_cons_self ..
    exact List.mem_cons_of_mem _ (j4 P T.sz.pos (R E e) _ _ hdl x hx)
   rw[List.length_cons,oj]at this;omega
def goS(p:Nat):Option Nat×Nat×Nat->Option Nat×Nat×Nat
 | (none,mv,n)=>(none,mv,n)
 | (some e,mv,n)=>if e<=mv+p then(none,0,n)else(some e,mv+p,n)
def dR(n c:Nat):Nat:=if n < c then min (n*2) 4096 else if c*8 < n then max (n / 2) 4 else n
def lO(c:Nat):Option Nat×Nat×Nat->Option Nat×Nat×Nat
 | (some e,mv,n)=>(some e,mv,n)
 | (none,mv,n)=>if dR n c=n then(none,mv,n)else(some n,mv,dR n c)
theorem wn{f m:Int}{p:Nat}{M:MT}(T:TOk f m M):shp (a_ f m p M)=goS p (shp M):=by
 cases e:M.el with
 | none=>
   have a:a_ f m p M=M:=by unfold a_;rw[e]
   rw[a];unfold shp;rw[e]
   rfl
 | some E=>
   have hm:=(T.el E e).2.2.1;have hd:due p M=min (M.mv+p) E.length - M.mv:=by unfold due;rw[e]
   have hs:shp M=(some E.length,M.mv,M.nw.length):=by unfold shp;rw[e];rfl
   rw[hs];by_cases z:M.mv+due p M=E.length
   . have a:a_ f m p M=⟨none,0,(aN f m E M.nw M.mv (due p M)).2⟩:=by unfold a_;rw[e];exact if_pos z
     rw[a];show(none,0,(aN f m E M.nw M.mv (due p M)).2.length)=if E.length<=M.mv+p then _ else _;rw[gg,if_pos (by omega)]
   have a:a_ f m p M=⟨some (aN f m E M.nw M.mv (due p M)).1,M.mv+due p M,(aN f m E M.nw M.mv (due p M)).2⟩:=by unfold a_;rw[e];exact if_neg z
   rw[a];show(some (aN f m E M.nw M.mv (due p M)).1.length,M.mv+due p M,(aN f m E M.nw M.mv (due p M)).2.length)=if E.length<=M.mv+p then _ else _;rw[eI,gg,if_neg (by omega),show due p M=p by omega]
theorem i7{M:MT}:shp (beg M)=lO (cnt M) (shp M):=by
 cases e:M.el with
 | some E=>
   have a:beg M=M:=by unfold beg;rw[e]
   rw[a];unfold shp;rw[e]
   rfl
 | none=>
   have hs:shp M=(none,M.mv,M.nw.length):=by unfold shp;rw[e];rfl
   have hc:cnt M=tot M.nw:=by unfold cnt;rw[e];exact Nat.zero_add _
   have hb:beg M=if cA M.nw=M.nw.length then M else⟨some M.nw,M.mv,List.replicate (cA M.nw) []⟩:=by unfold beg;rw[e]
   rw[hs,hc,hb];show _=if dR M.nw.length (tot M.nw)=M.nw.length then _ else _;have ew:cA M.nw=dR M.nw.length (tot M.nw):=rfl;rw[ew];split
   . exact hs
   show(some M.nw.length,M.mv,(List.replicate (dR M.nw.length (tot M.nw)) ([]:av)).length)=_;rw[List.length_replicate]
def vz(p c:Nat)(s:Option Nat×Nat×Nat):Option Nat×Nat×Nat:=lO c (goS p s)
theorem kO{f m:Int}{p:Nat}{M:MT}(T:TOk f m M)(d:cK):shp (bM f m p M d)=vz p (cnt (bM f m p M d)) (shp M):=by
 obtain⟨T1,_,_⟩:=eh (pc:=p) T;unfold vz;rw[← wn T];cases d with
 | put k v=>
   have c:=(cQ (eW (k:=k) (v:=v) T1).1).2.2;show shp (beg (SW.putAt f m (a_ f m p M) k v))=lO (cnt (beg (SW.putAt f m (a_ f m p M) k v))) _;rw[c,i7,xa]
 | look k=>
   have c:=(cQ T1).2.2;show shp (beg (a_ f m p M))=lO (cnt (beg (a_ f m p M))) _;rw[c,i7]
 | cut k=>
   have c:=(cQ (fc (k:=k) T1).1).2.2;show shp (beg (bY f m (a_ f m p M) k))=lO (cnt (beg (bY f m (a_ f m p M) k))) _;rw[c,i7,xA]
def OkS(p:Nat)(nc:Bool)(c:Nat):Option Nat×Nat×Nat->Prop
 | (none,mv,n)=>mv=0/\c<=n/\(nc=true->n=4∨n < 2*c)
 | (some e,mv,n)=>mv < e/\c+(e - mv+p - 1) / p<=n+1/\(nc=true->n=4∨n < 2*c)
theorem jO{n:Nat}(h:ay n):n=4∨n=8∨n=16∨n=32∨n=64∨n=128∨n=256∨n=512∨n=1024∨n=2048∨n=4096:=by
 unfold ay at h
 simpa only[List.mem_cons,List.not_mem_nil,or_false] using h
theorem sY{a p:Nat}(hp:0 < p)(h:p < a):(a - p+p - 1) / p+1=(a+p - 1) / p:=by
 have:a+p - 1=(a - p+p - 1)+p:=by omega
 rw[this,Nat.add_div_right _ hp]
theorem xq{a p:Nat}(hp:0 < p)(h:0 < a):1<=(a+p - 1) / p:=by
 rw[Nat.le_div_iff_mul_le hp];omega
theorem Ay{a p:Nat}(hp:0 < p)(h:0 < a):(a+p - 1) / p<=a:=by
 rw[Nat.div_le_iff_le_mul_add_pred hp];have:=Nat.mul_le_mul_right a hp;omega
theorem CY{a p:Nat}(hp:3<=p):(a+p - 1) / p<=(a+2) / 3:=by
 rw[Nat.div_le_iff_le_mul_add_pred (by omega)]
 have h1:=Nat.div_add_mod (a+2) 3;have h2:=Nat.mod_lt (a+2) (show 0 < 3 by decide)
 have h3:3*((a+2) / 3)<=p*((a+2) / 3):=Nat.mul_le_mul_right _ hp;omega
theorem OkS.beg{p n c:Nat}{nc:Bool}(hs:ay n)(hp:0 < p)(hc4:c<=4000)(hc:c<=n+1)(hk:3<=p∨nc=true)(hn:nc=true->n=4∨n < 2*c):OkS p nc c (lO c (none,0,n)):=by
 have sc:=jO hs;show OkS p nc c (if dR n c=n then _ else _);unfold dR;by_cases z:n < c
 . rw[if_pos z,if_neg (by omega)]
   have:=Ay (a:=n) hp (by omega)
   refine⟨by omega,?_,fun h=>?_⟩
   . show c+(n - 0+p - 1) / p<=min (n*2) 4096+1
     rw[Nat.sub_zero];omega
   have:=hn h;omega
 rw[if_neg z];by_cases y:c*8 < n
 . rw[if_pos y]
   by_cases w:n=4
   . rw[if_pos (by omega)]
     exact⟨rfl,by omega,hn⟩
   rw[if_neg (by omega)]
   have h3:3<=p:=hk.resolve_right fun h=>by have:=hn h;omega
   have:=CY (a:=n) h3;refine⟨by omega,?_,fun h=>?_⟩
   . show c+(n - 0+p - 1) / p<=max (n / 2) 4+1
     rw[Nat.sub_zero];omega
   have:=hn h;omega
 rw[if_neg y,if_pos rfl];exact⟨rfl,by omega,hn⟩
theorem OkS.deed{p c c':Nat}{nc:Bool}{s:Option Nat×Nat×Nat}(h:OkS p nc c s)(hs:ay s.2.2)(hp:0 < p)(hc:c'<=c+1)(hc4:c'<=4000)(hk:3<=p∨nc=true)(hn:nc=true->c<=c'):OkS p nc c' (vz p c' s):=by
 obtain⟨e,mv,n⟩:=s;have hs:ay n:=hs;cases e with
 | none=>
   obtain⟨h0,h1,h2⟩:mv=0/\c<=n/\(nc=true->n=4∨n < 2*c):=h;subst h0;exact OkS.beg (nc:=nc) (c:=c') hs hp hc4 (by omega) hk fun z=>by have:=h2 z;have:=hn z;omega
 | some e=>
   obtain⟨h0,h1,h2⟩:mv < e/\c+(e - mv+p - 1) / p<=n+1/\(nc=true->n=4∨n < 2*c):=h;show OkS p nc c' (lO c' (if e<=mv+p then(none,0,n)else(some e,mv+p,n)));have hr:=xq (a:=e - mv) hp (by omega)
   by_cases z:e<=mv+p
   . rw[if_pos z]
     exact OkS.beg hs hp hc4 (by omega) hk fun z=>by have:=h2 z;have:=hn z;omega
   rw[if_neg z];have hx:=sY (a:=e - mv) hp (by omega)
   refine⟨by omega,?_,fun z=>by have:=h2 z;have:=hn z;omega⟩
   show c'+(e - (mv+p)+p - 1) / p<=n+1;have:e - (mv+p)=e - mv - p:=by omega
   rw[this];omega
theorem mP{n c:Nat}(h:ay n):dR n c=n∨dR n c=2*n∨2*dR n c=n:=by
 have sc:=jO h;unfold dR;split
 . omega
 split <;> omega
theorem Rat.deed{f m:Int}{p:Nat}{M:MT}(T:TOk f m M)(R:Rat M)(d:cK):Rat (bM f m p M d):=by
 have h:=kO (p:=p) T d;intro E' e';generalize cnt (bM f m p M d)=c at h;have hl:shp (bM f m p M d)=(some E'.length,(bM f m p M d).mv,(bM f m p M d).nw.length):=by unfold shp;rw[e'];rfl
 rw[hl]at h;have beg:∀ mv:Nat,(some E'.length,(bM f m p M d).mv,(bM f m p M d).nw.length)=lO c (none,mv,M.nw.length)->E'.length=2*(bM f m p M d).nw.length∨(bM f m p M d).nw.length=2*E'.length:=by
  intro mv h;have h:(some E'.length,(bM f m p M d).mv,(bM f m p M d).nw.length)=if dR M.nw.length c=M.nw.length then(none,mv,M.nw.length)else(some M.nw.length,mv,dR M.nw.length c):=h;split at h
  . injection h with h;cases h
  rename_i z;injection h with h1 h;injection h with h2 h3;injection h1 with h1;rw[h1,h3];rcases mP (c:=c) T.sz with w | w | w
  . exact absurd w z
  . exact .inr w
  exact .inl w.symm
 cases e:M.el with
 | none=>
   have hM:shp M=(none,M.mv,M.nw.length):=by unfold shp;rw[e];rfl
   rw[hM]at h;exact beg M.mv h
 | some E=>
   have hM:shp M=(some E.length,M.mv,M.nw.length):=by unfold shp;rw[e];rfl
   rw[hM]at h;have h:_=lO c (if E.length<=M.mv+p then(none,0,M.nw.length)else(some E.length,M.mv+p,M.nw.length)):=h;split at h
   . exact beg 0 h
   have h:_=(some E.length,M.mv+p,M.nw.length):=h;injection h with h1 h;injection h with h2 h3;injection h1 with h1;rw[h1,h3];exact R E e
theorem DF:Rat M0:=fun E h=>by cases h
theorem OkS.late{p c:Nat}{nc:Bool}{M:MT}(hp:0 < p)(h:OkS p nc c (shp M)):c<=M.nw.length+1:=by
 cases e:M.el with
 | none=>
   have hM:shp M=(none,M.mv,M.nw.length):=by unfold shp;rw[e];rfl
   rw[hM]at h;have:=h.2.1;omega
 | some E=>
   have hM:shp M=(some E.length,M.mv,M.nw.length):=by unfold shp;rw[e];rfl
   rw[hM]at h;have h1:c+(E.length - M.mv+p - 1) / p<=M.nw.length+1:=h.2.1;exact Nat.le_trans (Nat.le_add_right _ _) h1
end SW
set_option maxHeartbeats 2000000
namespace SW
open PySem PySem.Spec PyProof.Rows L2
end SW
set_option maxHeartbeats 2000000
namespace SW
open PySem PySem.Spec PyProof.Rows L2
theorem nE{k v:Int}:∀{r:av},ROk r->(k,v)∈r->ax r k=some v
 | [],_,h=>nomatch h
 | p::r,ok,h=>by
   have nd:p.1∉r.map (·.1)/\ROk r:=List.nodup_cons.mp ok;rcases List.mem_cons.mp h with e | e
   . subst e;exact cx rfl
   rw[cq fun z=>nd.1 (z ▸ List.mem_map.mpr ⟨_,e,rfl⟩)];exact nE nd.2 e
theorem POk.look{f m:Int}{N:aj}(P:POk f m N){i:Nat}{r:av}{p:Int×Int}(hr:N[i]?=some r)(hp:p∈r):au f m N p.1=some p.2:=by
 rw[bV,P.at_ i r p hr hp,List.getD_eq_getElem?_getD,hr];exact nE (P.ok r (List.mem_of_getElem? hr)) hp
def Bi(f m mv:Int)(R:aj):Prop:=∀(i:Nat) (r:av),R[i]?=some r -> ∀ x∈r,(x.1*f+m) % 65536 % (R.length:Int)=i /\ ¬ (i:Int) < mv
theorem POk.inplc{f m:Int}{N:aj}(P:POk f m N):Bi f m 0 N:=fun i r hr x hx=>by
 have hi:i < N.length:=(List.getElem?_eq_some_iff.mp hr).1;refine⟨?_,by omega⟩
 rw[← mi (by omega),P.at_ i r x hr hx]
def eK(M:MT):av:=(M.el.getD []).flatten++M.nw.flatten
theorem io(R:aj):R.flatten.length=tot R:=List.length_flatten ..
theorem ua(M:MT):(eK M).length=cnt M:=by
 unfold eK cnt;rw[List.length_append,io,io];cases M.el with
 | none=>rfl
 | some E=>rfl
theorem dm{R:aj}{p:Int×Int}:p∈R.flatten ↔ ∃(i:Nat) (r:av),R[i]?=some r/\p∈r:=by
 rw[List.mem_flatten]
 constructor
 . rintro⟨r,hr,hp⟩
   obtain⟨i,hi⟩:=List.getElem?_of_mem hr;exact⟨i,r,hi,hp⟩
 rintro⟨i,r,hi,hp⟩;exact⟨r,List.mem_of_getElem? hi,hp⟩
theorem TOk.tell{f m:Int}{M:MT}(T:TOk f m M){p:Int×Int}(h:p∈eK M):aA f m M p.1=some p.2:=by
 unfold aA onE;rcases List.mem_append.mp h with z | z
 . obtain⟨i,r,hi,hp⟩:=dm.mp z
   cases e:M.el with
   | none=>rw[e]at hi;cases hi
   | some E=>
     rw[e]at hi;have:=(T.el E e).1.look hi hp;show(match au f m E p.1 with | some v=>some v | none=>au f m M.nw p.1)=_;rw[this]
 obtain⟨i,r,hi,hp⟩:=dm.mp z;have l:=T.nw.look hi hp;cases e:M.el with
 | none=>exact l
 | some E=>
   show(match au f m E p.1 with | some v=>some v | none=>au f m M.nw p.1)=_;cases e2:au f m E p.1 with
   | none=>exact l
   | some v=>
     have:=(T.el E e).2.2.2.2 p.1 (by rw[e2];simp)
     rw[l]at this;cases this
def InB(p:Int×Int):Prop:=(0<=p.1/\p.1<=1000000000) /\ -1000000000<=p.2/\p.2<=1000000000
theorem lj{r:av}{k v:Int}(h:ax r k=some v):(k,v)∈r:=by
 unfold ax at h;cases e:r.find? fun p=>decide (p.1=k)with
 | none=>rw[e]at h;cases h
 | some p=>
   rw[e]at h;have h1:=List.find?_some e;have h2:=List.mem_of_find?_eq_some e;have h3:p.1=k:=of_decide_eq_true h1;have h4:p.2=v:=Option.some.inj h;rw[← h3,← h4];exact h2
section
variable{X:Cx}
end
end SW
set_option maxHeartbeats 2000000
namespace SW
open PySem PySem.Spec PyProof.Rows L2
section
variable{X:Cx}{pins:List (Addr×Obj)}{U:L2.St}{H:Hp}{s:Shared}
theorem Inv.fewer{pins':List (Addr×Obj)}(I:L2.Inv X pins U H s)(h:∀ p∈pins',p∈pins):L2.Inv X pins' U H s:=I.pins_of fun p hp=>I.pin p (List.mem_append_right _ (h p hp))
theorem Inv.pinNew{o:Obj}{t:Nat}(I:L2.Inv X pins U H s)(hc:∀ v,o.data ≠ .cell v)(hf:o.isFreed=false:=by rfl):L2.Inv X ((s.heap.objs.size,o)::pins) U H { s with heap:=s.heap.push o,toks:=t }:=by
 have J:=I.kept (t':=t) (h':=s.heap.push o) fun b u e=>Heap.get?_push_of_some _ e;refine J.pins_of fun p hp=>?_;rcases List.mem_cons.mp hp with rfl | hp
 . exact⟨Heap.get?_push_size _ hf,I.hok.fresh (Nat.le_refl _),Nat.ne_of_gt I.lt,I.nofs (Nat.le_refl _),hc⟩
 exact J.pin p (List.mem_append_right _ hp)
theorem Inv.pinSet{a:Addr}{o o':Obj}{h':Heap}{t:Nat}(I:L2.Inv X ((a,o)::pins) U H s)(hs:Heap.SameBut a s.heap h')(ho:h'.get? a=some o')(hc:∀ v,o'.data ≠ .cell v)(h0:X.s₀.heap.objs.size<=a)(hp:∀ p∈X.pn++pins,p.1≠a) :
 L2.Inv X ((a,o')::pins) U H { s with heap:=h',toks:=t }:=by
 obtain⟨e1,e2,e3,e4,e5⟩:=I.pin (a,o) (List.mem_append_right _ List.mem_cons_self);have I0:L2.Inv X pins U H s:=Inv.fewer I fun p hp=>List.mem_cons_of_mem _ hp;have J:=I0.turned (t':=t) (h':=h') (it:=a) (fun b u hb e=>(hs.2 b hb).trans e) e2 e3 (.inr h0) (fun x c e z=>by
  obtain⟨v,oc,h1,h2⟩:=I0.cell x c e;rw[z]at h1;have e1':s.heap.get? a=some o:=e1;rw[e1']at h1;cases h1;exact e5 v h2) hp
 refine J.pins_of fun p hp=>?_;rcases List.mem_cons.mp hp with rfl | hp
 . exact⟨ho,e2,e3,e4,hc⟩
 exact J.pin p (List.mem_append_right _ hp)
end
theorem cm(T:String)(its:Array Value)(n:Nat):∀ v,(seqObj T its n).data ≠ .cell v:=fun v z=>by cases z
section
variable{X:Cx}{pins:List (Addr×Obj)}{U:L2.St}{H:Hp}{s:Shared}{kS D:Addr}{vs:List Value}{kz:List Int}{keys:Array Value}{e e1:Nat}{A:Around}{E:Value->Shared->Prop}{PP:PySem.Fin->Shared->Prop}
structure Two(X:Cx)(pins:List (Addr×Obj))(kS D:Addr):Prop where
 ne:kS≠D
 k0:X.s₀.heap.objs.size<=kS
 d0:X.s₀.heap.objs.size<=D
 pk:∀ p∈X.pn++pins,p.1≠kS
 pd:∀ p∈X.pn++pins,p.1≠D
theorem Two.pk'(Z:Two X pins kS D){o:Obj}:∀ p∈X.pn++((D,o)::pins),p.1≠kS:=fun p hp=>by
 rcases List.mem_append.mp hp with z | z
 . exact Z.pk p (List.mem_append_left _ z)
 rcases List.mem_cons.mp z with rfl | z
 . exact Z.ne.symm
 exact Z.pk p (List.mem_append_right _ z)
theorem Two.pd'(Z:Two X pins kS D){o:Obj}:∀ p∈X.pn++((kS,o)::pins),p.1≠D:=fun p hp=>by
 rcases List.mem_append.mp hp with z | z
 . exact Z.pd p (List.mem_append_left _ z)
 rcases List.mem_cons.mp z with rfl | z
 . exact Z.ne
 exact Z.pd p (List.mem_append_right _ z)
theorem p7{st:SortSt}(Z:Two X pins kS D)(I:L2.Inv X ((kS,seqObj "list" keys e)::(D,seqObj "list" #[] e1)::pins) U H s)(hk:IntsAre keys.toList kz)(hlen:kz.length=vs.length)(h64:vs.length < 64)
 (hp:(arrOf st).Perm (keys.zip vs.toArray)) (hs:SortedTo (arrOf st) (arrOf st).size) (hfl:failedOf st=none)
 (h:∀ s' out c,L2.Inv X ((D,seqObj "list" out c)::pins) U H s'->KskOut false kz vs out.toList->PP (.done (.ret .none)) s') :
 wpAny (model X.prog X.w) A (ksk_tail D false e1 (.ref kS) st) PP E s:=by
 have nk:s.heap.get? kS=some (seqObj "list" keys e):=(I.pin _ (List.mem_append_right _ List.mem_cons_self)).1;have nd:s.heap.get? D=some (seqObj "list" #[] e1):=(I.pin (D,_) (List.mem_append_right _ (List.mem_cons_of_mem _ List.mem_cons_self))).1;have hsz:keys.size=vs.length:=by have h1:=hk.length;rw[Array.length_toList]at h1;omega
 have hsz2:(arrOf st).size=vs.length:=by rw[hp.size_eq,Array.size_zip,hsz,List.size_toArray,Nat.min_self]
 have s1:=Heap.SameBut.update s.heap kS (Obj.mapSeq fun _=>(#[]:Array Value));obtain⟨c1,hc1⟩:∃ c1,(s.heap.update kS (Obj.mapSeq fun _=>(#[]:Array Value))).get? kS=some (seqObj "list" #[] c1):=⟨_,get?_update_seq nk fun _=>#[]⟩;have I1:=Inv.pinSet (t:=s.toks) I s1 hc1 (cm _ _ _) Z.k0 Z.pk';have nd1:=(s1.2 D Z.ne.symm).trans nd;have s2:=Heap.SameBut.update (s.heap.update kS (Obj.mapSeq fun _=>(#[]:Array Value))) D (Obj.mapSeq fun _=>(arrOf st).map (·.2));obtain⟨c2,hc2⟩:∃ c2,((s.heap.update kS (Obj.mapSeq fun _=>(#[]:Array Value))).update D (Obj.mapSeq fun _=>(arrOf st).map (·.2))).get? D=some (seqObj "list" ((arrOf st).map (·.2)) c2):=⟨_,get?_update_seq nd1 fun _=>(arrOf st).map (·.2)⟩;have I2:=Inv.pinSet (t:=s.toks) (pins:=(kS,seqObj "list" #[] c1)::pins) (Inv.fewer I1 fun p hp=>by
  rcases List.mem_cons.mp hp with rfl | hp
  . exact List.mem_cons_of_mem _ List.mem_cons_self
  rcases List.mem_cons.mp hp with rfl | hp
  . exact List.mem_cons_self
  exact List.mem_cons_of_mem _ (List.mem_cons_of_mem _ hp)) s2 hc2 (cm _ _ _) Z.d0 Z.pd'
 unfold ksk_tail
 try dsimp only
 refine wpAny_bind (listUpdate_at (n:=e) nk rfl ?_ (by rw[hsz,sizeLine_eq];omega) (Nat.zero_le _))
 refine wpAny_bind (wpAny_letGo ?_);refine wpAny_bind (seqEpoch_at (n:=e1) nd1 rfl ?_);refine wpAny_bind (listUpdate_at (n:=e1) nd1 rfl ?_ (Nat.zero_le _) (Nat.le_trans (Nat.le_of_eq (by simp only[Bool.false_eq_true,if_false,Array.size_map];exact hsz2)) (by rw[sizeLine_eq];omega)))
 rw[hfl];simp only[bne_self_eq_false,Bool.false_eq_true,if_false];exact wpAny_pure (h _ _ c2 (Inv.fewer I2 fun p hp=>by
  rcases List.mem_cons.mp hp with rfl | hp
  . exact List.mem_cons_self
  exact List.mem_cons_of_mem _ (List.mem_cons_of_mem _ hp)) (ksk_out (b:=false) hk hp hs))
theorem za(Z:Two X pins kS D)(I:L2.Inv X ((kS,seqObj "list" keys e)::(D,seqObj "list" #[] e1)::pins) U H s)(hk:IntsAre keys.toList kz)(hlen:kz.length=vs.length)(h64:vs.length < 64)
 (h:∀ s' out c,L2.Inv X ((D,seqObj "list" out c)::pins) U H s'->KskOut false kz vs out.toList->PP (.done (.ret .none)) s') :
 wpAny (model X.prog X.w) A (ksk_end D false vs.toArray e1 (.ref kS) keys) PP E s:=by
 have hsz:keys.size=vs.length:=by have h1:=hk.length;rw[Array.length_toList]at h1;omega
 have hzs:(keys.zip vs.toArray).size=vs.length:=by rw[Array.size_zip,hsz,List.size_toArray,Nat.min_self]
 unfold ksk_end;simp only[Bool.false_eq_true,if_false];by_cases h2:vs.toArray.size < 2
 . rw[if_pos h2,if_pos h2]
   refine wpAny_bind (wpAny_pure ?_);rw[StateT.run_pure];refine wpAny_bind (wpAny_pure ?_)
   try dsimp only
   refine p7 (st:=SortSt.mk' general' (keys.zip vs.toArray) #[] 7 none) Z I hk hlen h64 (Array.Perm.refl _) ?_ rfl h;intro i j hij hj;have hj2:j < (keys.zip vs.toArray).size:=hj;rw[hzs]at hj2;rw[List.size_toArray]at h2;have:i=j:=by omega
   subst this;exact Int.le_refl _
 rw[if_neg h2,if_neg h2];rw[List.size_toArray]at h2;rw[ksk_kind hk (by rw[hsz];omega)]
 refine wpAny_bind (wpAny_pure ?_);refine wpAny_bind (wpAny_mono (wpS_sortRuns (a₀:=keys.zip vs.toArray) (st:=SortSt.mk' oneType' (keys.zip vs.toArray) #[] 7 none)
  (Q:=fun _ st'=>(arrOf st').Perm (keys.zip vs.toArray)/\failedOf st'=none/\SortedTo (arrOf st') (keys.zip vs.toArray).size)
  (ksk_intKeys hk) ⟨Array.Perm.refl _,rfl,rfl,rfl⟩ (by rw[hzs];omega) (by rw[hzs];exact h64) fun st' a1 a2 a3=>⟨a1,a2,a3⟩) ?_ fun _ _ z=>z)
 rintro⟨⟨⟩,st'⟩ s' ⟨rfl,hp,hf,hs⟩
 try dsimp only
 exact p7 Z I hk hlen h64 hp (by rw[hp.size_eq];exact hs) hf h
theorem ww{f:Value}(Z:Two X pins kS D)(I:L2.Inv X ((kS,seqObj "list" #[] 0)::(D,seqObj "list" #[] e1)::pins) U H s)(hlen:kz.length=vs.length)(h64:vs.length < 64)
 (turn:∀(i:Nat) (v:Value) (k:Int),vs[i]?=some v->kz[i]?=some k -> ∀(own:List (Addr×Obj)) (s':Shared),L2.Inv X (own++pins) U H s'->wpAny (model X.prog X.w) A (call f [v]) (fun u s''=>(∃ t,u=.int k t)/\L2.Inv X (own++pins) U H s'') (fun _ _=>False) s')
 (h:∀ s' out c,L2.Inv X ((D,seqObj "list" out c)::pins) U H s'->KskOut false kz vs out.toList->PP (.done (.ret .none)) s') :
 wpAny (model X.prog X.w) A (ksk_rest D f false vs.toArray e1 (.ref kS)) PP E s:=by
 unfold ksk_rest;refine wpAny_bind (wpAny_rule ?_)
 first
  | rw[List.forIn_toArray]
  | (rw[← Array.forIn_toList];simp only[List.toList_toArray])
 refine wpAny_bind (ksk_fold (fun i s'=>∃(kA:Array Value) (e:Nat),L2.Inv X ((kS,seqObj "list" kA e)::(D,seqObj "list" #[] e1)::pins) U H s'/\IntsAre kA.toList (kz.take i)) vs 0 s ⟨#[],0,I,by simpa using IntsAre.nil⟩ ?_ ?_)
 . rintro j x s' hx ⟨kA,e,I',hk⟩
   simp only[Nat.zero_add]at hk ⊢;have hj:j < vs.length:=(List.getElem?_eq_some_iff.mp hx).1;obtain⟨k,hkj⟩:∃ k,kz[j]?=some k:=⟨_,List.getElem?_eq_getElem (by omega)⟩
   have hz:kA.size<=vs.length:=by have h1:=hk.length;rw[Array.length_toList,List.length_take]at h1;omega
   refine wpAny_bind (wpAny_attempt (wpAny_mono (turn j x k hx hkj [(kS,seqObj "list" kA e),(D,seqObj "list" #[] e1)] s' I') (fun v s'' he=>?_) fun _ _ hF=>hF.elim));obtain⟨⟨t2,rfl⟩,I2⟩:=he;have I2:L2.Inv X ((kS,seqObj "list" kA e)::(D,seqObj "list" #[] e1)::pins) U H s'':=I2
   try dsimp only
   have nk:s''.heap.get? kS=some (seqObj "list" kA e):=(I2.pin _ (List.mem_append_right _ List.mem_cons_self)).1;have s1:=Heap.SameBut.update s''.heap kS (Obj.mapSeq (·.push (.int k t2)));obtain⟨c2,hc2⟩:∃ c2,(s''.heap.update kS (Obj.mapSeq (·.push (.int k t2)))).get? kS=some (seqObj "list" (kA.push (.int k t2)) c2):=⟨_,get?_update_seq nk (·.push (.int k t2))⟩;have ek:kz.take (j+1)=kz.take j++[k]:=by rw[List.take_add_one,hkj];simp
   have ea:(kA.push (Value.int k t2)).toList=kA.toList++[Value.int k t2]:=by simp
   refine wpAny_bind (listUpdate_at (n:=e) nk rfl ?_ (by rw[sizeLine_eq];omega) (Nat.le_trans (Nat.le_of_eq (Array.size_push ..)) (by rw[sizeLine_eq];omega)))
   exact wpAny_pure ⟨rfl,kA.push (.int k t2),c2,Inv.pinSet (t:=s''.toks) I2 s1 hc2 (cm _ _ _) Z.k0 Z.pk',by rw[ea,ek];exact ksk_snoc hk⟩
 rintro s' ⟨kA,e,I',hk⟩;have hk':IntsAre kA.toList kz:=by
  rw[List.take_of_length_le (by omega)]at hk
  exact hk
 have nk:s'.heap.get? kS=some (seqObj "list" kA e):=(I'.pin _ (List.mem_append_right _ List.mem_cons_self)).1
 try dsimp only
 refine wpAny_bind (listItems_at (n:=e) nk rfl ?_);exact za Z I' hk' hlen h64 h
theorem xr{f:Value}{n:Nat}(I:L2.Inv X ((D,seqObj "list" vs.toArray n)::pins) U H s)(h0:X.s₀.heap.objs.size<=D)(hpd:∀ p∈X.pn++pins,p.1≠D)(hlen:kz.length=vs.length)(h64:vs.length < 64)
 (turn:∀(i:Nat) (v:Value) (k:Int),vs[i]?=some v->kz[i]?=some k -> ∀(own:List (Addr×Obj)) (s':Shared),L2.Inv X (own++pins) U H s'->wpAny (model X.prog X.w) A (call f [v]) (fun u s''=>(∃ t,u=.int k t)/\L2.Inv X (own++pins) U H s'') (fun _ _=>False) s')
 (h:∀ s' out c,L2.Inv X ((D,seqObj "list" out c)::pins) U H s'->KskOut false kz vs out.toList->PP (.done (.ret .none)) s') :
 wpAny (model X.prog X.w) A (ksk_tree D f false) PP E s:=by
 have nd:s.heap.get? D=some (seqObj "list" vs.toArray n):=(I.pin _ (List.mem_append_right _ List.mem_cons_self)).1;have s1:=Heap.SameBut.update s.heap D (Obj.mapSeq fun _=>(#[]:Array Value));obtain⟨e1,nd1⟩:∃ e1,(s.heap.update D (Obj.mapSeq fun _=>(#[]:Array Value))).get? D=some (seqObj "list" #[] e1):=⟨_,get?_update_seq nd fun _=>#[]⟩;have I1:=Inv.pinSet (t:=s.toks) I s1 nd1 (cm _ _ _) h0 hpd;have I2:=Inv.pinNew (o:=seqObj "tuple" vs.toArray 0) (t:=s.toks) I1 (cm _ _ _);have I2':=Inv.fewer (pins':=(D,seqObj "list" #[] e1)::pins) I2 fun p hp=>List.mem_cons_of_mem _ hp;have I3:=Inv.pinNew (o:=seqObj "list" #[] 0) (t:=s.toks) I2' (cm _ _ _);unfold ksk_tree;refine wpAny_bind (listItems_at (n:=n) nd rfl ?_);refine wpAny_bind (listUpdate_at (n:=n) nd rfl ?_ (by rw[List.size_toArray,sizeLine_eq];omega) (Nat.zero_le _))
 refine wpAny_bind (seqEpoch_at (n:=e1) nd1 rfl ?_);refine wpAny_bind (wpAny_newTuple ?_ (by show vs.length<=sizeLine;rw[sizeLine_eq];omega))
 refine wpAny_bind (wpAny_newList ?_ (Nat.zero_le sizeLine));refine wpAny_holding ?_;refine ww ⟨?_,?_,h0,?_,hpd⟩ I3 hlen h64 turn h
 . exact Nat.ne_of_gt (Heap.lt_size (I2'.pin (D,_) (List.mem_append_right _ List.mem_cons_self)).1)
 . exact I2'.sz
 intro p hp;refine Nat.ne_of_lt (Heap.lt_size (I2'.pin p ?_).1);rcases List.mem_append.mp hp with z | z
 . exact List.mem_append_left _ z
 exact List.mem_append_right _ (List.mem_cons_of_mem _ z)
end
theorem sh{X:Cx}{pins:List (Addr×Obj)}{U:L2.St}{H:Hp}{s:Shared}{l f:Addr}{vs:List Value}{kz:List Int}{A:Around}{E:Value->Shared->Prop}{Q:Value->Shared->Prop}(I:L2.Inv X pins U H s)(hl:s.heap.IsList l vs.toArray)(hlen:kz.length=vs.length)(h64:vs.length < 64)
 (turn:∀(i:Nat) (v:Value) (k:Int),vs[i]?=some v->kz[i]?=some k -> ∀(own:List (Addr×Obj)) (s':Shared),L2.Inv X (own++pins) U H s'->wpAny (model X.prog X.w) A.in1.in1 (call (.ref f) [v]) (fun u s''=>(∃ t,u=.int k t)/\L2.Inv X (own++pins) U H s'') (fun _ _=>False) s')
 (h:∀ D s' out c,L2.Inv X ((D,seqObj "list" out c)::pins) U H s'->X.s₀.heap.objs.size<=D->(∀ p∈X.pn++pins,p.1≠D)->KskOut false kz vs out.toList->Q (.ref D) s') :
 wpAny (model X.prog X.w) A (call (.builtin "sorted") [.ref l] [(Str.ofString "key",.ref f)]) Q E s:=by
 refine call_function_entry_kw kind_sorted plain_sorted entry_sorted (ksk_s1 _ _) ?_;unfold Builtin.«sorted»;refine wpAny_bind (m:=checkCount "sorted" 1 1 _) (wpAny_pure ?_);refine wpAny_bind (collect_list (s:=s) hl ?_ (by rw[sizeLine_eq];omega))
 refine wpAny_bind (wpAny_newList ?_ (show _<=sizeLine by rw[sizeLine_eq];omega))
 have hlt:∀ b o,s.heap.get? b=some o->((s.heap.push (seqObj "list" #[] 0)).update s.heap.objs.size (Obj.mapSeq (· ++ vs.toArray))).get? b=some o:=fun b o q=>by
  have hb:b < s.heap.objs.size:=Heap.lt_size q;rw[Heap.get?_update_ne _ _ _ _ (Nat.ne_of_lt hb),Heap.get?_push_ne _ _ _ (Nat.ne_of_lt hb)];exact q
 have I1:=I.kept (t':=s.toks) hlt;have I2:=Inv.pinNew (o:=seqObj "list" vs.toArray 0) (t:=s.toks) I1 (cm _ _ _);have hD:X.s₀.heap.objs.size<=((s.heap.push (seqObj "list" #[] 0)).update s.heap.objs.size (Obj.mapSeq (· ++ vs.toArray))).objs.size:=I1.sz;have hpd:∀ p∈X.pn++pins,p.1≠((s.heap.push (seqObj "list" #[] 0)).update s.heap.objs.size (Obj.mapSeq (· ++ vs.toArray))).objs.size:=fun p hp=>Nat.ne_of_lt (Heap.lt_size (I1.pin p hp).1);have nd:=(I2.pin _ (List.mem_append_right _ List.mem_cons_self)).1;generalize hDe:((s.heap.push (seqObj "list" #[] 0)).update s.heap.objs.size (Obj.mapSeq (· ++ vs.toArray))).objs.size=D at *;show wpAny _ _ _ _ _ { s with heap:=((s.heap.push (seqObj "list" #[] 0)).update s.heap.objs.size (Obj.mapSeq (· ++ vs.toArray))).push (seqObj "list" vs.toArray 0) };refine wpAny_bind (wpAny_holding (wpAny_call_entry_kw slot_list_sort ⟨_,nd,rfl⟩ entry_list_sort ?body (ksk_l1 _ _)))
 case body=>
  show wpAny (model X.prog X.w) A.in1.in1 (Builtin.«list.sort» ⟨[.ref D],[(Str.ofString "key",.ref f)]⟩) _ _ _;rw[ksk_t1 f D];refine xr I2 hD hpd hlen h64 turn fun s' out c I' ko=>⟨_,rfl,?_⟩;exact wpAny_pure ⟨_,rfl,h D s' out c I' hD hpd ko⟩
structure sH(K:W.Frag)(mg:Str->Option Value)(c P:Addr):Prop where
 hd:∀ h:Heap,K.In h->W.CodeHd h c P
 bm:∃(b:Addr) (ob:Obj),mg "__builtins__"=some (.ref b)/\b≠builtinsNs/\b≠mainGlobals/\K.lookup b=some ob/\ob.cls=.type "module" /\ ob.dict=some builtinsNs/\ob.data=.plain
def jL(pos:Pos)(c':Addr):Array Value:=#[rawInt pos.line,rawInt pos.col,.ref c']
def gy(qual:Str)(c':Addr):HO:=.ext fun h=>h.CodeRec (.ref c') qual
def bI(pos:Pos)(qual:Str)(H:Hp)(P:Addr):Prop:=H P=some (.tbl #[]) ∨ ∃ c',H P=some (.tbl (jL pos c'))/\H c'=some (gy qual c')
theorem uJ{P:Program}{w:World}{H:Hp}{h:Heap}{qual:Str}{c':Addr}(x:h.CodeRec (.ref c') qual):bq P w H h c' (gy qual c'):=by
 refine⟨x,?_,fun h1 h2 y k=>?_⟩
 . obtain⟨c,o,vs,t,e,g,_⟩:=x
   cases e;exact⟨o,g⟩
 obtain⟨c,o,vs,t,e,g,r⟩:=y;cases e;exact⟨c',o,vs,t,rfl,k o g,r⟩
theorem vZ(pos:Pos)(c':Addr):TriplesOk (jL pos c').toList:=trivial
theorem uB(pos:Pos)(c':Addr):codeAmong pos (jL pos c').toList=some (.ref c'):=by
 show(if((pos.line:Int) == (pos.line:Int) && (pos.col:Int) == (pos.col:Int))=true then some (Value.ref c')else _)=_;rw[if_pos (by simp)]
section
variable{X:Cx}{pins:List (Addr×Obj)}{U:L2.St}{H:Hp}{s:Shared}{c P:Addr}{pos:Pos}{qual:Str}{params:Arguments}{body:Expr}{scope:Scope}{firstLine:Nat}{E:Value->Shared->Prop}{Q:Value->Shared->Prop}{A:Around}
theorem uD(I:L2.Inv X pins U H s)(L:sH X.K X.mg c P)(hcode:X.env.code=.ref c)(hg:bI pos qual H P)(hcl:closureFor scope X.env=pure [])
 (h:∀ f H' s' pm ctv c',bI pos qual H' P->ak P H H'->(∀ b,H' b≠none->H b≠none∨s.heap.objs.size<=b)->L2.Inv X ((f,W.kla_obj "<lambda>" qual params body scope [] pm c' ctv)::pins) U H' s'->H' c'=some (gy qual c')->Q (.ref f) s') :
 wpAny (model X.prog X.w) A (makeFunction "<lambda>" qual params (.expr body) scope X.env [] [] [] pos firstLine) Q E s:=by
 have hP:H P≠none:=by
  rcases hg with z | ⟨c',z,_⟩
  . rw[z];simp
  rw[z];simp
 have hgl:s.heap.Ns mainGlobals X.mg:=I.ok.mod.glob.keeps I.bk;have ngP:mainGlobals≠P:=fun z=>by
  obtain⟨o,es,ep,e1,_⟩:=I.ok.mod.glob;exact hP (z ▸ (I.bs _ _ e1).2)
 obtain⟨b,ob,b1,b2,b3,b4,b5,b6,b7⟩:=L.bm;have nbP:b≠P:=fun z=>hP (z ▸ (I.bs _ _ (I.ok.mod.kin _ _ b4)).2);have hB:s.heap.BuiltinsAt X.mg P:=⟨b,ob,b1,b2,b3,nbP,I.kIn _ _ b4,b5,b6,b7⟩;have nocell:∀ pm (c':Addr) ctv v,(W.kla_obj "<lambda>" qual params body scope [] pm c' ctv).data ≠ .cell v:=fun pm c' ctv v z=>by cases z
 rcases hg with z | ⟨c',z,zc⟩
 . have hp:s.heap.get? P=some (W.tabObj #[]):=I.hok P _ z
   refine W.kla_makeFunction hcl I.ok.glob hgl hcode (L.hd _ I.kIn) hp trivial rfl ngP hB fun c' ctv h' tk hx hge hlt hrec htb=>?_;have htb:h'.get? P=some (W.tabObj (jL pos c')):=htb;have hc':H c'=none:=I.hok.fresh hge;have ncP:c'≠P:=fun y=>hP (y ▸ hc');have old:∀ b o,s.heap.get? b=some o->b≠c':=fun b o e=>Nat.ne_of_lt (Nat.lt_of_lt_of_le (Heap.lt_size e) hge);have at_:∀ b,b≠P->b≠c'->upd (upd H P (.tbl (jL pos c'))) c' (gy qual c') b=H b:=fun b n1 n2=>by rw[af n2,af n1]
   have hPn:upd (upd H P (.tbl (jL pos c'))) c' (gy qual c') P=some (.tbl (jL pos c')):=by rw[af ncP.symm,aa]
   have aR:∀ b u,H b=some u->b≠c':=fun b u e=>ah e hc';have un:Un X.fs [] H (upd (upd H P (.tbl (jL pos c'))) c' (gy qual c')) s.heap h':=by
    refine⟨fun b o e n _ _=>hx b o (fun y=>hP (y ▸ n)) e,fun b o e n _ _=>⟨o.slots,hx b o (fun y=>hP (y ▸ n)) e⟩,fun b o e n _=>?_,fun b o e _=>?_,fun b xs e=>?_,fun b o u e=>?_,fun b ps e=>?_⟩
    . rw[at_ b (fun y=>hP (y ▸ n)) (old b o e)];exact n
    . by_cases y:b=P
      . exact⟨_,y ▸ htb⟩
      exact⟨o,hx b o y e⟩
    . rw[at_ b (fun y=>by rw[y,z]at e;cases e) (aR b _ e)];exact e
    . rw[at_ b (fun y=>by rw[y,z]at e;cases e) (aR b _ e)];exact e
    by_cases y:b=P
    . subst y
      rw[z]at e;cases e;exact⟨jL pos c',by rw[hPn];simp⟩
    exact⟨#[],by rw[at_ b y (aR b _ e),e];simp⟩
   have hok:HOk X.prog X.w (upd (upd H P (.tbl (jL pos c'))) c' (gy qual c')) h':=fun b u e=>by
    by_cases y1:b=c'
    . subst y1
      rw[aa]at e;cases e;exact uJ hrec
    by_cases y2:b=P
    . subst y2
      rw[hPn]at e;cases e;exact htb
    rw[at_ b y2 y1]at e;refine(I.hok b u e).stay (fun d v hd q=>hx d v ?_ q) (fun d q=>?_) fun d xs q=>?_
    . rcases hd with rfl | hd
      . exact y2
      intro y;rw[y,z]at hd;cases hd
    . rw[at_ d (fun y=>by rw[y,z]at q;cases q) (aR d _ q)];exact q
    rw[at_ d (fun y=>by rw[y,z]at q;cases q) (aR d _ q)];exact q
   have I1:=I.un (t':=tk) un hok;have I2:=Inv.pinNew (o:=W.kla_obj "<lambda>" qual params body scope [] ((X.mg "__name__").getD .none) c' ctv) (t:=tk) I1 (nocell _ _ _);refine h _ _ _ _ ctv c' (.inr ⟨c',hPn,aa⟩) (fun b o n e=>by rw[at_ b n (aR b _ e)];exact e) (fun b hb=>?_) I2 aa
   by_cases y1:b=c'
   . exact .inr (y1 ▸ hge)
   by_cases y2:b=P
   . exact .inl (y2 ▸ hP)
   rw[at_ b y2 y1]at hb;exact .inl hb
 have hp:s.heap.get? P=some (W.tabObj (jL pos c')):=I.hok P _ z;refine W.kla_makeFunctionHit hcl I.ok.glob hgl hcode (L.hd _ I.kIn) hp (vZ pos c') (uB pos c') hB fun ctv h' tk hk _=>?_;have I1:=I.kept (t':=tk) hk;have I2:=Inv.pinNew (o:=W.kla_obj "<lambda>" qual params body scope [] ((X.mg "__name__").getD .none) c' ctv) (t:=tk) I1 (nocell _ _ _);exact h _ _ _ _ ctv c' (.inr ⟨c',z,zc⟩) (fun b o _ e=>e) (fun b hb=>.inl hb) I2 zc
end
def wo(K:W.Frag)(P:Addr):W.Frag:=K.filter fun p=>p.1 != P
theorem dw{P:Addr}:∀{K:W.Frag},(wo K P).lookup P=none
 | []=>rfl
 | (a,o)::K=>by
   unfold wo;by_cases h:a=P
   . subst h
     rw[List.filter_cons_of_neg (by simp)]
     exact dw
   rw[List.filter_cons_of_pos (by simpa using h),List.lookup_cons,beq_eq_false_iff_ne.mpr (Ne.symm h)]
   exact dw
theorem eM{P b:Addr}(h:b≠P):∀{K:W.Frag},(wo K P).lookup b=K.lookup b
 | []=>rfl
 | (a,o)::K=>by
   unfold wo;by_cases ha:a=P
   . subst ha
     rw[List.filter_cons_of_neg (by simp),List.lookup_cons,beq_eq_false_iff_ne.mpr h]
     exact eM h
   rw[List.filter_cons_of_pos (by simpa using ha),List.lookup_cons,List.lookup_cons]
   cases b == a with
   | true=>rfl
   | false=>exact eM h
section
variable{K:W.Frag}{P:Addr}
theorem Ah{b:Addr}{o:Obj}(e:(wo K P).lookup b=some o):K.lookup b=some o:=by
 by_cases h:b=P
 . rw[h,dw]at e;cases e
 rw[eM h]at e;exact e
theorem Bm{h:Heap}(X:K.In h):(wo K P).In h:=fun b o e=>X b o (Ah e)
variable(hP:K.lookup P=some (W.tabObj #[]))
include hP
theorem e_{b:Addr}{o:Obj}(e:K.lookup b=some o)(n:o.data ≠ .fields #[]):(wo K P).lookup b=some o:=by
 by_cases h:b=P
 . subst h
   rw[hP]at e;cases e;exact absurd rfl n
 rw[eM h];exact e
theorem wK{a:Addr}{x:Str}:W.nsIn (wo K P) a x=W.nsIn K a x:=by
 unfold W.nsIn;by_cases h:a=P
 . rw[h,dw,hP]
 rw[eM h]
theorem uj{x:Str}(v:Value):W.ownIn (wo K P) x v=W.ownIn K x v:=by
 cases v with
 | ref a=>
   unfold W.ownIn;by_cases h:a=P
   . dsimp only;rw[h,dw,hP]
   dsimp only;rw[eM h]
   split
   . exact wK hP
   rfl
 | _=>rfl
theorem jR{x:Str}:∀ l:List Value,W.alongIn (wo K P) x l=W.alongIn K x l
 | []=>rfl
 | c::r=>by
   unfold W.alongIn;rw[uj hP,jR r]
theorem ap{t:Value}{x:Str}:W.findIn (wo K P) t x=W.findIn K t x:=by
 cases t with
 | ref a=>
   unfold W.findIn;by_cases h:a=P
   . dsimp only;rw[h,dw,hP]
   dsimp only;rw[eM h]
   split
   . exact jR hP _
   rfl
 | _=>rfl
theorem jv{C:Addr}:W.clsIn (wo K P) C=W.clsIn K C:=by
 unfold W.clsIn;by_cases h:C=P
 . rw[h,dw,hP]
 rw[eM h]
theorem d9{C:Addr}:W.hasDictIn (wo K P) C=W.hasDictIn K C:=by unfold W.hasDictIn;rw[jv hP]
theorem dZ{C:Addr}:W.plainOver (wo K P) C=W.plainOver K C:=by unfold W.plainOver;rw[jv hP]
theorem fb{C:Addr}{x:Str}:W.plainGet (wo K P) C x=W.plainGet K C x:=by unfold W.plainGet;rw[ap hP,ap hP]
theorem ij{v t:Value}(n:t ≠ .none)(e:W.typeIn K v=some t):W.typeIn (wo K P) v=some t:=by
 cases v with
 | ref a=>
   unfold W.typeIn at e ⊢
   dsimp only at e ⊢
   by_cases h:a=P
   . rw[h,hP]at e
     cases e;exact absurd rfl n
   rw[eM h];exact e
 | _=>exact e
theorem aO{v:Value}(e:W.isFn K v=true):W.isFn (wo K P) v=true:=by
 unfold W.isFn at e ⊢;exact beq_iff_eq.mpr (ij hP (fun z=>by cases z) (beq_iff_eq.mp e))
theorem gD{v:Value}{x:Str}{r:Value}(e:W.specialIn K v x=some (some r)):W.specialIn (wo K P) v x=some (some r):=by
 unfold W.specialIn at e ⊢;obtain⟨t,h1,h2⟩:=Option.bind_eq_some_iff.mp e;refine Option.bind_eq_some_iff.mpr ⟨t,ij hP (fun z=>?_) h1,?_⟩
 . subst z;cases h2
 rw[ap hP];exact h2
theorem dL{v:Value}(e:W.keepIn K v=true):W.keepIn (wo K P) v=true:=by
 cases v with
 | ref a=>
   unfold W.keepIn at e ⊢
   dsimp only at e ⊢
   by_cases h:a=P
   . rw[h,hP]at e;cases e
   rw[eM h];split at e
   . rfl
   . exact beq_iff_eq.mpr (gD hP (beq_iff_eq.mp e))
   cases e
 | _=>cases e
theorem tV{t b:Value}:W.subIn (wo K P) t b=W.subIn K t b:=by
 unfold W.subIn;split
 . rfl
 . unfold W.mroIn;rw[jv hP]
 rfl
theorem qZ{v b:Value}{r:Bool}(e:W.instIn K v b=some r):W.instIn (wo K P) v b=some r:=by
 unfold W.instIn at e ⊢;obtain⟨t,h1,h2⟩:=Option.bind_eq_some_iff.mp e;refine Option.bind_eq_some_iff.mpr ⟨t,ij hP (fun z=>?_) h1,?_⟩
 . subst z;cases h2
 rw[tV hP];exact h2
theorem fY{C:Addr}(e:W.makesIn K C=true):W.makesIn (wo K P) C=true:=by
 unfold W.makesIn at e ⊢;by_cases h:C=P
 . rw[h,hP]at e;cases e
 rw[eM h];split at e
 . simp only[Bool.and_eq_true,beq_iff_eq]at e ⊢
   exact⟨⟨e.1.1,gD hP e.1.2⟩,qZ hP e.2⟩
 cases e
theorem lq{c:Value}{q:Str}(e:W.codeIn K c q=true):W.codeIn (wo K P) c q=true:=by
 unfold W.codeIn at e ⊢;split at e
 . rename_i a
   by_cases h:a=P
   . rw[h,hP]at e
     cases e
   rw[eM h];exact e
 cases e
theorem Fun.wo{x qual:Str}{st:Stmt}{f:Addr}{fd:FuncData}(F:Fun K x qual st f fd):Fun (SW.wo K P) x qual st f fd:=by
 obtain⟨oc,od,kV,doc,pm,an,cdv,ct,osl,e1,e2,e3⟩:=F.ex;exact⟨⟨oc,od,kV,doc,pm,an,cdv,ct,osl,e1,e_ hP e2 (fun z=>by cases z),lq hP e3⟩,dL hP F.kp⟩
end
theorem rF{Pg:Program}{w:World}{K:W.Frag}{mg mb:Str->Option Value}{CX:CXT}{k:Nat}{fa a c P:Addr}{fd:FuncData}{x:Str}{sp:Sp}{s₁:Shared}{vs:List Value}{ns:List Int}
 (KX:K.In s₁.heap) (hKP:K.lookup P=none) (hc:W.CodeHd s₁.heap c P) (hP:s₁.heap.get? P=some (W.tabObj #[]))
 (hns:s₁.heap.Ns mainGlobals mg) (hb:s₁.heap.Ns builtinsNs mb) (hbb:∀ x:Str,x ≠ "__name__" -> mb x=bootBuiltins x) (hlim:s₁.heap.NoLimit) (hg:s₁.gens=#[])
 (ha:s₁.heap.get? a=some { cls:=.type "list",data:=.seq vs.toArray }) (hi:IntsAre vs ns) (hl:ns.length<=sizeLine) (hr:bp k callerA)
 (F:∀ base:Heap,K.In base->base.Ns mainGlobals mg->eO Pg w K mg base CX k fa fd [x] sp) (hbind:∀(s:Shared) (u:Value),BindsTo s fd ⟨[u],[]⟩ [(x,u)])
 (hsp:∀ H:Hp,H P=some (.tbl #[])->SqL K H a (ns.map V.int)->sp [.ref a] H (fun v _=>v=.bl true) fun _ _ _=>False)
 (hCX:∀ H e s',CX [] H s₁ (fun _ _ _=>False) e s'->False) :
 codeAny (model Pg w) callerA (.call (.ref fa) ⟨[.ref a],[]⟩) (fun r s'=>r=.ok (.ret (.bool true))/\OldK s₁.heap s'.heap/\s'.os=s₁.os/\AllBare s'.gens) s₁:=by
 have rv:=hW hi;have lenV:=hi.length;have naP:a≠P:=fun z=>by rw[z,hP]at ha;cases ha
 have core:∀ H:Hp,H P=some (.tbl #[])->(∀ b,b≠P->H b=none ∨ ∃ o xs,H b=some (.frz o (.lst xs)))->SqL K H a (ns.map V.int)->HOk Pg w H s₁.heap->(∀ b,b≠P->H b≠none->b=a)->(H a≠none->K.lookup a=none) ->
  codeAny (model Pg w) callerA (.call (.ref fa) ⟨[.ref a],[]⟩) (fun r s'=>r=.ok (.ret (.bool true))/\OldK s₁.heap s'.heap/\s'.os=s₁.os/\AllBare s'.gens) s₁:=by
  intro H hHP hO hS hok hA hK;have base_of:∀{b:Addr}{o:Obj},s₁.heap.get? b=some o->H b=none->(lM s₁.heap H).get? b=some o:=fun e n=>uf e n;have noA:∀{b:Addr}{o:Obj}{es:Array DictEntry}{ep:Nat},s₁.heap.get? b=some o->o.data=.dict es ep->H b=none:=fun {b o es ep} e d=>by
   by_cases z:b=P
   . subst z
     rw[hP]at e;cases e;cases d
   cases q:H b with
   | none=>rfl
   | some u=>
     have e':b=a:=hA b z (by rw[q];simp)
     subst e';rw[ha]at e;cases e;have d':Data.seq vs.toArray _=Data.dict es ep:=d;cases d'
  have nsK:∀{b:Addr}{m:Str->Option Value},s₁.heap.Ns b m->(lM s₁.heap H).Ns b m:=fun {b m} ⟨o,es,ep,e,d,r⟩=>⟨o,es,ep,base_of e (noA e d),d,r⟩;have hKb:K.In (lM s₁.heap H):=fun b o e=>base_of (KX b o e) (by
   by_cases z:b=P
   . rw[z,hKP]at e;cases e
   cases q:H b with
   | none=>rfl
   | some u=>
     have e':b=a:=hA b z (by rw[q];simp)
     subst e';rw[hK (by rw[q];simp)]at e;cases e)
  have hM:Mod K mg (lM s₁.heap H):=⟨hKb,nsK hns,⟨mb,nsK hb,hbb⟩,let⟨mc,h1,h2⟩:=hlim;⟨mc,nsK h1,h2⟩⟩;have e0:j8 Pg w K mg (lM s₁.heap H) callerA [] s₁ H:=⟨rfl,hM,fun b o e=>vJ e,Nat.le_of_eq (rm _ _),trivial,fun b hb=>absurd (show b∈([]:List Addr)from hb) (by simp),hok,.of_eq hg⟩
  refine codeAny_mono ((F _ hKb (nsK hns)).run callerA [] s₁ H ⟨[.ref a],[]⟩ [.ref a] [.ref a] _ _ hr e0 (hbind s₁ (.ref a)) (.cons rfl .nil) (hsp H hHP hS)) fun r s' h=>?_;cases r with
  | error e=>exact(hCX H e s' h).elim
  | ok fl=>
    cases fl with
    | next=>exact False.elim h
    | brk=>exact False.elim h
    | cont=>exact False.elim h
    | ret u=>
      obtain⟨v,H',os,bare,un,hok',r',q⟩:=h;have q':v=.bl true:=q;subst q';obtain rfl:u=Value.bool true:=r';refine⟨rfl,⟨fun b o e=>?_,fun b o e=>un.there b o e (by simp)⟩,os,bare⟩
      by_cases z:b=P
      . subst z
        rw[hP]at e;cases e;obtain⟨more,e2⟩:=un.tbls b _ hHP;have e3:s'.heap.get? b=some (W.tabObj (#[]++more)):=hok' b _ e2;exact .inr (.inl ⟨(hc.tab hP).isCodeTable,rfl,#[],more,rfl,e3⟩)
      refine .inl ?_;cases q:H b with
      | none=>exact un.keep b o e q (by intro z;exact absurd (show b∈([]:List Addr)from z) (by simp)) (by simp)
      | some u=>
        rcases hO b z with z | ⟨ob,xs,z⟩
        . rw[q]at z;cases z
        have z2:=un.frzs b ob _ z;obtain⟨e1,_⟩:=hok b _ z;obtain⟨e2,_⟩:=hok' b _ z2;rw[e]at e1;cases e1;exact e2
 cases hk:K.lookup a with
 | some o=>
   have e:=KX a o hk;rw[ha]at e;cases e;refine core (fun b=>if b=P then some (.tbl #[])else none) (if_pos rfl) (fun b z=>.inl (if_neg z)) (.inr ⟨_,vs.toArray,_,hk,rfl,rfl,rfl,by rw[List.size_toArray,lenV];exact hl,by simpa using rv⟩) (fun b u z=>?_) (fun b n z=>absurd (if_neg n) z) fun z=>absurd (if_neg naP) z
   by_cases hb:b=P
   . have z':=(if_pos hb).symm.trans z
     cases z';subst hb;exact hP
   have z':=(if_neg hb).symm.trans z;cases z'
 | none=>
   refine core (upd (fun b=>if b=a then some (.frz { cls:=.type "list",data:=.seq vs.toArray } (.lst (ns.map V.int)))else none) P (.tbl #[])) aa (fun b n=>?_) (.inl (.inr ⟨{ cls:=.type "list",data:=.seq vs.toArray },by rw[af naP];exact if_pos rfl⟩)) (fun b u z=>?_) (fun b n z=>?_) fun _=>hk
   . rw[af n]
     by_cases hb:b=a
     . exact .inr ⟨_,_,if_pos hb⟩
     exact .inl (if_neg hb)
   . by_cases hb:b=P
     . subst hb
       rw[aa]at z;cases z;exact hP
     rw[af hb]at z;by_cases hb:b=a
     . have z':=(if_pos hb).symm.trans z
       cases z';subst hb;exact⟨ha,by rw[List.length_map];exact hl,vs,_,rv,ha⟩
     have z':=(if_neg hb).symm.trans z;cases z'
   rw[af n]at z;by_cases hb:b=a
   . exact hb
   exact absurd (if_neg hb) z
theorem wy{P:Program}{w:World}{K:W.Frag}{mg:Str->Option Value}{base:Heap}{A:Around}{outer:List Env}{s:Shared}{H:Hp}{k:Nat}{f c':Addr}{qual:Str}{params:Arguments}{body:Expr}{scope:Scope}{pm ctv:Value}{N ps:List Str}{us:List Value}{vs:List V}{Q:VK}{E:XK}{t:TE}
 (e0:j8 P w K mg base A outer s H) (hr:bp (k+1) A) (ho:s.heap.get? f=some (W.kla_obj "<lambda>" qual params body scope [] pm c' ctv)) (hc:H c'=some (gy qual c')) (S:am N ps scope)
 (hb:bindArgs (W.kla_fn "<lambda>" qual params body scope [] pm (.ref c') ctv) ⟨us,[]⟩=pure (ps.zip us)) (hl:vs.length=ps.length) (r:aH vs us)
 (ht:PE (f_ CX0 P w K mg base N qual scope f (.ref c') A outer s H E).nox body t) (hq:t (cg N vs) H Q) :
 codeAny (model P w) A (.call (.ref f) ⟨us,[]⟩) (CR CX0 outer P w H s Q E) s:=by
 have KX:K.In s.heap:=e0.mod.kin.keeps fun b o e=>(e0.bs b o e).1;have lim:s.heap.NoLimit:=e0.mod.nolimit.keeps fun b o e=>(e0.bs b o e).1;have hkind:∀ y∈ps.zip us,scope.names.lookup y.1=some .local∨(scope.names.lookup y.1=some .cell/\((cellsFrom (s.heap.objs.size+1) scope.names []).lookup y.1).isSome=true):=fun⟨n,v⟩ hy=>by
  rcases S.par n (List.of_mem_zip hy).1 with q | q
  . exact .inl q
  exact .inr ⟨q,W.cellsFrom_some _ _ _ (.inl q)⟩
 refine W.kla_callFunE hr.depth ho rfl S.co S.gen rfl (e0.hok c' _ hc).1 ?_;rw[hb];refine wpAny_pure ?_;refine wpAny_newFunctionEnv_cells S.kind hkind fun env he s1 x=>?_;subst he;refine⟨lim.keeps x.toInCall.keep,W.kla_codeExpr ?_⟩;have I:L2.Inv (f_ CX0 P w K mg base N qual scope f (.ref c') A outer s H E) [] (cg N vs) H s1:=k9 S hr.hd e0 hl r x;refine wpAny_mono (ht [] s1 (cg N vs) H _ (I.wish _) hq) (fun u s' hs=>?_) fun e s' hs=>False.elim hs;obtain⟨v,H',J,rv,q⟩:=hs;exact⟨v,H',J.os,J.bare,J.base,J.hok,rv,q⟩
theorem Inv.trk{X:Cx}{pins:List (Addr×Obj)}{U:L2.St}{H:Hp}{s:Shared}{D:Addr}{out:Array Value}{c:Nat}{xs:List V}(I:L2.Inv X ((D,seqObj "list" out c)::pins) U H s)(h0:X.s₀.heap.objs.size<=D)(hp:∀ p∈X.pn++pins,p.1≠D)
 (hl:xs.length<=sizeLine) (r:aH xs out.toList):L2.Inv X pins U (upd H D (.lst xs)) s:=by
 obtain⟨e1,e2,e3,e4,e5⟩:=I.pin (D,seqObj "list" out c) (List.mem_append_right _ List.mem_cons_self);have e1:s.heap.get? D=some (seqObj "list" out c):=e1;have e2:H D=none:=e2;have I0:L2.Inv X pins U H s:=Inv.fewer I fun p hp=>List.mem_cons_of_mem _ hp;refine I0.step (g':=s.gens) (d':=s.drawn) (t':=s.toks) (h':=s.heap) (ch:=[D]) (fun b hb=>?_) (fun b o _ _ _ e _=>e) (fun b o _ _ _ e _=>⟨o.slots,e⟩) (fun b o hb e n=>?_) (fun b o _ e=>⟨o,e⟩) (fun b xs e=>?_) (fun b o u e=>?_) (fun b ps e=>?_) (fun m h=>h) (fun b u e=>?_) I0.bare
 . obtain rfl:b=D:=by simpa using hb
   refine⟨.inr h0,e3,fun x cc e z=>?_,hp⟩;obtain⟨v,oc,h1,h2⟩:=I0.cell x cc e;rw[z,e1]at h1;cases h1;exact e5 v h2
 . rw[af (fun z=>hb (by simp[z]))];exact n
 . rw[af (ah e e2)];exact e
 . rw[af (ah e e2)];exact e
 . exact⟨#[],by rw[af (ah e e2),e];simp⟩
 by_cases z:b=D
 . subst z
   rw[aa]at e;cases e;exact⟨hl,out.toList,c,r,by simpa [seqObj] using e1⟩
 rw[af z]at e;refine(I0.hok b u e).stay (fun d v _ q=>q) (fun d q=>?_) fun d xs q=>?_
 . rw[af (ah q e2)];exact q
 rw[af (ah q e2)];exact q
def Srt(kz:List Int)(vs out:List V):Prop:=∃ ps:List (Int×V),ps.Perm (kz.zip vs)/\out=ps.map Prod.snd/\ps.Pairwise fun p q=>p.1<=q.1
theorem uL{α β:Type}{R:α -> β -> Prop}{l l':List β}(h:l.Perm l'):∀{m':List α},Paired R m' l' -> ∃ m,m.Perm m'/\Paired R m l:=by
 induction h with
 | nil=>intro m' q;cases q;exact⟨[],.nil,.nil⟩
 | cons x _ ih=>
   intro m' q;cases q with
   | cons a b=>
     obtain⟨m,h1,h2⟩:=ih b;exact⟨_::m,h1.cons _,.cons a h2⟩
 | swap x y l=>
   intro m' q;cases q with
   | cons a b=>
     cases b with
     | cons c d=>exact⟨_::_::_,.swap _ _ _,.cons c (.cons a d)⟩
 | trans h1 h2 i1 i2=>
   intro m' q;obtain⟨m,p1,p2⟩:=i2 q;obtain⟨n,p3,p4⟩:=i1 p2;exact⟨n,p3.trans p1,p4⟩
def z_(p:Int×V)(q:Int×Value):Prop:=p.1=q.1/\aJ p.2 q.2
theorem qj:∀{kz:List Int}{vs:List V}{us:List Value},aH vs us->Paired z_ (kz.zip vs) (kz.zip us)
 | [],_,_,_=>by simp;exact .nil
 | _::_,_,_,.nil=>.nil
 | k::kz,_,_,.cons a b=>.cons ⟨rfl,a⟩ (qj b)
theorem pY:∀{ps:List (Int×V)}{qs:List (Int×Value)},Paired z_ ps qs->aH (ps.map Prod.snd) (qs.map Prod.snd)
 | _,_,.nil=>.nil
 | _,_,.cons a b=>.cons a.2 (pY b)
theorem qA:∀{ps:List (Int×V)}{qs:List (Int×Value)},Paired z_ ps qs->ps.map Prod.fst=qs.map Prod.fst
 | _,_,.nil=>rfl
 | _,_,.cons a b=>by rw[List.map_cons,List.map_cons,a.1,qA b]
theorem tI{α:Type}{ps:List (Int × α)}:(ps.Pairwise fun p q=>p.1<=q.1) ↔ (ps.map Prod.fst).Pairwise (· <= ·):=by rw[List.pairwise_map]
theorem Srt.of{kz:List Int}{vs:List V}{us out:List Value}(r:aH vs us)(h:KskOut false kz us out):∃ xs,Srt kz vs xs/\aH xs out:=by
 obtain⟨ps,h1,rfl,h3⟩:=h;obtain⟨qs,p1,p2⟩:=uL h1 (qj (kz:=kz) r);refine⟨qs.map Prod.snd,⟨qs,p1,rfl,?_⟩,pY p2⟩;have h3:ps.Pairwise fun p q=>p.1<=q.1:=by simpa using h3
 exact tI.mpr (qA p2 ▸ tI.mp h3)
theorem Srt.len{kz:List Int}{vs out:List V}(hl:kz.length=vs.length)(h:Srt kz vs out):out.length=vs.length:=by
 obtain⟨ps,h1,rfl,_⟩:=h;rw[List.length_map,h1.length_eq,List.length_zip,hl,Nat.min_self]
theorem Srt.one{k:Int}{v:V}{out:List V}(h:Srt [k] [v] out):out=[v]:=by
 obtain⟨ps,h1,rfl,_⟩:=h;have:ps=[(k,v)]:=List.perm_singleton.mp h1;rw[this];rfl
theorem Srt.two{k l:Int}{v w:V}{out:List V}(h:Srt [k,l] [v,w] out)(hn:k≠l):(k < l/\out=[v,w])∨(l < k/\out=[w,v]):=by
 obtain⟨ps,h1,rfl,h3⟩:=h;rcases ksk_perm2 h1 with rfl | rfl
 . have:=List.rel_of_pairwise_cons h3 (by simp:(l,w)∈[(l,w)])
   exact .inl ⟨by dsimp only at this;omega,rfl⟩
 have:=List.rel_of_pairwise_cons h3 (by simp:(k,v)∈[(k,v)])
 exact .inr ⟨by dsimp only at this;omega,rfl⟩
theorem n_:∀{xs:List V}{us:List Value}{i:Nat}{u:Value},aH xs us->us[i]?=some u -> ∃ x,xs[i]?=some x/\aJ x u
 | _,_,_,_,.nil,h=>by simp at h
 | _,_,0,_,.cons a _,h=>by simp at h;subst h;exact⟨_,rfl,a⟩
 | _,_,i+1,_,.cons _ b,h=>by
   obtain⟨x,h1,h2⟩:=n_ (i:=i) b (by simpa using h)
   exact⟨x,by simpa using h1,h2⟩
def o0(P:Addr)(pos:Pos)(qual:Str)(N:List Str)(tl tb:TE):TE:=fun U H Q=>tl U H fun x H1=>∃(a:Addr) (vs:List V) (kz:List Int),[x]=[V.ref a]/\H1 a=some (.lst vs)/\kz.length=vs.length/\vs.length < 64/\bI pos qual H1 P /\
 ∀ H2,bI pos qual H2 P->ak P H1 H2->(∀(i:Nat) v k,vs[i]?=some v->kz[i]?=some k->tb (cg N [v]) H2 fun u H3=>u=.int k/\H3=H2) /\ ∀ D out,H2 D=none->Srt kz vs out->Q (.ref D) (upd H2 D (.lst out))
theorem sL{X:Cx}{e:Expr}{tl tb:TE}{params:Arguments}{body:Expr}{scope:Scope}{c P:Addr}{lp kp p pos:Pos}{x:Str}{k:Nat}
 (hg:Gl X "sorted") (hm:X.mg "sorted"=none) (L:sH X.K X.mg c P) (hcode:X.env.code=.ref c) (hr:bp (k+3) X.A) (S:am [x] [x] scope) (he:PE X e tl)
 (hb:∀(f c':Addr) (A:Around) (outer:List Env) (s:Shared) (H:Hp) (E:XK),bp k (A.deeper (envOfC (X.env.qual ++ "<lambda>") scope s.heap.objs.size f (.ref c')))->PE (f_ CX0 X.prog X.w X.K X.mg X.base [x] (X.env.qual ++ "<lambda>") scope f (.ref c') A outer s H E).nox body tb)
 (hbind:∀(qual:Str) (pm:Value) (c':Addr) (ctv u:Value),bindArgs (W.kla_fn "<lambda>" qual params body scope [] pm (.ref c') ctv) ⟨[u],[]⟩=pure ([x].zip [u]):=by intros;rfl)
 (hcl:closureFor scope X.env=pure []:=by rfl) (hdef:defaultsOf params X.env=([],[]):=by rfl)
 (hse:starEach [e] X.env=(false,eval e X.env)::starEach [] X.env:=by rfl) :
 PE X (.Call (.Name "sorted" p) [e] [⟨some "key",.Lambda params body scope lp,kp⟩] pos) (o0 P lp (X.env.qual ++ "<lambda>") [x] tl tb):=by
 intro pins s U H Q I h;refine wpAny_Call_Name_kw (je I hg hm b_sorted ?_);have ha:PA X [e] (fQ tl fS):=qv he sP hse;refine callWith_kw (he:=by rw[hse];rfl) (hplain:=by rw[hse];rfl) (thn (ha pos pins s U H (fun ws H1=>∃(a:Addr) (vs:List V) (kz:List Int),ws=[V.ref a]/\H1 a=some (.lst vs)/\kz.length=vs.length/\vs.length < 64/\bI lp (X.env.qual ++ "<lambda>") H1 P /\
  ∀ H2,bI lp (X.env.qual ++ "<lambda>") H2 P->ak P H1 H2->(∀(i:Nat) v k,vs[i]?=some v->kz[i]?=some k->tb (cg [x] [v]) H2 fun u H3=>u=.int k/\H3=H2) /\ ∀ D out,H2 D=none->Srt kz vs out->Q (.ref D) (upd H2 D (.lst out))) I h)
  fun us s1 ⟨ws,H1,I1,r,a,vs,kz,e1,ha,hlen,h64,hL,q⟩=>?_)
 subst e1;cases r with
 | cons ra rn=>
   cases rn;obtain rfl:=ra;refine kws_cons (W.kla_eval hdef (uD I1 L hcode hL hcl fun f H2 s2 pm ctv c' hL2 kb _ I2 hc'=>kws_nil ?_));obtain⟨q1,q2⟩:=q H2 hL2 kb;have nP:a≠P:=fun z=>by
    rw[z]at ha;rcases hL with y | ⟨_,y,_⟩ <;> rw[ha]at y <;> cases y
   have ha2:H2 a=some (.lst vs):=kb a _ nP ha;obtain⟨_,its,n,rv,hget⟩:=I2.hok a _ ha2;have hlen2:kz.length=its.length:=by rw[hlen,rv.length]
   show wpAny (model X.prog X.w) X.A (call (.builtin "sorted") [.ref a] [(Str.ofString "key",.ref f)]) _ _ _;refine sh (vs:=its) (kz:=kz) I2 ⟨_,hget,rfl,n,rfl⟩ hlen2 (by rw[← rv.length];exact h64) (fun i u k' hu hk own s' I'=>?_) fun D s' out c I' h0 hp ko=>?_
   . obtain⟨v,hv,rvu⟩:=n_ rv hu
     have hr2:bp (k+1) X.A.in1.in1:=(bp.in1 (bp.in1 hr));have hpin:=(I'.pin (f,_) (List.mem_append_right _ (List.mem_append_right _ List.mem_cons_self))).1;refine wpAny_call (codeAny_mono (wy (N:=[x]) (ps:=[x]) (us:=[u]) (vs:=[v]) (E:=E0) I'.env0.in1.in1 hr2 hpin hc' S (hbind _ _ _ _ _) rfl (.cons rvu .nil) (hb f c' _ _ _ _ _ (hr2.deeper _)) (q1 i v k' hv hk)) fun r2 s3 hq=>?_);cases r2 with
     | error e=>exact False.elim hq
     | ok fl=>
       cases fl with
       | ret u2=>
         obtain⟨v2,H3,I3,r3,e3,e4⟩:=I'.after hq;subst e3;subst e4;exact⟨r3,I3⟩
       | next=>exact False.elim hq
       | brk=>exact False.elim hq
       | cont=>exact False.elim hq
   obtain⟨xs,hs,rx⟩:=Srt.of rv ko;have hD:H2 D=none:=(I'.pin (D,_) (List.mem_append_right _ List.mem_cons_self)).2.1;refine⟨.ref D,_,Inv.fewer (Inv.trk I' h0 hp (by rw[Srt.len hlen hs,sizeLine_eq];omega) rx) fun p hp=>List.mem_cons_of_mem _ hp,rfl,q2 D xs hD hs⟩
structure yE(K:W.Frag)(mg:Str->Option Value)(x:Str)(st:Stmt)(ps:List Str)(c:Addr):Prop where
 ex:∃(f:Addr) (oc:Value) (od:Option Addr) (kV doc pm:Value) (an:Option Addr) (ct:Value) (osl:Array (Option Value)),
  K.lookup f=some ⟨oc,od,.func (W.fnOf x x (cb st) (bv st) (ae st) .none kV doc pm an (.ref c) ct),osl⟩/\W.codeIn K (.ref c) x=true/\W.keepIn K (.ref f)=true/\mg x=some (.ref f) /\
  bW K (W.fnOf x x (cb st) (bv st) (ae st) .none kV doc pm an (.ref c) ct) ps []
theorem yE.fn{P:Program}{w:World}{K:W.Frag}{mg:Str->Option Value}{base:Heap}{x:Str}{st:Stmt}{N ps:List Str}{k:Nat}{sp:Sp}{c:Addr}(d:yE K mg x st ps c)(S:am N ps (ae st))(len:∀ vs H Q E,sp vs H Q E->vs.length=ps.length)
 (hbody:∀(f:Addr) (A:Around) (outer:List Env) (s:Shared) (H:Hp) (vs:List V) (Q:VK) (E:XK),bp k (A.deeper (envOfC x (ae st) s.heap.objs.size f (.ref c)))->sp vs H Q E ->
  ∃ t,Bx (PSs (f_ CX0 P w K mg base N x (ae st) f (.ref c) A outer s H E).nox (bv st) t)/\t { nx:=fun _ H'=>Q .non H',rt:=Q } (cg N vs) H):Fn P w K mg base x (k+1) ps sp:=by
 obtain⟨f,oc,od,kV,doc,pm,an,ct,osl,e1,e2,e3,e4,e5⟩:=d.ex;exact⟨f,_,xS e1 e2 S len (fun A outer s H vs Q E hr h=>let⟨t,h1,h2⟩:=hbody f A outer s H vs Q E hr h;⟨t,h1.out.nox,h2⟩),e4,e3,e5⟩
theorem B.sortK{X:Cx}{e:Expr}{tl tb:TE}{params:Arguments}{body:Expr}{scope:Scope}{c P:Addr}{lp kp p pos:Pos}{x:Str}{k:Nat}
 (hm:X.mg "sorted"=none) (L:sH X.K X.mg c P) (hr:bp (k+3) X.A) (S:am [x] [x] scope) (he:Bx (PE X e tl))
 (hb:∀(f c':Addr) (A:Around) (outer:List Env) (s:Shared) (H:Hp) (E:XK),bp k (A.deeper (envOfC (X.env.qual ++ "<lambda>") scope s.heap.objs.size f (.ref c')))->Bx (PE (f_ CX0 X.prog X.w X.K X.mg X.base [x] (X.env.qual ++ "<lambda>") scope f (.ref c') A outer s H E).nox body tb))
 (hcode:X.env.code=.ref c:=by rfl) (hg:Gl X "sorted":=by rfl)
 (hbind:∀(qual:Str) (pm:Value) (c':Addr) (ctv u:Value),bindArgs (W.kla_fn "<lambda>" qual params body scope [] pm (.ref c') ctv) ⟨[u],[]⟩=pure ([x].zip [u]):=by intros;rfl)
 (hcl:closureFor scope X.env=pure []:=by rfl) (hdef:defaultsOf params X.env=([],[]):=by rfl)
 (hse:starEach [e] X.env=(false,eval e X.env)::starEach [] X.env:=by rfl) :
 Bx (PE X (.Call (.Name "sorted" p) [e] [⟨some "key",.Lambda params body scope lp,kp⟩] pos) (o0 P lp (X.env.qual ++ "<lambda>") [x] tl tb)):=
 ⟨sL hg hm L hcode hr S he.out (fun f c' A outer s H E h=>(hb f c' A outer s H E h).out) hbind hcl hdef hse⟩
section
variable{C CT P b:Addr}{H H':Hp}{p:Addr}{f m:Int}{pc:Nat}{M:MT}{tc:Int}{F:Addr->Prop}{R:aj}{pos:Pos}{qual:Str}
def fL(H:Hp)(b:Addr):Prop:=(∃ C dx fs,H b=some (.ins C dx fs))∨(∃ xs,H b=some (.lst xs)) ∨ ∃ r,H b=some (.dK r)
theorem Sh.own3(S:Sh C H p f m R F)(h:F b):fL H b:=by
 obtain⟨t,L,ds,X,hF⟩:=S;rcases(hF b).mp h with rfl | rfl | z
 . obtain⟨dx,e⟩:=X.ob
   exact .inl ⟨_,_,_,e⟩
 . exact .inr (.inl ⟨_,X.rw⟩)
 obtain⟨i,hi⟩:=List.getElem?_of_mem z;have hl:i < R.length:=by rw[← X.len];exact(List.getElem?_eq_some_iff.mp hi).1
 exact .inr (.inr ⟨_,X.at_ i b _ hi (List.getElem?_eq_getElem hl)⟩)
theorem Tb.own3(S:Tb C CT H p f m pc M tc F)(h:F b):fL H b:=by
 obtain⟨t,n,v,FN,FE,X,hF⟩:=S;rcases(hF b).mp h with rfl | z | z
 . obtain⟨dx,e⟩:=X.ob
   exact .inl ⟨_,_,_,e⟩
 . exact X.nw.own3 z
 have:=X.el;cases e:M.el with
 | none=>rw[e]at this;exact absurd z (this.2 b)
 | some E=>
   rw[e]at this;obtain⟨_,_,S⟩:=this;exact S.own3 z
theorem bI.tbl(L:bI pos qual H P):∃ ps,H P=some (.tbl ps):=by
 rcases L with e | ⟨_,e,_⟩
 . exact⟨_,e⟩
 exact⟨_,e⟩
theorem bI.live(L:bI pos qual H P):H P≠none:=by
 obtain⟨ps,e⟩:=L.tbl;rw[e];simp
theorem fL.notP(L:bI pos qual H P)(h:fL H b):b≠P:=fun z=>by
 obtain⟨ps,e⟩:=L.tbl;subst z;rcases h with ⟨_,_,_,y⟩ | ⟨_,y⟩ | ⟨_,y⟩ <;> rw[e]at y <;> cases y
theorem fL.notC{c':Addr}(h:fL H b)(e:H c'=some (gy qual c')):b≠c':=fun z=>by
 subst z;rcases h with ⟨_,_,_,y⟩ | ⟨_,y⟩ | ⟨_,y⟩ <;> rw[e]at y <;> cases y
theorem bI.fr{G:Addr->Prop}(L:bI pos qual H P)(k:Fr G H H')(h:∀ b,G b->H b≠none->fL H b):bI pos qual H' P:=by
 have nP:¬ G P:=fun z=>absurd rfl (fL.notP L (h P z L.live));rcases L with e | ⟨c',e,e2⟩
 . exact .inl (k _ _ nP e)
 refine .inr ⟨c',k _ _ nP e,k _ _ (fun z=>?_) e2⟩;exact absurd rfl (fL.notC (h c' z (by rw[e2];simp)) e2)
theorem bI.same(L:bI pos qual H P)(k:ao H H'):bI pos qual H' P:=L.fr (G:=fun _=>False) (fun b o _ e=>k b o e) fun _ z=>z.elim
theorem bI.but{q:Addr}{xs:List V}(L:bI pos qual H P)(e:H q=some (.lst xs))(k:ak q H H'):bI pos qual H' P:=L.fr (G:=fun b=>b=q) (fun b o n y=>k b o n y) fun b z _=>z ▸ .inr (.inl ⟨_,e⟩)
end
def aq(M:MT):aj:=match M.el with | none=>M.nw | some E=>if E.length < M.nw.length then E else M.nw
def cu(M:MT):Option aj:=M.el.map fun E=>if E.length < M.nw.length then M.nw else E
def aD(n:Nat)(cur:Int):Int:=pt cur 16 % (n:Int)
def bU(p s c:Int):List Int:=[p,p+s].filter fun x=>decide (c<=pt x 16+65536 / (s*2) - 1)
def cX(p s:Int):Int:=(pt p 16+65536 / s - 1+1) % 65536
def bt(M:MT)(cur:Int):av:=
 (aq M).getD (aD (aq M).length cur).toNat []++((cu M).map fun G=>(bU (aD (aq M).length cur) (aq M).length cur).flatMap fun x=>G.getD x.toNat []).getD []
def hX:Sp:=fun vs H Q _=>∃(c:Int) (n:Nat),vs=[.int c,.int n]/\(0 < n/\n < 1073741824)/\Q (.int (aD n c)) H
theorem vm{c:Int}{n:Nat}{H:Hp}{Q:VK}{E:XK}(h:0 < n/\n < 1073741824)(q:Q (.int (aD n c)) H):hX ([.int c,.int n]++[]) H Q E:=⟨c,n,rfl,h,q⟩
def mL:Sp:=fun vs H Q _=>∃(p s c:Int),vs=[.int p,.int s,.int c]/\(0 < s/\s < 10000) /\ ∀ l H',ao H H'->H l=none->H' l=some (.lst ((bU p s c).map V.int))->Q (.ref l) H'
theorem yO{p s c:Int}{H:Hp}{Q:VK}{E:XK}(h:0 < s/\s < 10000)(q:∀ l H',ao H H'->H l=none->H' l=some (.lst ((bU p s c).map V.int))->Q (.ref l) H'):mL ([.int p,.int s,.int c]++[]) H Q E:=⟨p,s,c,rfl,h,q⟩
def jh:Sp:=fun vs H Q _=>∃(p s:Int),vs=[.int p,.int s]/\(0 < s/\s < 10000) /\ ∀ H',ao H H'->Q (.int (cX p s)) H'
theorem wz{p s:Int}{H:Hp}{Q:VK}{E:XK}(h:0 < s/\s < 10000)(q:∀ H',ao H H'->Q (.int (cX p s)) H'):jh ([.int p,.int s]++[]) H Q E:=⟨p,s,rfl,h,q⟩
def oE(C CT P:Addr)(pos:Pos)(qual:Str):Sp:=fun vs H Q _=>∃(p:Addr) (cur f m:Int) (pc:Nat) (M:MT) (tc:Int) (F:Addr->Prop),vs=[.ref p,.int cur]/\Tb C CT H p f m pc M tc F/\TOk f m M/\Rat M/\cnt M<=100000/\bI pos qual H P /\
 ∀ t l xs H',bI pos qual H' P->ak P H H'->H l=none->H t=none->H' t=some (.tup [.int (cX (aD (aq M).length cur) (aq M).length),.ref l])->H' l=some (.lst xs)->Prs H' xs (bt M cur)->Q (.ref t) H'
theorem BA{C CT P:Addr}{pos:Pos}{qual:Str}{p:Addr}{cur f m:Int}{pc:Nat}{M:MT}{tc:Int}{F:Addr->Prop}{H:Hp}{Q:VK}{E:XK}(S:Tb C CT H p f m pc M tc F)(T:TOk f m M)(R:Rat M)(hc:cnt M<=100000)(L:bI pos qual H P)
 (q:∀ t l xs H',bI pos qual H' P->ak P H H'->H l=none->H t=none->H' t=some (.tup [.int (cX (aD (aq M).length cur) (aq M).length),.ref l])->H' l=some (.lst xs)->Prs H' xs (bt M cur)->Q (.ref t) H') :
 oE C CT P pos qual ([.ref p,.int cur]++[]) H Q E:=⟨p,cur,f,m,pc,M,tc,F,rfl,S,T,R,hc,L,q⟩
theorem Aw{P:Addr}{pos:Pos}{qual:Str}{N:List Str}{tl tb:TE}{U:L2.St}{H:Hp}{Q:VK}(h:tl U H fun x H1=>∃(a:Addr) (vs:List V) (kz:List Int),[x]=[V.ref a]/\H1 a=some (.lst vs)/\kz.length=vs.length/\vs.length < 64/\bI pos qual H1 P /\
 ∀ H2,bI pos qual H2 P->ak P H1 H2->(∀(i:Nat) v k,vs[i]?=some v->kz[i]?=some k->tb (cg N [v]) H2 fun u H3=>u=.int k/\H3=H2) /\ ∀ D out,H2 D=none->Srt kz vs out->Q (.ref D) (upd H2 D (.lst out))):o0 P pos qual N tl tb U H Q:=h
theorem Sh.lam{C P p:Addr}{H H':Hp}{f m:Int}{R:aj}{F:Addr->Prop}{pos:Pos}{qual:Str}(S:Sh C H p f m R F)(L:bI pos qual H P)(k:ak P H H'):Sh C H' p f m R F:=
 S.keep k.fr' (fun b h z=>absurd z (fL.notP L (S.own3 h))) fun b xs e z=>by
  obtain⟨ps,y⟩:=L.tbl;rw[z,y]at e;cases e
theorem Rat.two{f m:Int}{M:MT}{E:aj}(T:TOk f m M)(R:Rat M)(e:M.el=some E):(E.length < M.nw.length/\aq M=E/\cu M=some M.nw/\M.nw.length=2*E.length)∨(M.nw.length < E.length/\aq M=M.nw/\cu M=some E/\E.length=2*M.nw.length):=by
 have hE:=(T.el E e).2.1;have hp:0 < E.length:=hE.pos;have hq:0 < M.nw.length:=T.sz.pos;unfold aq cu;rw[e];rcases R E e with z | z
 . exact .inr ⟨by omega,if_neg (by omega),congrArg some (if_neg (by omega)),z⟩
 exact .inl ⟨by omega,if_pos (by omega),congrArg some (if_pos (by omega)),z⟩
theorem dY{f m:Int}{M:MT}(T:TOk f m M):ay (aq M).length:=by
 unfold aq;cases e:M.el with
 | none=>exact T.sz
 | some E=>
   dsimp only
   split
   . exact(T.el E e).2.1
   exact T.sz
theorem uk{M:MT}:tot (aq M)<=cnt M:=by
 unfold aq SW.cnt;cases e:M.el with
 | none=>simp
 | some E=>
   dsimp only
   split <;> simp <;> omega
theorem vw{M:MT}{G:aj}(h:cu M=some G):tot G<=cnt M:=by
 unfold cu at h;unfold SW.cnt;cases e:M.el with
 | none=>rw[e]at h;cases h
 | some E=>
   rw[e]at h;have h:(if E.length < M.nw.length then M.nw else E)=G:=Option.some.inj h;subst h;split <;> simp <;> omega
theorem fw{n:Nat}(h:0 < n)(c:Int):0<=aD n c/\aD n c < n:=⟨Int.emod_nonneg _ (by omega),Int.emod_lt_of_pos _ (by omega)⟩
theorem oM(p s c:Int):(bU p s c).length<=2:=List.length_filter_le ..
theorem eA{p s c x:Int}(h:x∈bU p s c):x=p∨x=p+s:=by
 have:=(List.mem_filter.mp h).1
 simpa using this
theorem qG{α β:Type}{xs:List α}{i:Nat}{x:α}{g:α -> List β}(h:xs[i]?=some x):(xs.take (i+1)).flatMap g=(xs.take i).flatMap g++g x:=by
 rw[cj h,List.flatMap_append];simp
theorem walk_ofE{l:W.OpenLaw}{n k:Nat}{q:Program}{loose:List Str}{XP:(Str->Option Value)->Heap->Prop}{YP:World->Heap->Prop}{d:DefRec}{K:Params->W.Frag}{sp:W.Frag->Addr->Sp}{x:Str}
 (hn:l.most=some n) (hn2:n<=sizeLine) (hdf:d.params.defaults=[]) (hr:bp k callerA)
 (hY:∀(w:World) (h:Heap),YP w h->(K w.params).In h)
 (F:∀(w:World) (mg:Str->Option Value) (fa:Addr) (h:Heap),(K w.params).In h->h.Ns mainGlobals mg->mg d.name=some (.ref fa) ->
  ∃(c P:Addr) (fd:FuncData),(K w.params).lookup P=some (W.tabObj #[])/\W.CodeHd h c P/\(∀(s:Shared) (u:Value),BindsTo s fd ⟨[u],[]⟩ [(x,u)]) /\
    ∀ base:Heap,(wo (K w.params) P).In base->base.Ns mainGlobals mg->eO l.prog w (wo (K w.params) P) mg base CX0 k fa fd [x] (sp (wo (K w.params) P) P))
 (hsp:∀(K:W.Frag) (P:Addr) (H:Hp) (a:Addr) (ns:List Int),ns.length<=n->H P=some (.tbl #[])->SqL K H a (ns.map V.int)->sp K P [.ref a] H (fun v _=>v=.bl true) fun _ _ _=>False) :
 W.WalkO q loose XP YP l.row.toRowW d [] (fun f vs=>PySem.call f vs):=by
 refine Att.attach_call hn hdf fun w s₀ s₁ mg mb fa o pm cd doc a vs ns G Y ho hd hcd hmg hobj hints hlen hg=>?_;have KX:=hY w _ Y;obtain⟨c,P,fd,hP,hc,hb,hF⟩:=F w mg fa _ KX G.T.g hmg;exact rF (c:=c) (Bm KX) dw hc (KX _ _ hP) G.T.g G.T.b G.T.builtins G.T.nolimit hg hobj hints (Nat.le_trans hlen hn2) hr hF hb (fun H hO hS=>hsp _ P H a ns hlen hO hS) fun H e s' z=>z
theorem gE{vs:Array Value}{i:Nat}{v:Value}(h:vs[i]?=some v):vs.getD i .none=v:=by
 rw[Array.getD_eq_getD_getElem?,h];rfl
theorem pR{K:W.Frag}{h:Heap}{c P:Addr}{cD:Option Addr}{cV:Array Value}{cS:Array (Option Value)}{file:Str}{tf tg tt:Tok}{flags text:Int}{inF:Bool}(X:K.In h)(o:K.lookup c=some ⟨.type "code",cD,.fields cV,cS⟩)(v11:cV[11]?=some (.ref P))(v18:cV[18]?=some (.str file tf))(v7:cV[7]?=some (.int flags tg))(v9:cV[9]?=some (.bool inF))(v10:cV[10]?=some (.int text tt))(ne:(c == P)=false):W.CodeHd h c P:=
 ⟨_,cV,file,tf,flags,tg,inF,text,tt,X _ _ o,rfl,rfl,v11,gE v11,gE v18,gE v7,gE v9,gE v10,fun z=>by rw[z]at ne;simp at ne⟩
theorem BH{K:W.Frag}{h:Heap}{mg:Str->Option Value}{c P b:Addr}{cD:Option Addr}{cV:Array Value}{cS bS:Array (Option Value)}{file:Str}{tf tg tt:Tok}{flags text:Int}{inF:Bool}(X:K.In h)(G:h.Ns mainGlobals mg)(hP:K.lookup P=some (W.tabObj #[]))
 (o:K.lookup c=some ⟨.type "code",cD,.fields cV,cS⟩) (v11:cV[11]?=some (.ref P)) (v18:cV[18]?=some (.str file tf)) (v7:cV[7]?=some (.int flags tg)) (v9:cV[9]?=some (.bool inF)) (v10:cV[10]?=some (.int text tt)) (ne:(c == P)=false)
 (b1:W.nsIn K mainGlobals "__builtins__"=some (some (.ref b))) (b2:K.lookup b=some ⟨.type "module",some builtinsNs,.plain,bS⟩) (b3:(b == builtinsNs)=false) (b4:(b == mainGlobals)=false):sH (wo K P) mg c P:=by
 refine⟨fun h' X'=>pR X' (e_ hP o fun z=>?_) v11 v18 v7 v9 v10 ne,b,_,W.mg_of X G b1,fun z=>by rw[z]at b3;simp at b3,fun z=>by rw[z]at b4;simp at b4,e_ hP b2 (fun z=>by cases z),rfl,rfl,rfl⟩
 injection z with z;rw[z]at v11;cases v11
section
variable{K:W.Frag}{H:Hp}{x y:V}{n:Nat}
end
section
variable{H:Hp}{Q:VK}{E:XK}{p:Addr}
end
def bhd(M:MT)(c:Int):Int:=cX (aD (aq M).length c) (aq M).length
section
variable{f m:Int}{pc:Nat}
end
section
variable{K:W.Frag}{H:Hp}
end
theorem nW{K:W.Frag}:W.kitOne K (.type "str") (.type "str")=some true:=rfl
theorem eL(k:Nat):(0:Int) < 2 ^ k:=Int.pow_pos (by decide)
theorem cG(m:Int)(j:Nat):∀ k:Nat,pt m (j+k)=pt m j*2 ^ k+pt (m / 2 ^ j) k
 | 0=>by show pt m j=pt m j*1+0;omega
 | k+1=>by
   show pt m (j+k)*2+m / 2 ^ (j+k) % 2=pt m j*2 ^ (k+1)+(pt (m / 2 ^ j) k*2+m / 2 ^ j / 2 ^ k % 2);rw[cG m j k,Int.ediv_ediv_of_nonneg (Int.le_of_lt (eL j)),← Int.pow_add,Int.pow_succ,Int.add_mul,Int.mul_assoc];omega
theorem wV(m:Int)(k:Nat):m % 2 ^ (k+1)=m / 2 ^ k % 2*2 ^ k+m % 2 ^ k:=by
 have hT:=eL k;have h1:=Int.emod_add_mul_ediv m (2 ^ k);have h2:=Int.emod_add_mul_ediv (m / 2 ^ k) 2;have h3:=Int.emod_nonneg m (Int.ne_of_gt hT);have h4:=Int.emod_lt_of_pos m hT;have h5:=pH (m / 2 ^ k);rw[Int.pow_succ];generalize (2:Int) ^ k=T at *;generalize m % T=r at *;generalize m / T=q at *;generalize q / 2=q' at *;generalize q % 2=b at *;have e:m=(b*T+r)+T*2*q':=by
  rw[← h1,← h2,Int.mul_add,Int.mul_comm T b,← Int.mul_assoc];omega
 rw[e,Int.add_mul_emod_self_left];refine Int.emod_eq_of_lt ?_ ?_
 . rcases h5 with h | h <;> rw[h] <;> omega
 rcases h5 with h | h <;> rw[h] <;> omega
theorem fZ(m:Int):∀ k:Nat,pt (pt m k) k=m % 2 ^ k
 | 0=>by show(0:Int)=m % 1;omega
 | k+1=>by
   have h:=cG (pt m (k+1)) 1 k;rw[Nat.add_comm 1 k]at h;rw[h,wV];have e1:pt (pt m (k+1)) 1=m / 2 ^ k % 2:=by
    show 0*2+pt m (k+1) / 2 ^ 0 % 2=_;rw[Int.pow_zero,Int.ediv_one,yV];omega
   have e2:pt m (k+1) / 2 ^ 1=pt m k:=by rw[Int.pow_succ,Int.pow_zero,Int.one_mul];exact vU m k
   rw[e1,e2,fZ m k]
theorem gB{n k:Nat}(m:Int):pt m (k+n) % 2 ^ n=pt (m / 2 ^ k) n:=by
 rw[cG];obtain⟨h0,h1⟩:=cO (m / 2 ^ k) n;rw[Int.add_comm,Int.add_mul_emod_self_right];exact Int.emod_eq_of_lt h0 h1
theorem vI(q:Int)(n:Nat):pt (2*q) (n+1)=pt q n:=by
 have h:=cG (2*q) 1 n;rw[Nat.add_comm 1 n]at h;rw[h,Int.pow_succ,Int.pow_zero,Int.one_mul];have e1:pt (2*q) 1=0:=by
  show 0*2+2*q / 2 ^ 0 % 2=0;rw[Int.pow_zero,Int.ediv_one];omega
 have e2:2*q / 2=q:=by omega
 rw[e1,e2];omega
theorem uh(q:Int)(n:Nat):pt (2*q+1) (n+1)=2 ^ n+pt q n:=by
 have h:=cG (2*q+1) 1 n;rw[Nat.add_comm 1 n]at h;rw[h,Int.pow_succ,Int.pow_zero,Int.one_mul];have e1:pt (2*q+1) 1=1:=by
  show 0*2+(2*q+1) / 2 ^ 0 % 2=1;rw[Int.pow_zero,Int.ediv_one];omega
 have e2:(2*q+1) / 2=q:=by omega
 rw[e1,e2];omega
theorem ay.pow{s:Nat}(h:ay s):∃ n:Nat,2<=n/\n<=12/\s=2 ^ n:=by
 unfold ay at h;simp only[List.mem_cons,List.not_mem_nil,or_false]at h;rcases h with h | h | h | h | h | h | h | h | h | h | h
 . exact⟨2,by decide,by decide,by omega⟩
 . exact⟨3,by decide,by decide,by omega⟩
 . exact⟨4,by decide,by decide,by omega⟩
 . exact⟨5,by decide,by decide,by omega⟩
 . exact⟨6,by decide,by decide,by omega⟩
 . exact⟨7,by decide,by decide,by omega⟩
 . exact⟨8,by decide,by decide,by omega⟩
 . exact⟨9,by decide,by decide,by omega⟩
 . exact⟨10,by decide,by decide,by omega⟩
 . exact⟨11,by decide,by decide,by omega⟩
 exact⟨12,by decide,by decide,by omega⟩
structure oy(s:Int)(c wd fi p:Int):Prop where
 w1:65536 / s=wd
 w2:wd / 2*2=wd
 w0:0 < wd / 2
 w3:65536 / (s*2)=wd / 2
 f1:fi=c - c % wd
 f0:0<=fi/\fi+wd<=65536
 p1:pt fi 16 % s=p
 p2:pt fi 16 % (2*s)=p
 p3:pt (fi+wd / 2) 16 % (2*s)=p+s
 p4:pt p 16=fi
 p5:pt (p+s) 16=fi+wd / 2
theorem oy.of{s:Nat}{c:Int}(h:ay s)(c0:0<=c)(c1:c < 65536):oy s c (65536 / s) (c - c % (65536 / s)) (aD s c):=by
 obtain⟨n,n2,n12,rfl⟩:=h.pow;obtain⟨k,hk⟩:∃ k:Nat,15=k+n:=⟨15 - n,by omega⟩
 have e16:16=(k+1)+n:=by omega
 have e16':16=k+(n+1):=by omega
 have e16'':16=n+(k+1):=by omega
 have e16d:16=(n+1)+k:=by omega
 have cast:((2 ^ n:Nat):Int)=2 ^ n:=by exact_mod_cast rfl
 have hS:=eL n;have hK:=eL k;have all:(2:Int) ^ k*2*2 ^ n=65536:=by
  rw[← Int.pow_succ,← Int.pow_add,← e16];rfl
 unfold aD;rw[cast];have w1:(65536:Int) / 2 ^ n=2 ^ k*2:=by rw[← all];exact Int.mul_ediv_cancel _ (Int.ne_of_gt hS)
 have w3:(65536:Int) / (2 ^ n*2)=2 ^ k:=by
  rw[← all,show(2:Int) ^ k*2*2 ^ n=2 ^ k*(2 ^ n*2) by rw[Int.mul_assoc,Int.mul_comm 2 (2 ^ n)]]
  exact Int.mul_ediv_cancel _ (by omega)
 have hwd:(2:Int) ^ k*2 / 2=2 ^ k:=by omega
 -- q: the walk's place by points
 have hfi:c - c % (2 ^ k*2)=c / (2 ^ k*2)*(2 ^ k*2):=by
  have:=Int.emod_add_mul_ediv c (2 ^ k*2);rw[Int.mul_comm (c / (2 ^ k*2))];omega
 have hq0:0<=c / (2 ^ k*2):=Int.ediv_nonneg c0 (by omega)
 have hq1:c / (2 ^ k*2) < 2 ^ n:=Int.ediv_lt_of_lt_mul (by omega) (by rw[Int.mul_comm,all];exact c1)
 have pl:pt c 16 % 2 ^ n=pt (c / (2 ^ k*2)) n:=by rw[e16,gB,Int.pow_succ]
 rw[w1,hfi,pl];generalize c / (2 ^ k*2)=q at *;have pr:=cO q n;have inv:pt (pt q n) n=q:=by rw[fZ];exact Int.emod_eq_of_lt hq0 hq1
 have d1:q*(2 ^ k*2) / (2 ^ k*2)=q:=Int.mul_ediv_cancel _ (by omega)
 have d2:q*(2 ^ k*2) / 2 ^ k=2*q:=by
  rw[show q*(2 ^ k*2)=2*q*2 ^ k by rw[Int.mul_comm (2 ^ k) 2,← Int.mul_assoc,Int.mul_comm q 2]]
  exact Int.mul_ediv_cancel _ (Int.ne_of_gt hK)
 have d3:(q*(2 ^ k*2)+2 ^ k) / 2 ^ k=2*q+1:=by
  rw[show q*(2 ^ k*2)+2 ^ k=(2*q+1)*2 ^ k by rw[Int.add_mul,Int.one_mul,Int.mul_comm (2 ^ k) 2,← Int.mul_assoc,Int.mul_comm q 2]]
  exact Int.mul_ediv_cancel _ (Int.ne_of_gt hK)
 have s2:(2:Int)*2 ^ n=2 ^ (n+1):=by rw[Int.pow_succ,Int.mul_comm]
 have u:=cO (2*q+1) (n+1);refine⟨w1,by rw[hwd],by rw[hwd];exact hK,by rw[w3,hwd],hfi.symm,⟨Int.mul_nonneg hq0 (by omega),?_⟩,?_,?_,?_,?_,?_⟩
 . have h1:(q+1)*(2 ^ k*2)<=2 ^ n*(2 ^ k*2):=Int.mul_le_mul_of_nonneg_right (by omega) (by omega)
   rw[Int.mul_comm (2 ^ n),all,Int.add_mul,Int.one_mul]at h1;exact h1
 . rw[e16,gB,Int.pow_succ,d1]
 . rw[s2,e16',gB,d2,vI]
 . rw[hwd,s2,e16',gB,d3,uh,Int.add_comm]
 . rw[e16'',ft pr.1 pr.2,inv,Int.pow_succ]
 rw[hwd,Int.add_comm (pt q n),← uh,e16d,ft u.1 u.2,fZ,Int.emod_eq_of_lt (by omega) (by rw[Int.pow_succ];omega),Int.add_mul,Int.one_mul,Int.mul_comm (2 ^ k) 2,← Int.mul_assoc,Int.mul_comm q 2]
theorem Am(m:Int)(n:Nat):pt (m % 2 ^ n) n=pt m n:=by
 rw[← fZ m n,fZ (pt m n) n];obtain⟨h0,h1⟩:=cO m n;exact Int.emod_eq_of_lt h0 h1
theorem sx{s:Nat}(h:ay s∨s=8192){k:Int}(k0:0<=k):pt (k % s) 16<=pt k 16/\pt k 16<=pt (k % s) 16+65536 / s - 1:=by
 obtain⟨n,n13,rfl⟩:∃ n:Nat,n<=13/\s=2 ^ n:=by
  rcases h with h | h
  . obtain⟨n,_,n12,e⟩:=h.pow
    exact⟨n,by omega,e⟩
  exact⟨13,by decide,by omega⟩
 obtain⟨j,hj⟩:∃ j:Nat,16=n+j:=⟨16 - n,by omega⟩
 have cast:((2 ^ n:Nat):Int)=2 ^ n:=by exact_mod_cast rfl
 rw[cast];have hS:=eL n;have all:(65536:Int)=2 ^ j*2 ^ n:=by rw[← Int.pow_add,Nat.add_comm,← hj];rfl
 have w:(65536:Int) / 2 ^ n=2 ^ j:=by rw[all];exact Int.mul_ediv_cancel _ (Int.ne_of_gt hS)
 rw[w,hj,cG k n j,ft (Int.emod_nonneg _ (Int.ne_of_gt hS)) (Int.emod_lt_of_pos _ hS),Am];obtain⟨h0,h1⟩:=cO (k / 2 ^ n) j;omega
theorem AF{s:Nat}(h:ay s){k p:Int}(k0:0<=k)(k1:k < 65536)(p0:0<=p)(p1:p < s)(h0:pt p 16<=pt k 16)(h1:pt k 16<=pt p 16+65536 / s - 1):k % s=p:=by
 obtain⟨n,n2,n12,rfl⟩:=h.pow;obtain⟨j,hj⟩:∃ j:Nat,16=n+j:=⟨16 - n,by omega⟩
 have cast:((2 ^ n:Nat):Int)=2 ^ n:=by exact_mod_cast rfl
 rw[cast]at p1 h1 ⊢;have hS:=eL n;have hJ:=eL j;have all:(65536:Int)=2 ^ j*2 ^ n:=by rw[← Int.pow_add,Nat.add_comm,← hj];rfl
 have w:(65536:Int) / 2 ^ n=2 ^ j:=by rw[all];exact Int.mul_ediv_cancel _ (Int.ne_of_gt hS)
 rw[w,hj,cG k n j,ft p0 p1]at h1;rw[hj,cG k n j,ft p0 p1]at h0;obtain⟨r0,r1⟩:=cO (k / 2 ^ n) j;have e:pt k n=pt p n:=by
  generalize pt k n=x at *;generalize pt p n=y at *;generalize pt (k / 2 ^ n) j=z at *;generalize (2:Int) ^ j=T at *;rcases Int.lt_trichotomy x y with g | g | g
  . have:x+1<=y:=g
    have:=Int.mul_le_mul_of_nonneg_right this (Int.le_of_lt hJ);rw[Int.add_mul,Int.one_mul]at this;omega
  . exact g
  have:y+1<=x:=g;have:=Int.mul_le_mul_of_nonneg_right this (Int.le_of_lt hJ);rw[Int.add_mul,Int.one_mul]at this;omega
 rw[← fZ k n,e,fZ p n];exact Int.emod_eq_of_lt p0 p1
def mrk(f m k:Int):Int:=(k*f+m) % 65536
theorem uE(f m k:Int):0<=mrk f m k/\mrk f m k < 65536:=⟨Int.emod_nonneg _ (by decide),Int.emod_lt_of_pos _ (by decide)⟩
theorem ki{N:aj}{i:Nat}{p:Int×Int}(h:p∈N.getD i []):∃ r,N[i]?=some r/\p∈r:=by
 rw[List.getD_eq_getElem?_getD]at h;cases e:N[i]? with
 | none=>rw[e]at h;cases h
 | some r=>rw[e]at h;exact⟨r,rfl,h⟩
theorem rY{N:aj}{i:Nat}{r:av}{p:Int×Int}(e:N[i]?=some r)(h:p∈r):p∈N.getD i []:=by
 rw[List.getD_eq_getElem?_getD,e];exact h
section
variable{f m:Int}{M:MT}{cur:Int}
theorem TOk.two(T:TOk f m M)(R:Rat M):POk f m (aq M)/\ay (aq M).length/\(∀ p,p∈(aq M).flatten->p∈eK M) /\
 (cu M=none/\(∀ p,p∈eK M->p∈(aq M).flatten) ∨ ∃ G,cu M=some G/\POk f m G/\ay G.length/\G.length=2*(aq M).length/\(∀ p,p∈G.flatten->p∈eK M)/\(∀ p,p∈eK M->p∈(aq M).flatten∨p∈G.flatten) /\ ∀ p q,p∈(aq M).flatten->q∈G.flatten->p.1≠q.1):=by
 cases e:M.el with
 | none=>
   have l1:aq M=M.nw:=by unfold aq;rw[e]
   have l2:cu M=none:=by unfold cu;rw[e];rfl
   have l3:eK M=M.nw.flatten:=by unfold eK;rw[e];rfl
   rw[l1,l2,l3];exact⟨T.nw,T.sz,fun p h=>h,.inl ⟨rfl,fun p h=>h⟩⟩
 | some E=>
   obtain⟨hE,zE,_,_,dE⟩:=T.el E e;have l3:eK M=E.flatten++M.nw.flatten:=by unfold eK;rw[e];rfl
   have dis:∀ p q,p∈E.flatten->q∈M.nw.flatten->p.1≠q.1:=fun p q hp hq z=>by
    obtain⟨i,r,hr,hi⟩:=dm.mp hp;obtain⟨j,t,ht,hj⟩:=dm.mp hq;have a:=hE.look hr hi;have b:=T.nw.look ht hj;have c:=dE p.1 (by rw[a];simp)
    rw[z,b]at c;cases c
   rw[l3];rcases Rat.two T R e with ⟨h1,h2,h3,h4⟩ | ⟨h1,h2,h3,h4⟩
   . rw[h2,h3]
     exact⟨hE,zE,fun p h=>List.mem_append_left _ h,.inr ⟨M.nw,rfl,T.nw,T.sz,h4,fun p h=>List.mem_append_right _ h,fun p h=>List.mem_append.mp h,dis⟩⟩
   rw[h2,h3];exact⟨T.nw,T.sz,fun p h=>List.mem_append_right _ h,.inr ⟨E,rfl,hE,zE,h4,fun p h=>List.mem_append_left _ h,fun p h=>(List.mem_append.mp h).symm,fun p q hp hq z=>dis q p hq hp z.symm⟩⟩
theorem jH{kv:Int×Int}:kv∈bt M cur ↔ kv∈(aq M).getD (aD (aq M).length cur).toNat [] ∨ ∃ G x,cu M=some G/\x∈bU (aD (aq M).length cur) (aq M).length cur/\kv∈G.getD x.toNat []:=by
 unfold bt;rw[List.mem_append]
 constructor
 . rintro(h | h)
   . exact .inl h
   cases e:cu M with
   | none=>rw[e]at h;cases h
   | some G=>
     rw[e]at h;obtain⟨x,hx,hk⟩:=List.mem_flatMap.mp (show kv∈(bU _ _ _).flatMap _ from h);exact .inr ⟨G,x,rfl,hx,hk⟩
 rintro(h | ⟨G,x,e,hx,hk⟩)
 . exact .inl h
 right
 rw[e];exact List.mem_flatMap.mpr ⟨x,hx,hk⟩
theorem POk.at'{N:aj}(hP:POk f m N){i:Int}{kv:Int×Int}(i0:0<=i)(h:kv∈N.getD i.toNat []):mrk f m kv.1 % (N.length:Int)=i/\kv∈N.flatten:=by
 obtain⟨r,hr,hk⟩:=ki h;have:=(hP.inplc i.toNat r hr kv hk).1;rw[Int.toNat_of_nonneg i0]at this;exact⟨this,dm.mpr ⟨_,r,hr,hk⟩⟩
theorem POk.row'{N:aj}(hP:POk f m N){kv:Int×Int}(h:kv∈N.flatten):kv∈N.getD (mrk f m kv.1 % (N.length:Int)).toNat []:=by
 obtain⟨i,r,hr,hk⟩:=dm.mp h;have:=(hP.inplc i r hr kv hk).1;have e:(mrk f m kv.1 % (N.length:Int)).toNat=i:=by
  show((kv.1*f+m) % 65536 % (N.length:Int)).toNat=i;rw[this];rfl
 rw[e];exact rY hr hk
theorem iR(T:TOk f m M)(R:Rat M)(c0:0<=cur)(c1:cur < 65536){kv:Int×Int}(h:kv∈bt M cur) :
 kv∈eK M/\pt (aD (aq M).length cur) 16<=pt (mrk f m kv.1) 16/\pt (mrk f m kv.1) 16<=pt (aD (aq M).length cur) 16+65536 / ((aq M).length:Nat) - 1:=by
 obtain⟨P1,Z1,A1,two⟩:=T.two R;have B:=oy.of Z1 c0 c1;obtain⟨pl0,pl1⟩:=fw Z1.pos cur;obtain⟨m0,m1⟩:=uE f m kv.1;rcases jH.mp h with h | ⟨G,x,e,hx,hk⟩
 . obtain⟨a,b⟩:=P1.at' pl0 h
   have:=sx (.inl Z1) m0;rw[a]at this;exact⟨A1 _ b,this⟩
 rcases two with ⟨z,_⟩ | ⟨G',e',P2,Z2,lG,A2,_,_⟩
 . rw[e]at z;cases z
 rw[e]at e';cases e';have hxm:=eA hx;have x0:0<=x:=by omega
 obtain⟨a,b⟩:=P2.at' x0 hk;have hp:=sx (.inl Z2) m0;rw[a,lG]at hp;have w3:=B.w3;have w2:=B.w2;have w0:=B.w0;have p4:=B.p4;have p5:=B.p5;have ew:(65536:Int) / ((2*(aq M).length:Nat):Int)=65536 / ((aq M).length:Nat) / 2:=by
  rw[← w3]
  congr 1
  omega
 rw[ew]at hp;refine⟨A2 _ b,?_⟩;rcases hxm with rfl | rfl
 . omega
 omega
theorem t6(T:TOk f m M)(R:Rat M)(c0:0<=cur)(c1:cur < 65536){kv:Int×Int}(h:kv∈eK M)(h0:cur<=pt (mrk f m kv.1) 16)(h1:pt (mrk f m kv.1) 16<=pt (aD (aq M).length cur) 16+65536 / ((aq M).length:Nat) - 1):kv∈bt M cur:=by
 obtain⟨P1,Z1,A1,two⟩:=T.two R;have B:=oy.of Z1 c0 c1;obtain⟨pl0,pl1⟩:=fw Z1.pos cur;obtain⟨m0,m1⟩:=uE f m kv.1;have hcm:=Int.emod_nonneg cur (show(65536:Int) / ((aq M).length:Nat)≠0 by have:=B.w0;omega)
 have ple:pt (aD (aq M).length cur) 16<=cur:=by rw[B.p4];omega
 have hpl:=AF Z1 m0 m1 pl0 pl1 (Int.le_trans ple h0) h1;have less:kv∈(aq M).flatten->kv∈bt M cur:=fun hk=>by
  have:=P1.row' hk;rw[hpl]at this;exact jH.mpr (.inl this)
 rcases two with ⟨_,z⟩ | ⟨G,e,P2,Z2,lG,A2,z,_⟩
 . exact less (z _ h)
 rcases z _ h with y | y
 . exact less y
 have hr:=P2.row' y;have hp:=sx (.inl Z2) m0;refine jH.mpr (.inr ⟨G,_,e,?_,hr⟩);have hs:(0:Int) < ((aq M).length:Nat):=by have:=Z1.pos;omega
 have x0:0<=mrk f m kv.1 % (G.length:Int):=Int.emod_nonneg _ (by have:=Z2.pos;omega)
 have x1:mrk f m kv.1 % (G.length:Int) < G.length:=Int.emod_lt_of_pos _ (by have:=Z2.pos;omega)
 have xm:mrk f m kv.1 % (G.length:Int) % ((aq M).length:Nat)=aD (aq M).length cur:=by
  rw[← hpl,lG];exact Int.emod_emod_of_dvd _ ⟨2,by omega⟩
 generalize mrk f m kv.1 % (G.length:Int)=x at *;have hx:x=aD (aq M).length cur∨x=aD (aq M).length cur+((aq M).length:Nat):=by
  generalize aD (aq M).length cur=pp at *;by_cases hlt:x < ((aq M).length:Nat)
  . left
    rw[Int.emod_eq_of_lt x0 hlt]at xm;exact xm
  right
  have:x=(x - ((aq M).length:Nat))+((aq M).length:Nat)*1:=by omega
  rw[this,Int.add_mul_emod_self_left,Int.emod_eq_of_lt (by omega) (by omega)]at xm
  omega
 have hc:cur<=pt x 16+65536 / (((aq M).length:Nat)*2) - 1:=by
  have ew:(65536:Int) / (G.length:Int)=65536 / (((aq M).length:Nat)*2):=by
   congr 1
   omega
  rw[ew]at hp;omega
 unfold bU;refine List.mem_filter.mpr ⟨?_,by simpa using hc⟩
 rcases hx with rfl | rfl
 . exact List.mem_cons_self ..
 exact List.mem_cons_of_mem _ (List.mem_cons_self ..)
theorem POk.rows{N:aj}(hP:POk f m N)(i:Nat):ROk (N.getD i []):=by
 rw[List.getD_eq_getElem?_getD];cases e:N[i]? with
 | none=>exact List.nodup_nil
 | some r=>exact hP.ok r (List.mem_of_getElem? e)
theorem ju{N:aj}(hP:POk f m N):∀ ps:List Int,ps.Nodup->(∀ x∈ps,0<=x)->ROk (ps.flatMap fun x=>N.getD x.toNat [])
 | [],_,_=>List.nodup_nil
 | x::ps,nd,h0=>by
   have ih:=ju hP ps (List.nodup_cons.mp nd).2 fun y hy=>h0 y (List.mem_cons_of_mem _ hy);show(List.map (·.1) ((x::ps).flatMap fun x=>N.getD x.toNat [])).Nodup;rw[List.flatMap_cons,List.map_append];refine List.nodup_append.mpr ⟨hP.rows _,ih,fun a ha b hb z=>?_⟩;obtain⟨p,hp,rfl⟩:=List.mem_map.mp ha;obtain⟨q,hq,rfl⟩:=List.mem_map.mp hb;obtain⟨y,hy,hq⟩:=List.mem_flatMap.mp hq;have e1:=(hP.at' (h0 x List.mem_cons_self) hp).1;have e2:=(hP.at' (h0 y (List.mem_cons_of_mem _ hy)) hq).1;rw[z,e2]at e1;exact(List.nodup_cons.mp nd).1 (e1 ▸ hy)
theorem jw(T:TOk f m M)(R:Rat M)(c0:0<=cur)(c1:cur < 65536):ROk (bt M cur):=by
 obtain⟨P1,Z1,A1,two⟩:=T.two R;obtain⟨pl0,pl1⟩:=fw Z1.pos cur;have hs:(0:Int) < ((aq M).length:Nat):=by have:=Z1.pos;omega
 show(List.map (·.1) (bt M cur)).Nodup;unfold bt;rw[List.map_append];rcases two with ⟨e,_⟩ | ⟨G,e,P2,Z2,lG,A2,_,dis⟩
 . rw[e]
   show(_++([]:List Int)).Nodup;rw[List.append_nil];exact P1.rows _
 rw[e];show(_++List.map (·.1) ((bU _ _ _).flatMap fun x=>G.getD x.toNat [])).Nodup;have nd:(bU (aD (aq M).length cur) (aq M).length cur).Nodup:=by
  unfold bU;refine List.Nodup.sublist List.filter_sublist (List.nodup_cons.mpr ⟨?_,List.nodup_cons.mpr ⟨List.not_mem_nil,List.nodup_nil⟩⟩);intro z;have:=List.mem_singleton.mp z;omega
 refine List.nodup_append.mpr ⟨P1.rows _,ju P2 _ nd fun x hx=>?_,fun a ha b hb z=>?_⟩
 . have:=eA hx
   omega
 obtain⟨p,hp,rfl⟩:=List.mem_map.mp ha;obtain⟨q,hq,rfl⟩:=List.mem_map.mp hb;obtain⟨y,hy,hq⟩:=List.mem_flatMap.mp hq;have y0:0<=y:=by have:=eA hy;omega
 exact dis p q (P1.at' pl0 hp).2 (P2.at' y0 hq).2 z
end
end SW
set_option maxHeartbeats 2000000
namespace SW
open PySem PySem.Spec PyProof.Rows L2
def dv:Bool->Keyed->Array Keyed->Nat->Nat->Nat->StateT SortSt Sem (Option Nat):=sortPriv% PySem.Builtin.gallop
theorem oI(lf:Bool)(ky:Keyed)(xs:Array Keyed)(b n h:Nat):dv lf ky xs b n h=(do
 let bey (i:Nat):StateT SortSt Sem (Option Bool):=do
  let x ← elem' xs (b+i)
  if lf then lt' x ky else return(← lt' ky x).map (!·)
 let mut la:=0
 let mut of:=1
 let mut lo:=0
 let mut hi:=0
 let some rg ← bey h | return none
 if rg then
  let mx:=n - h
  for _ in [0:n] do
   if of ≥ mx then break
   let some mo ← bey (h+of) | return none
   if !mo then break
   la:=of
   of:=2*of+1
  lo:=h+la+1
  hi:=h+min of mx
 else
  let mx:=h+1
  for _ in [0:n] do
   if of ≥ mx then break
   let some fo ← bey (h - of) | return none
   if fo then break
   la:=of
   of:=2*of+1
  lo:=h+1 - min of mx
  hi:=h - la
 for _ in [0:n] do
  if lo ≥ hi then break
  let m:=lo+(hi - lo) / 2
  let some mo ← bey m | return none
  if mo then lo:=m+1 else hi:=m
 return some hi):=rfl
abbrev Ad(lf:Bool)(ky:Keyed)(xs:Array Keyed)(i:Nat):StateT SortSt Sem (Option Bool):=do
 let x ← elem' xs i
 if lf=true then lt' x ky else return(← lt' ky x).map (!·)
def fB:Nat->StateT SortSt Sem Unit:=sortPriv% PySem.Builtin.setMinGallop
theorem oR(g:Nat):fB g=modify fun z=>SortSt.mk' (kindOf z) (arrOf z) (pendingOf z) g (failedOf z):=rfl
abbrev MSt:=Option (Array Keyed)×Array Keyed×Nat×Nat×Nat×Nat×Nat
abbrev MS2:=Option (Array Keyed)×Array Keyed×Nat×Nat×Nat×Nat
abbrev MS1:=Option (Array Keyed)×Array Keyed×Nat×Nat×Nat
section
variable(p q:Array Keyed)
def fR(o:Array Keyed)(i j:Nat):Array Keyed:=o++p.extract i p.size++q.extract j q.size
def kP(o:Array Keyed)(i j:Nat):Array Keyed:=o++q.extract j q.size++p.extract i p.size
def loC(o:Array Keyed)(i j mg k l:Nat):StateT SortSt Sem (ForInStep MSt):=do
 let x ← elem' p i
 if(i+1+1 == p.size)=true then pure (.done (some (kP p q (o.push x) (i+1) j),o.push x,i+1,j,mg,k,l))
 else if(decide (k < 7) && decide (l < 7))=true then pure (.done (none,o.push x,i+1,j,mg,k,l))else pure (.yield (none,o.push x,i+1,j,mg,k,l))
def loB(o:Array Keyed)(i j mg k bc:Nat):StateT SortSt Sem (ForInStep MSt):=do
 let y ← elem' q j
 if(j+1 == q.size)=true then pure (.done (some (fR p q (o.push y) i (j+1)),o.push y,i,j+1,mg,k,bc))
 else do
  let v ← elem' p i
  let z ← dv true v q (j+1) (q.size - (j+1)) 0
  match z with
  | some l=>
    if l > 0 then
     if(j+1+l == q.size)=true then pure (.done (some (fR p q (o.push y++q.extract (j+1) (j+1+l)) i (j+1+l)),o.push y++q.extract (j+1) (j+1+l),i,j+1+l,mg,k,l))
     else loC p q (o.push y++q.extract (j+1) (j+1+l)) i (j+1+l) mg k l
    else loC p q (o.push y) i (j+1) mg k l
  | _=>pure (.done (some (fR p q (o.push y) i (j+1)),o.push y,i,j+1,mg,k,bc))
def loG(o:Array Keyed)(i j mg ac bc:Nat):StateT SortSt Sem (ForInStep MSt):=do
 fB mg
 let y ← elem' q j
 let z ← dv false y p i (p.size - i) 0
 match z with
 | some k=>
   if k > 0 then
    if(i+k+1 == p.size)=true then pure (.done (some (kP p q (o++p.extract i (i+k)) (i+k) j),o++p.extract i (i+k),i+k,j,mg,k,bc))
    else if(i+k == p.size)=true then pure (.done (some (fR p q (o++p.extract i (i+k)) (i+k) j),o++p.extract i (i+k),i+k,j,mg,k,bc))
    else loB p q (o++p.extract i (i+k)) (i+k) j mg k bc
   else loB p q o i j mg k bc
 | _=>pure (.done (some (fR p q o i j),o,i,j,mg,ac,bc))
def loL(c:MSt):StateT SortSt Sem (ForInStep MSt):=
 if c.2.2.2.2.1 > 1 then loG p q c.2.1 c.2.2.1 c.2.2.2.1 (c.2.2.2.2.1 - 1) c.2.2.2.2.2.1 c.2.2.2.2.2.2 else loG p q c.2.1 c.2.2.1 c.2.2.2.1 c.2.2.2.2.1 c.2.2.2.2.2.1 c.2.2.2.2.2.2
def loA(mg:Nat)(c:MS2):StateT SortSt Sem (ForInStep MS2):=do
 let y ← elem' q c.2.2.2.1
 let v ← elem' p c.2.2.1
 let z ← lt' y v
 match z with
 | some bw=>
   if bw=true then do
    let y ← elem' q c.2.2.2.1
    if(c.2.2.2.1+1 == q.size)=true then pure (.done (some (fR p q (c.2.1.push y) c.2.2.1 (c.2.2.2.1+1)),c.2.1.push y,c.2.2.1,c.2.2.2.1+1,0,c.2.2.2.2.2+1))
    else if c.2.2.2.2.2+1 ≥ mg then pure (.done (none,c.2.1.push y,c.2.2.1,c.2.2.2.1+1,0,c.2.2.2.2.2+1))else pure (.yield (none,c.2.1.push y,c.2.2.1,c.2.2.2.1+1,0,c.2.2.2.2.2+1))
   else do
    let v ← elem' p c.2.2.1
    if(c.2.2.1+1+1 == p.size)=true then pure (.done (some (kP p q (c.2.1.push v) (c.2.2.1+1) c.2.2.2.1),c.2.1.push v,c.2.2.1+1,c.2.2.2.1,c.2.2.2.2.1+1,0))
    else if c.2.2.2.2.1+1 ≥ mg then pure (.done (none,c.2.1.push v,c.2.2.1+1,c.2.2.2.1,c.2.2.2.2.1+1,0))else pure (.yield (none,c.2.1.push v,c.2.2.1+1,c.2.2.2.1,c.2.2.2.2.1+1,0))
 | _=>pure (.done (some (fR p q c.2.1 c.2.2.1 c.2.2.2.1),c.2))
def loO(c:MS1):StateT SortSt Sem (ForInStep MS1):=do
 let c1 ← forIn [:p.size+q.size] ((none,c.2.1,c.2.2.1,c.2.2.2.1,0,0):MS2) fun _=>loA p q c.2.2.2.2
 match c1.1 with
 | some r=>pure (.done (some r,c1.2.1,c1.2.2.1,c1.2.2.2.1,c.2.2.2.2))
 | none=>do
   liftM (rule "list.sort.gallop")
   let c2 ← forIn [:p.size+q.size] ((none,c1.2.1,c1.2.2.1,c1.2.2.2.1,c.2.2.2.2+1,c1.2.2.2.2.1,c1.2.2.2.2.2):MSt) fun _=>loL p q
   match c2.1 with
   | some r=>pure (.done (some r,c2.2.1,c2.2.2.1,c2.2.2.2.1,c2.2.2.2.2.1))
   | none=>do
     fB (c2.2.2.2.2.1+1)
     pure (.yield (none,c2.2.1,c2.2.2.1,c2.2.2.2.1,c2.2.2.2.2.1+1))
def ji:Array Keyed->Array Keyed->StateT SortSt Sem (Array Keyed):=sortPriv% PySem.Builtin.mergeLo
theorem n8:ji p q=(do
 liftM (rule "list.sort.merge-lo")
 let y ← elem' q 0
 if(1 == q.size)=true then pure (fR p q #[y] 0 1)
 else if(0+1 == p.size)=true then pure (kP p q #[y] 0 1)
 else do
  let z ← get
  let c ← forIn [:p.size+q.size] ((none,#[y],0,1,gallopOf z):MS1) fun _=>loO p q
  match c.1 with
  | some r=>pure r
  | none=>liftM (unsupported "internal:list.sort.merge-bound")):=by kernel_rfl
end
abbrev HSt:=Option (Array Keyed)×Nat×Nat×Array Keyed×Nat×Nat×Nat
abbrev HS2:=Option (Array Keyed)×Nat×Nat×Array Keyed×Nat×Nat
abbrev HS1:=Option (Array Keyed)×Nat×Nat×Array Keyed×Nat
section
variable(p q:Array Keyed)
def fN(o:Array Keyed)(i j:Nat):Array Keyed:=p.extract 0 i++q.extract 0 j++o.reverse
def kG(o:Array Keyed)(i j:Nat):Array Keyed:=q.extract 0 j++p.extract 0 i++o.reverse
def hiC(o:Array Keyed)(i j mg k l:Nat):StateT SortSt Sem (ForInStep HSt):=do
 let x ← elem' p (i - 1)
 if(i - 1 == 0)=true then pure (.done (some (fN p q (o.push x) (i - 1) j),i - 1,j,o.push x,mg,k,l))
 else if(decide (k < 7) && decide (l < 7))=true then pure (.done (none,i - 1,j,o.push x,mg,k,l))else pure (.yield (none,i - 1,j,o.push x,mg,k,l))
def hiB(o:Array Keyed)(i j mg k bc:Nat):StateT SortSt Sem (ForInStep HSt):=do
 let y ← elem' q (j - 1)
 if(j - 1 == 1)=true then pure (.done (some (kG p q (o.push y) i (j - 1)),i,j - 1,o.push y,mg,k,bc))
 else do
  let v ← elem' p (i - 1)
  let z ← dv true v q 0 (j - 1) (j - 1 - 1)
  match z with
  | some t=>
    if j - 1 - t > 0 then
     if(t == 1)=true then pure (.done (some (kG p q (o.push y++(q.extract t (j - 1)).reverse) i t),i,t,o.push y++(q.extract t (j - 1)).reverse,mg,k,j - 1 - t))
     else if(t == 0)=true then pure (.done (some (fN p q (o.push y++(q.extract t (j - 1)).reverse) i t),i,t,o.push y++(q.extract t (j - 1)).reverse,mg,k,j - 1 - t))
     else hiC p q (o.push y++(q.extract t (j - 1)).reverse) i t mg k (j - 1 - t)
    else hiC p q (o.push y) i (j - 1) mg k (j - 1 - t)
  | _=>pure (.done (some (fN p q (o.push y) i (j - 1)),i,j - 1,o.push y,mg,k,bc))
def hiG(o:Array Keyed)(i j mg ac bc:Nat):StateT SortSt Sem (ForInStep HSt):=do
 fB mg
 let y ← elem' q (j - 1)
 let z ← dv false y p 0 i (i - 1)
 match z with
 | some t=>
   if i - t > 0 then
    if(t == 0)=true then pure (.done (some (fN p q (o++(p.extract t i).reverse) t j),t,j,o++(p.extract t i).reverse,mg,i - t,bc))
    else hiB p q (o++(p.extract t i).reverse) t j mg (i - t) bc
   else hiB p q o i j mg (i - t) bc
 | _=>pure (.done (some (fN p q o i j),i,j,o,mg,ac,bc))
def hiL(c:HSt):StateT SortSt Sem (ForInStep HSt):=
 if c.2.2.2.2.1 > 1 then hiG p q c.2.2.2.1 c.2.1 c.2.2.1 (c.2.2.2.2.1 - 1) c.2.2.2.2.2.1 c.2.2.2.2.2.2 else hiG p q c.2.2.2.1 c.2.1 c.2.2.1 c.2.2.2.2.1 c.2.2.2.2.2.1 c.2.2.2.2.2.2
def hiA(mg:Nat)(c:HS2):StateT SortSt Sem (ForInStep HS2):=do
 let y ← elem' q (c.2.2.1 - 1)
 let v ← elem' p (c.2.1 - 1)
 let z ← lt' y v
 match z with
 | some aw=>
   if aw=true then do
    let v ← elem' p (c.2.1 - 1)
    if(c.2.1 - 1 == 0)=true then pure (.done (some (fN p q (c.2.2.2.1.push v) (c.2.1 - 1) c.2.2.1),c.2.1 - 1,c.2.2.1,c.2.2.2.1.push v,c.2.2.2.2.1+1,0))
    else if c.2.2.2.2.1+1 ≥ mg then pure (.done (none,c.2.1 - 1,c.2.2.1,c.2.2.2.1.push v,c.2.2.2.2.1+1,0))else pure (.yield (none,c.2.1 - 1,c.2.2.1,c.2.2.2.1.push v,c.2.2.2.2.1+1,0))
   else do
    let y ← elem' q (c.2.2.1 - 1)
    if(c.2.2.1 - 1 == 1)=true then pure (.done (some (kG p q (c.2.2.2.1.push y) c.2.1 (c.2.2.1 - 1)),c.2.1,c.2.2.1 - 1,c.2.2.2.1.push y,0,c.2.2.2.2.2+1))
    else if c.2.2.2.2.2+1 ≥ mg then pure (.done (none,c.2.1,c.2.2.1 - 1,c.2.2.2.1.push y,0,c.2.2.2.2.2+1))else pure (.yield (none,c.2.1,c.2.2.1 - 1,c.2.2.2.1.push y,0,c.2.2.2.2.2+1))
 | _=>pure (.done (some (fN p q c.2.2.2.1 c.2.1 c.2.2.1),c.2))
def hiO(c:HS1):StateT SortSt Sem (ForInStep HS1):=do
 let c1 ← forIn [:p.size+q.size] ((none,c.2.1,c.2.2.1,c.2.2.2.1,0,0):HS2) fun _=>hiA p q c.2.2.2.2
 match c1.1 with
 | some r=>pure (.done (some r,c1.2.1,c1.2.2.1,c1.2.2.2.1,c.2.2.2.2))
 | none=>do
   liftM (rule "list.sort.gallop")
   let c2 ← forIn [:p.size+q.size] ((none,c1.2.1,c1.2.2.1,c1.2.2.2.1,c.2.2.2.2+1,c1.2.2.2.2.1,c1.2.2.2.2.2):HSt) fun _=>hiL p q
   match c2.1 with
   | some r=>pure (.done (some r,c2.2.1,c2.2.2.1,c2.2.2.2.1,c2.2.2.2.2.1))
   | none=>do
     fB (c2.2.2.2.2.1+1)
     pure (.yield (none,c2.2.1,c2.2.2.1,c2.2.2.2.1,c2.2.2.2.2.1+1))
def jg:Array Keyed->Array Keyed->StateT SortSt Sem (Array Keyed):=sortPriv% PySem.Builtin.mergeHi
theorem nC:jg p q=(do
 liftM (rule "list.sort.merge-hi")
 let x ← elem' p (p.size - 1)
 if(p.size - 1 == 0)=true then pure (fN p q #[x] (p.size - 1) q.size)
 else if(q.size == 1)=true then pure (kG p q #[x] (p.size - 1) q.size)
 else do
  let z ← get
  let c ← forIn [:p.size+q.size] ((none,p.size - 1,q.size,#[x],gallopOf z):HS1) fun _=>hiO p q
  match c.1 with
  | some r=>pure r
  | none=>liftM (unsupported "internal:list.sort.merge-bound")):=by kernel_rfl
end
theorem ny(i:Nat):mergeAt' i=(do
 let z ← get
 let(some (sa,na,pw),some (sb,nb,_)):=((pendingOf z)[i]?,(pendingOf z)[i+1]?) | unsupported "internal:list.sort.pending"
 set (setPending z (((pendingOf z).setIfInBounds i (sa,na+nb,pw)).eraseIdxIfInBounds (i+1)))
 let some k ← dv false (← elem' (arrOf z) sb) (arrOf z) sa na 0 | return false
 let(sa,na):=(sa+k,na - k)
 if na == 0 then return true
 let some nb ← dv true (← elem' (arrOf z) (sa+na - 1)) (arrOf z) sb nb (nb - 1) | return false
 if nb == 0 then return true
 let x:=(arrOf z).extract sa sb
 let y:=(arrOf z).extract sb (sb+nb)
 let mm ← if na<=nb then ji x y else jg x y
 modify fun u=>setArr u (mm.toList.zipIdx.foldl (fun a (e,j)=>a.setIfInBounds (sa+j) e) (arrOf u))
 return(failedOf (← get)).isNone):=rfl
def gj:Nat->List (List Keyed)->List (Nat×Nat)
 | _,[]=>[]
 | s,r::rs=>(s,r.length)::gj (s+r.length) rs
theorem gS:∀(u v:List (List Keyed)) (s:Nat),gj s (u++v)=gj s u++gj (s+u.flatten.length) v
 | [],v,s=>by simp[gj]
 | r::u,v,s=>by
   show(s,r.length)::gj (s+r.length) (u++v)=(s,r.length)::(gj (s+r.length) u++_);rw[gS u v,List.flatten_cons,List.length_append,Nat.add_assoc]
theorem ja:∀(u:List (List Keyed)) (s:Nat),(gj s u).length=u.length
 | [],s=>rfl
 | r::u,s=>by show(gj _ u).length+1=_;rw[ja u];rfl
theorem xP(b:Nat):∀(m:List Keyed) (n:Nat) (xs:Array Keyed),b+n+m.length<=xs.size->((m.zipIdx n).foldl (fun a (e,j)=>a.setIfInBounds (b+j) e) xs).toList=xs.toList.take (b+n)++m++xs.toList.drop (b+n+m.length)
 | [],n,xs,h=>by simp
 | x::m,n,xs,h=>by
   rw[List.zipIdx_cons,List.foldl_cons];rw[List.length_cons]at h;have ih:=xP b m (n+1) (xs.setIfInBounds (b+n) x) (by rw[Array.size_setIfInBounds];omega)
   rw[ih,Array.toList_setIfInBounds];have hl:b+n < xs.toList.length:=by rw[Array.length_toList];omega
   have e1:(xs.toList.set (b+n) x).take (b+(n+1))=xs.toList.take (b+n)++[x]:=by
    rw[show b+(n+1)=(b+n)+1 by omega,List.take_add_one,List.take_set_of_le (Nat.le_refl _),List.getElem?_set_self hl]
    rfl
   have e2:(xs.toList.set (b+n) x).drop (b+(n+1)+m.length)=xs.toList.drop (b+n+(x::m).length):=by
    rw[List.drop_set_of_lt (by omega),List.length_cons]
    congr 1
    omega
   rw[e1,e2];simp
abbrev AS:=Option (Option Nat)×Nat
abbrev DS:=Option (Option Nat)×Nat×Nat
def yQ(lo:Nat)(c:AS):StateT SortSt Sem (ForInStep AS):=do
 let x ← ltAt' (lo+c.2) (lo+c.2 - 1)
 match x with
 | some sm=>if sm=true then pure (.done (none,c.2))else pure (.yield (none,c.2+1))
 | _=>pure (.done (some none,c.2))
def vd(lo n m:Nat):StateT SortSt Sem (Option Nat):=do
 reverseSlice' lo (lo+m)
 let c ← forIn [m:n] ((none,m):AS) fun _=>yQ lo
 match c.1 with
 | some r=>pure r
 | none=>pure (some c.2)
def Bw(lo:Nat)(c:DS):StateT SortSt Sem (ForInStep DS):=do
 let x ← ltAt' (lo+c.2.1) (lo+c.2.1 - 1)
 match x with
 | some sm=>
   if sm=true then
    if c.2.2 > 0 then do
     reverseSlice' (lo+c.2.1 - (c.2.2+1)) (lo+c.2.1)
     pure (.yield (none,c.2.1+1,0))
    else pure (.yield (none,c.2.1+1,0))
   else do
    let x ← ltAt' (lo+c.2.1 - 1) (lo+c.2.1)
    match x with
    | some la=>if la=true then pure (.done (none,c.2.1,c.2.2))else pure (.yield (none,c.2.1+1,c.2.2+1))
    | _=>pure (.done (some none,c.2.1,c.2.2))
 | _=>pure (.done (some none,c.2.1,c.2.2))
def ur(lo n m:Nat):StateT SortSt Sem (Option Nat):=do
 liftM (rule "list.sort.descending-run")
 let c ← forIn [m+1:n] ((none,m+1,0):DS) fun _=>Bw lo
 match c.1 with
 | some r=>pure r
 | none=>
   if c.2.2 > 0 then do
    reverseSlice' (lo+c.2.1 - (c.2.2+1)) (lo+c.2.1)
    vd lo n c.2.1
   else vd lo n c.2.1
theorem sg(lo n:Nat):countRun' lo n=(do
 let c ← forIn [1:n] ((none,1):AS) fun _=>yQ lo
 match c.1 with
 | some r=>pure r
 | none=>
   if(c.2 == n)=true then pure (some c.2)
   else if c.2 > 1 then do
    let x ← ltAt' lo (lo+c.2 - 1)
    match x with
    | some ro=>if ro=true then pure (some c.2)else do
      reverseSlice' lo (lo+c.2)
      ur lo n c.2
    | _=>pure none
   else ur lo n c.2):=by kernel_rfl
structure SmS(st st':SortSt):Prop where
 k:kindOf st'=kindOf st
 a:arrOf st'=arrOf st
 p:pendingOf st'=pendingOf st
 f:failedOf st'=failedOf st
theorem SmS.rfl'(st:SortSt):SmS st st:=⟨rfl,rfl,rfl,rfl⟩
theorem SmS.gal{st st':SortSt}(h:SmS st st')(g:Nat):SmS st (SortSt.mk' (kindOf st') (arrOf st') (pendingOf st') g (failedOf st')):=⟨h.k,h.a,h.p,h.f⟩
def mgF(size pw:Nat):StateT SortSt Sem (ForInStep (Option Unit×Unit)):=do
 let z ← get
 match if(pendingOf z).size > 1 then(pendingOf z)[(pendingOf z).size - 2]? else none with
 | some (_,_,od)=>
   if od<=pw then pure (.done (none,()))
   else do
    let b ← mergeAt' ((pendingOf z).size - 2)
    if(!b)=true then pure (.done (some (),()))else pure (.yield (none,()))
 | _=>pure (.done (none,()))
def ug(size lo n:Nat):StateT SortSt Sem (ForInStep (Option Unit×Nat)):=do
 let z ← get
 match(pendingOf z).back? with
 | some (s1,n1,_)=>do
   let c ← forIn [:size] ((none,()):Option Unit×Unit) fun _ _=>mgF size (power' size (2*s1+n1) (2*s1+n1+n1+n) size)
   match c.1 with
   | some r=>pure (.done (some r,lo))
   | none=>do
     modify fun s=>setPending s ((pendingOf s).modify ((pendingOf s).size - 1) fun x=>(x.fst,x.2.fst,power' size (2*s1+n1) (2*s1+n1+n1+n) size))
     modify fun s=>setPending s ((pendingOf s).push (lo,n,0))
     pure (.yield (none,lo+n))
 | _=>do
   modify fun s=>setPending s ((pendingOf s).push (lo,n,0))
   pure (.yield (none,lo+n))
def De(size:Nat)(c:Option Unit×Nat):StateT SortSt Sem (ForInStep (Option Unit×Nat)):=
 if c.2 ≥ size then pure (.done (none,c.2))
 else do
  let x ← countRun' c.2 (size - c.2)
  match x with
  | some found=>
    if found < minRun' size size 0 then do
     liftM (rule "list.sort.binary-insertion")
     let b ← binarySort' c.2 (min (size - c.2) (minRun' size size 0)) found
     if(!b)=true then pure (.done (some (),c.2))else ug size c.2 (min (size - c.2) (minRun' size size 0))
    else ug size c.2 found
  | _=>pure (.done (some (),c.2))
def Dn:StateT SortSt Sem (ForInStep (Option Unit×Unit)):=do
 let z ← get
 if(pendingOf z).size<=1 then pure (.done (none,()))
 else do
  let b ← mergeAt' (if Option.any (fun x=>decide (x < (pendingOf z)[(pendingOf z).size - 2+1]?.elim 0 fun x=>x.snd.fst)) (if(pendingOf z).size - 2 > 0 then Option.map (fun x=>x.snd.fst) (pendingOf z)[(pendingOf z).size - 2 - 1]? else none)=true then(pendingOf z).size - 2 - 1 else(pendingOf z).size - 2)
  if(!b)=true then pure (.done (some (),()))else pure (.yield (none,()))
theorem uA:sortRuns'=(do
 let z ← get
 let c ← forIn [:(arrOf z).size] ((none,0):Option Unit×Nat) fun _=>De (arrOf z).size
 match c.1 with
 | some r=>pure r
 | none=>do
   let c ← forIn [:(arrOf z).size] ((none,()):Option Unit×Unit) fun _ _=>Dn
   match c.1 with
   | some r=>pure r
   | none=>pure ()):=by kernel_rfl
section
variable{prog:Program}{w:World}{A:Around}{E:Value->Shared->Prop}{s:Shared}{good:Keyed->Prop}{kd:SortKind}
def LtP(prog:Program)(w:World)(A:Around)(E:Value->Shared->Prop)(s:Shared)(good:Keyed->Prop)(kd:SortKind):Prop:=
 ∀(x y:Keyed) (st:SortSt) (Q:Option Bool->SortSt->Prop),good x->good y->kindOf st=kd->(∀ b,Q (some b) st)->wpS (model prog w) A E s (lt' x y) Q st
theorem ar{α:Type}{c:Prop}[Decidable c]{m n:StateT SortSt Sem α}{Q:α -> SortSt->Prop}{st:SortSt}(h1:c->wpS (model prog w) A E s m Q st)(h2:¬ c->wpS (model prog w) A E s n Q st):wpS (model prog w) A E s (if c then m else n) Q st:=by
 by_cases h:c
 . rw[if_pos h];exact h1 h
 rw[if_neg h];exact h2 h
theorem bg{a b:Nat}(h:¬ (a == b)=true):¬ a=b:=by simpa using h
theorem di(p:Array Keyed)(i j:Nat):(p.extract i j).toList=(p.toList.drop i).take (j - i):=by
 rw[Array.toList_extract,List.extract_eq_take_drop]
theorem iP(p:Array Keyed)(i:Nat):(p.extract i p.size).toList=p.toList.drop i:=by
 rw[di,List.take_of_length_le (by rw[List.length_drop,Array.length_toList];exact Nat.le_refl _)]
theorem bx{p:Array Keyed}{i:Nat}(h:i < p.size):∃ x,p[i]?=some x/\x∈p.toList:=⟨p[i],Array.getElem?_eq_getElem h,by simp⟩
theorem iT{p:Array Keyed}{i:Nat}{x:Keyed}(h:p[i]?=some x):p.toList[i]?=some x:=by rw[Array.getElem?_toList];exact h
theorem aT{xs:Array Keyed}{i:Nat}{x:Keyed}{st:SortSt}{Q:Keyed->SortSt->Prop}(h:xs[i]?=some x)(q:Q x st):wpS (model prog w) A E s (elem' xs i) Q st:=by
 rw[elem'_eq,h];exact wpS_pure q
variable{st st':SortSt}
theorem wX(hL:LtP prog w A E s good kd){lf:Bool}{key:Keyed}{xs:Array Keyed}{i:Nat}{Q:Option Bool->SortSt->Prop}(hk:kindOf st=kd)(hi:i < xs.size)(g1:good key)(gx:∀ x∈xs.toList,good x)(q:∀ b,Q (some b) st):wpS (model prog w) A E s (Ad lf key xs i) Q st:=by
 obtain⟨x,ex,mx⟩:=bx hi;unfold Ad;refine wpS_bind (aT ex ?_);cases lf with
 | true=>exact hL x key st _ (gx x mx) g1 hk q
 | false=>exact wpS_bind (hL key x st _ g1 (gx x mx) hk fun b=>wpS_pure (q _))
theorem xt{n:Nat}{Q:Option (Option Nat)×Nat×Nat->SortSt->Prop}{f:Nat->Option (Option Nat)×Nat×Nat->StateT SortSt Sem (ForInStep (Option (Option Nat)×Nat×Nat))}{lo hi:Nat}
 (f0:∀ x l r,l ≥ r->f x (none,l,r)=pure (ForInStep.done (none,l,r)))
 (f1:∀ x l r (Q':ForInStep (Option (Option Nat)×Nat×Nat)->SortSt->Prop),l < r->r<=n->(∀ b:Bool,Q' (if b=true then .yield (none,l+(r - l) / 2+1,r)else .yield (none,l,l+(r - l) / 2)) st)->wpS (model prog w) A E s (f x (none,l,r)) Q' st)
 (h1:lo<=hi) (h2:hi<=n) (q:∀ l k,k<=n->Q (none,l,k) st):wpS (model prog w) A E s (forIn [:n] ((none,lo,hi):Option (Option Nat)×Nat×Nat) f) Q st:=by
 refine wpS_forRange (I:=fun x c st'=>st'=st /\ ∃ l r,c=(none,l,r)/\l<=r/\r<=n) ?_ ?_ ⟨rfl,lo,hi,rfl,h1,h2⟩
 . rintro x c st' _ hx ⟨rfl,l,r,rfl,a1,a2⟩
   by_cases g:l ≥ r
   . rw[f0 x l r g]
     exact wpS_pure (q l r a2)
   refine f1 x l r _ (by omega) a2 fun b=>?_
   cases b with
   | true=>exact⟨rfl,l+(r - l) / 2+1,r,rfl,by omega,a2⟩
   | false=>exact⟨rfl,l,l+(r - l) / 2,rfl,by omega,by omega⟩
 rintro c st' ⟨rfl,l,r,rfl,a1,a2⟩;exact q l r a2
theorem fq(hL:LtP prog w A E s good kd){lf:Bool}{key:Keyed}{xs:Array Keyed}{b n h:Nat}{Q:Option Nat->SortSt->Prop}(hk:kindOf st=kd)(g1:good key)(gx:∀ x∈xs.toList,good x)(hn:b+n<=xs.size)(hh:h < n)(q:∀ k,k<=n->Q (some k) st):wpS (model prog w) A E s (dv lf key xs b n h) Q st:=by
 have hb:∀ i,i < n -> ∀ Q':Option Bool->SortSt->Prop,(∀ b,Q' (some b) st)->wpS (model prog w) A E s (Ad lf key xs (b+i)) Q' st:=fun i hi Q' z=>wX hL hk (by omega) g1 gx z
 have fin_:∀{f:Nat->Option (Option Nat)×Nat×Nat->StateT SortSt Sem (ForInStep (Option (Option Nat)×Nat×Nat))}{lo hi:Nat}{Q2:Option (Option Nat)×Nat×Nat->SortSt->Prop},(∀ x l r,l ≥ r->f x (none,l,r)=pure (ForInStep.done (none,l,r)))->(∀ x l r (Q':ForInStep (Option (Option Nat)×Nat×Nat)->SortSt->Prop),l < r->r<=n->(∀ b:Bool,Q' (if b=true then .yield (none,l+(r - l) / 2+1,r)else .yield (none,l,l+(r - l) / 2)) st)->wpS (model prog w) A E s (f x (none,l,r)) Q' st)->lo<=hi->hi<=n->(∀ l k,k<=n->Q2 (none,l,k) st)->wpS (model prog w) A E s (forIn [:n] ((none,lo,hi):Option (Option Nat)×Nat×Nat) f) Q2 st:=fun f0 f1 h1 h2 q=>xt f0 f1 h1 h2 q;rw[oI]
 dsimp only
 refine wpS_bind (hb h hh _ fun e=>?_);cases e with
 | true=>
   refine ar (fun _=>?_) (fun z=>absurd rfl z);refine wpS_bind (wpS_mono (wpS_forRange (I:=fun x c st'=>st'=st /\ ∃ la of,c=(none,la,of)/\la < of/\h+la < n) (Q:=fun c st'=>st'=st /\ ∃ la of,c=(none,la,of)/\la < of/\h+la < n) ?_ (fun _ _ h=>h) ⟨rfl,0,1,rfl,by omega,by omega⟩) ?_)
   . rintro x c st' _ hx ⟨rfl,la,of,rfl,a2,a3⟩
     refine ar (fun g=>?_) (fun g=>?_)
     . exact wpS_pure ⟨rfl,la,of,rfl,a2,a3⟩
     have g:¬ of ≥ n - h:=g;refine wpS_bind (hb (h+of) (by omega) _ fun e=>?_)
     cases e with
     | true=>exact wpS_pure ⟨rfl,of,2*of+1,rfl,by omega,by omega⟩
     | false=>exact wpS_pure ⟨rfl,la,of,rfl,a2,a3⟩
   rintro c st' ⟨rfl,la,of,rfl,a2,a3⟩;refine wpS_bind (fin_ (fun x l r g=>if_pos g) (fun x l r Q' g g2 z=>?_) (by show h+la+1<=h+min of (n - h);omega) (by show h+min of (n - h)<=n;omega) fun l k k1=>wpS_pure (q k k1))
   refine ar (fun y=>absurd y (Nat.not_le.mpr g)) (fun _=>wpS_bind (hb (l+(r - l) / 2) (by omega) _ fun e=>?_))
   have:=z e;cases e <;> exact wpS_pure this
 | false=>
   refine ar (fun z=>absurd z (by simp)) (fun _=>?_)
   refine wpS_bind (wpS_mono (wpS_forRange (I:=fun x c st'=>st'=st /\ ∃ la of,c=(none,la,of)/\la < of/\la<=h) (Q:=fun c st'=>st'=st /\ ∃ la of,c=(none,la,of)/\la < of/\la<=h) ?_ (fun _ _ h=>h) ⟨rfl,0,1,rfl,by omega,by omega⟩) ?_)
   . rintro x c st' _ hx ⟨rfl,la,of,rfl,a2,a3⟩
     refine ar (fun g=>?_) (fun g=>?_)
     . exact wpS_pure ⟨rfl,la,of,rfl,a2,a3⟩
     have g:¬ of ≥ h+1:=g;refine wpS_bind (hb (h - of) (by omega) _ fun e=>?_)
     cases e with
     | false=>exact wpS_pure ⟨rfl,of,2*of+1,rfl,by omega,by omega⟩
     | true=>exact wpS_pure ⟨rfl,la,of,rfl,a2,a3⟩
   rintro c st' ⟨rfl,la,of,rfl,a2,a3⟩;refine wpS_bind (fin_ (fun x l r g=>if_pos g) (fun x l r Q' g g2 z=>?_) (by show h+1 - min of (h+1)<=h - la;omega) (by show h - la<=n;omega) fun l k k1=>wpS_pure (q k k1))
   refine ar (fun y=>absurd y (Nat.not_le.mpr g)) (fun _=>wpS_bind (hb (l+(r - l) / 2) (by omega) _ fun e=>?_))
   have:=z e;cases e <;> exact wpS_pure this
theorem gG{st0:SortSt}{g:Nat}{Q:Unit->SortSt->Prop}(S:SmS st st0)(h:∀ st',SmS st st'->Q () st'):wpS (model prog w) A E s (fB g) Q st0:=by
 rw[oR];exact wpS_modify (h _ (S.gal g))
structure MgH(prog:Program)(w:World)(A:Around)(E:Value->Shared->Prop)(s:Shared)(good:Keyed->Prop)(kd:SortKind)(p q:Array Keyed)(st:SortSt)(Q:Array Keyed->SortSt->Prop):Prop where
 hL:LtP prog w A E s good kd
 hk:kindOf st=kd
 gp:∀ x∈p.toList,good x
 gq:∀ x∈q.toList,good x
 hQ:∀ r st',SmS st st'->r.toList.Perm (p.toList++q.toList)->Q r st'
theorem drop_one{l:List Keyed}{i:Nat}{x:Keyed}(h:l[i]?=some x):(l.drop i).take 1=[x]:=by
 obtain⟨hi,rfl⟩:=List.getElem?_eq_some_iff.mp h;rw[List.drop_eq_getElem_cons hi]
 rfl
def JP(a b o:List Keyed)(i j:Nat):Prop:=o.Perm (a.take i++b.take j)
section
variable{a b o:List Keyed}{i j:Nat}
theorem JP.pa(J:JP a b o i j)(k:Nat):JP a b (o++(a.drop i).take k) (i+k) j:=by
 unfold JP;rw[List.take_add];refine(List.Perm.append_right _ J).trans ?_;rw[List.append_assoc,List.append_assoc];exact List.Perm.append_left _ List.perm_append_comm
theorem JP.pb(J:JP a b o i j)(k:Nat):JP a b (o++(b.drop j).take k) i (j+k):=by
 unfold JP;rw[List.take_add,← List.append_assoc];exact List.Perm.append_right _ J
theorem xF(a1 a2 b1 b2:List Keyed):(a1++b1++(a2++b2)).Perm (a1++a2++(b1++b2)):=by
 rw[List.append_assoc,List.append_assoc];refine List.Perm.append_left _ ?_;rw[← List.append_assoc,← List.append_assoc];exact List.Perm.append_right _ List.perm_append_comm
theorem JP.all(J:JP a b o i j):(o++a.drop i++b.drop j).Perm (a++b):=by
 have h:=(List.Perm.append_right (a.drop i++b.drop j) J).trans (xF ..);rw[List.take_append_drop,List.take_append_drop,← List.append_assoc]at h;exact h
end
section
variable{p q:Array Keyed}{Q:Array Keyed->SortSt->Prop}
theorem MgH.f1(F:MgH prog w A E s good kd p q st Q){o:Array Keyed}{i j:Nat}(S:SmS st st')(J:JP p.toList q.toList o.toList i j):Q (fR p q o i j) st':=F.hQ _ _ S (by
 unfold fR;rw[Array.toList_append,Array.toList_append,iP,iP];exact J.all)
theorem MgH.f2(F:MgH prog w A E s good kd p q st Q){o:Array Keyed}{i j:Nat}(S:SmS st st')(J:JP p.toList q.toList o.toList i j):Q (kP p q o i j) st':=F.hQ _ _ S (by
 unfold kP;rw[Array.toList_append,Array.toList_append,iP,iP];refine List.Perm.trans ?_ J.all;rw[List.append_assoc,List.append_assoc];exact List.Perm.append_left _ List.perm_append_comm)
structure LoJ(p q:Array Keyed)(st:SortSt)(B:Nat)(o:Array Keyed)(i j:Nat)(st':SortSt):Prop where
 S:SmS st st'
 J:JP p.toList q.toList o.toList i j
 a1:i+1 < p.size
 a2:j < q.size
 a3:B<=i+j
variable{B:Nat}{o:Array Keyed}{i j mg k l ac bc:Nat}
theorem JP.a1{v:Keyed}(J:JP p.toList q.toList o.toList i j)(e:p[i]?=some v):JP p.toList q.toList (o.push v).toList (i+1) j:=by
 have:=J.pa 1;rw[drop_one (iT e)]at this;rw[Array.toList_push];exact this
theorem JP.b1{v:Keyed}(J:JP p.toList q.toList o.toList i j)(e:q[j]?=some v):JP p.toList q.toList (o.push v).toList i (j+1):=by
 have:=J.pb 1;rw[drop_one (iT e)]at this;rw[Array.toList_push];exact this
theorem JP.aK(J:JP p.toList q.toList o.toList i j):JP p.toList q.toList (o++p.extract i (i+k)).toList (i+k) j:=by
 rw[Array.toList_append,di,Nat.add_sub_cancel_left];exact J.pa k
theorem JP.bK(J:JP p.toList q.toList o.toList i j):JP p.toList q.toList (o++q.extract j (j+k)).toList i (j+k):=by
 rw[Array.toList_append,di,Nat.add_sub_cancel_left];exact J.pb k
def LoD(p q:Array Keyed)(st:SortSt)(Q:Array Keyed->SortSt->Prop)(B:Nat)(c:MSt)(st':SortSt):Prop:=(∃ r z,c=(some r,z)/\Q r st') ∨ ∃ o i j mg ac bc,c=(none,o,i,j,mg,ac,bc)/\LoJ p q st B o i j st'
def LoR(p q:Array Keyed)(st:SortSt)(Q:Array Keyed->SortSt->Prop)(B:Nat)(r:ForInStep MSt)(st':SortSt):Prop:=match r with
 | .done c=>LoD p q st Q B c st'
 | .yield c=>∃ o i j mg ac bc,c=(none,o,i,j,mg,ac,bc)/\LoJ p q st B o i j st'
variable(F:MgH prog w A E s good kd p q st Q)(I:LoJ p q st B o i j st')
include F I
theorem qo:wpS (model prog w) A E s (loC p q o i j mg k l) (LoR p q st Q B) st':=by
 obtain⟨v,ev,_⟩:=bx (Nat.lt_of_succ_lt I.a1);have J:=I.J.a1 ev;have a3:=I.a3;refine wpS_bind (aT ev (ar (fun c=>wpS_pure (.inl ⟨_,_,rfl,F.f2 I.S J⟩)) (fun c=>?_)));have K:LoJ p q st B (o.push v) (i+1) j st':=⟨I.S,J,Nat.lt_of_le_of_ne I.a1 (bg c),I.a2,Nat.le_trans a3 (by omega)⟩
 exact ar (fun _=>wpS_pure (.inr ⟨_,_,_,_,_,_,rfl,K⟩)) fun _=>wpS_pure ⟨_,_,_,_,_,_,rfl,K⟩
theorem pZ:wpS (model prog w) A E s (loB p q o i j mg k bc) (LoR p q st Q B) st':=by
 obtain⟨v,ev,mv⟩:=bx (Nat.lt_of_succ_lt I.a1);obtain⟨y,ey,_⟩:=bx I.a2;have J:=I.J.b1 ey;have a1:=I.a1;have a2:=I.a2;have a3:=I.a3;refine wpS_bind (aT ey (ar (fun c=>wpS_pure (.inl ⟨_,_,rfl,F.f1 I.S J⟩)) (fun c=>?_)));have a4:j+1 < q.size:=Nat.lt_of_le_of_ne I.a2 (bg c);refine wpS_bind (aT ev (wpS_bind (fq F.hL (I.S.k.trans F.hk) (F.gp _ mv) F.gq (by omega) (by omega) fun l l1=>?_)))
 refine ar (fun g=>ar (fun c=>wpS_pure (.inl ⟨_,_,rfl,F.f1 I.S J.bK⟩)) (fun c=>?_)) (fun g=>qo F ⟨I.S,J,a1,a4,Nat.le_succ_of_le a3⟩);have:=bg c;exact qo F ⟨I.S,J.bK,a1,by omega,by omega⟩
theorem pS:wpS (model prog w) A E s (loG p q o i j mg ac bc) (LoR p q st Q B) st':=by
 obtain⟨y,ey,my⟩:=bx I.a2;have a1:=I.a1;have a3:=I.a3;refine wpS_bind (gG I.S fun st3 S3=>wpS_bind (aT ey (wpS_bind (fq F.hL (S3.k.trans F.hk) (F.gq _ my) F.gp (by omega) (by omega) fun k k1=>?_))))
 refine ar (fun g=>ar (fun c=>wpS_pure (.inl ⟨_,_,rfl,F.f2 S3 I.J.aK⟩)) (fun c=>ar (fun c5=>wpS_pure (.inl ⟨_,_,rfl,F.f1 S3 I.J.aK⟩)) (fun c5=>?_))) (fun g=>pZ F ⟨S3,I.J,a1,I.a2,a3⟩);have n1:=bg c;have n2:=bg c5;exact pZ F ⟨S3,I.J.aK,by omega,I.a2,by omega⟩
theorem wt:wpS (model prog w) A E s (loL p q (none,o,i,j,mg,ac,bc)) (LoR p q st Q B) st':=ar (fun _=>pS F I) fun _=>pS F I
omit F I
def LoE(p q:Array Keyed)(st:SortSt)(Q:Array Keyed->SortSt->Prop)(B:Nat)(r:ForInStep MS2)(st':SortSt):Prop:=match r with
 | .done c=>(∃ r z,c=(some r,z)/\Q r st') ∨ ∃ o i j ac bc,c=(none,o,i,j,ac,bc)/\LoJ p q st B o i j st'
 | .yield c=>∃ o i j ac bc,c=(none,o,i,j,ac,bc)/\LoJ p q st B o i j st'
theorem wY(F:MgH prog w A E s good kd p q st Q)(I:LoJ p q st B o i j st'):wpS (model prog w) A E s (loA p q mg (none,o,i,j,ac,bc)) (LoE p q st Q (B+1)) st':=by
 obtain⟨y,ey,my⟩:=bx I.a2;obtain⟨v,ev,mv⟩:=bx (Nat.lt_of_succ_lt I.a1);refine wpS_bind (aT ey (wpS_bind (aT ev (wpS_bind (F.hL y v st' _ (F.gq _ my) (F.gp _ mv) (I.S.k.trans F.hk) fun bw=>?_)))));cases bw with
 | true=>
   refine wpS_bind (aT ey (ar (fun c=>wpS_pure (.inl ⟨_,_,rfl,F.f1 I.S (I.J.b1 ey)⟩)) (fun c=>?_)));have K:LoJ p q st (B+1) (o.push y) i (j+1) st':=⟨I.S,I.J.b1 ey,I.a1,Nat.lt_of_le_of_ne I.a2 (bg c),Nat.succ_le_succ I.a3⟩;exact ar (fun _=>wpS_pure (.inr ⟨_,_,_,_,_,rfl,K⟩)) fun _=>wpS_pure ⟨_,_,_,_,_,rfl,K⟩
 | false=>
   refine wpS_bind (aT ev (ar (fun c=>wpS_pure (.inl ⟨_,_,rfl,F.f2 I.S (I.J.a1 ev)⟩)) (fun c=>?_)));have a3:=I.a3;have K:LoJ p q st (B+1) (o.push v) (i+1) j st':=⟨I.S,I.J.a1 ev,Nat.lt_of_le_of_ne I.a1 (bg c),I.a2,by omega⟩
   exact ar (fun _=>wpS_pure (.inr ⟨_,_,_,_,_,rfl,K⟩)) fun _=>wpS_pure ⟨_,_,_,_,_,rfl,K⟩
theorem LoJ.mono{C:Nat}(I:LoJ p q st B o i j st')(h:C<=B):LoJ p q st C o i j st':=⟨I.S,I.J,I.a1,I.a2,Nat.le_trans h I.a3⟩
theorem wq{Q2:ForInStep MS1->SortSt->Prop}(F:MgH prog w A E s good kd p q st Q)(I:LoJ p q st B o i j st')(q1:∀ r z st',Q r st'->Q2 (.done (some r,z)) st')(q2:∀ o i j mg st',LoJ p q st (B+1) o i j st'->Q2 (.yield (none,o,i,j,mg)) st'):wpS (model prog w) A E s (loO p q (none,o,i,j,mg)) Q2 st':=by
 have tt:0 < p.size+q.size:=Nat.add_pos_right _ (Nat.lt_of_le_of_lt (Nat.zero_le _) I.a2);refine wpS_bind (wpS_mono (wpS_forRange (I:=fun x c st'=>∃ o i j ac bc,c=(none,o,i,j,ac,bc)/\LoJ p q st (B+x) o i j st')
  (Q:=fun c st'=>(∃ r z,c=(some r,z)/\Q r st') ∨ ∃ o i j ac bc,c=(none,o,i,j,ac,bc)/\LoJ p q st (B+1) o i j st') ?_ ?_ ⟨o,i,j,0,0,rfl,I⟩) ?_)
 . rintro x c st2 _ _ ⟨o,i,j,ac,bc,rfl,I⟩
   refine wpS_mono (wY F I) fun r st3 h=>?_;cases r with
   | done c=>exact h.imp id fun⟨o,i,j,ac,bc,e,I⟩=>⟨o,i,j,ac,bc,e,I.mono (by omega)⟩
   | yield c=>exact h
 . rintro c st2 ⟨o,i,j,ac,bc,rfl,I⟩
   exact .inr ⟨o,i,j,ac,bc,rfl,I.mono (by omega)⟩
 rintro c st2 (⟨r,z,rfl,hq⟩ | ⟨o,i,j,ac,bc,rfl,I⟩)
 . exact wpS_pure (q1 _ _ _ hq)
 refine wpS_bind (wpS_lift (wpAny_rule ⟨rfl,?_⟩));refine wpS_bind (wpS_mono (wpS_forRange (I:=fun x c st'=>∃ o i j mg ac bc,c=(none,o,i,j,mg,ac,bc)/\LoJ p q st (B+1) o i j st') (Q:=LoD p q st Q (B+1)) ?_ (fun c st' h=>.inr h) ⟨o,i,j,_,ac,bc,rfl,I⟩) ?_)
 . rintro x c st3 _ _ ⟨o,i,j,mg,ac,bc,rfl,I⟩
   refine wpS_mono (wt F I) fun r st4 h=>?_;cases r <;> exact h
 rintro c st3 (⟨r,z,rfl,hq⟩ | ⟨o,i,j,mg,ac,bc,rfl,I⟩)
 . exact wpS_pure (q1 _ _ _ hq)
 exact wpS_bind (gG I.S fun st4 S4=>wpS_pure (q2 _ _ _ _ _ ⟨S4,I.J,I.a1,I.a2,I.a3⟩))
theorem nK(F:MgH prog w A E s good kd p q st Q)(p0:0 < p.size)(q0:0 < q.size):wpS (model prog w) A E s (ji p q) Q st:=by
 rw[n8];refine wpS_bind (wpS_lift (wpAny_rule ⟨rfl,?_⟩));obtain⟨y0,e0,m0⟩:=bx q0;have J0:JP p.toList q.toList (#[y0]:Array Keyed).toList 0 1:=JP.b1 (o:=#[]) (List.Perm.refl _) e0;refine wpS_bind (aT e0 (ar (fun c=>wpS_pure (F.f1 (SmS.rfl' st) J0)) (fun c1=>ar (fun c=>wpS_pure (F.f2 (SmS.rfl' st) J0)) (fun c2=>?_))));have n1:=bg c1;have n2:=bg c2;refine wpS_bind (wpS_get (wpS_bind (wpS_mono (wpS_forRange (I:=fun x c st'=>∃ o i j mg,c=(none,o,i,j,mg)/\LoJ p q st (x+1) o i j st') (Q:=fun c st'=>∃ r z,c=(some r,z)/\Q r st') ?_ ?_ ⟨_,0,1,_,rfl,SmS.rfl' st,J0,by omega,by omega,Nat.le_refl _⟩) ?_)))
 . rintro x c st1 _ hx ⟨o,i,j,mg,rfl,I⟩
   exact wq F I (fun r z st' h=>⟨r,z,rfl,h⟩) fun o i j mg st' h=>⟨o,i,j,mg,rfl,h⟩
 . rintro c st' ⟨o,i,j,mg,rfl,I⟩
   have:=I.a1;have:=I.a2;have:=I.a3;omega
 rintro c st' ⟨r,z,rfl,hq⟩;exact wpS_pure hq
end
def JQ(a b o:List Keyed)(i j:Nat):Prop:=o.Perm (a.drop i++b.drop j)
theorem m_{l:List Keyed}{i:Nat}{x:Keyed}(h:l[i]?=some x):(l.take (i+1)).drop i=[x]:=by
 obtain⟨hi,rfl⟩:=List.getElem?_eq_some_iff.mp h;rw[List.drop_take,List.drop_eq_getElem_cons hi,show i+1 - i=1 by omega]
 rfl
theorem oh{l:List Keyed}{i k:Nat}(h:k<=i):l.drop k=(l.take i).drop k++l.drop i:=by
 conv=>lhs;rw[← List.take_append_drop i l]
 by_cases z:i<=l.length
 . rw[List.drop_append_of_le_length (by rw[List.length_take];omega)]
 have e:l.drop i=[]:=List.drop_of_length_le (by omega)
 rw[e,List.append_nil,List.append_nil]
section
variable{a b o:List Keyed}{i j k:Nat}
theorem JQ.pa(J:JQ a b o i j)(hk:k<=i):JQ a b (o++((a.take i).drop k).reverse) k j:=by
 unfold JQ;rw[oh (l:=a) hk];refine(List.Perm.append_right _ J).trans ((List.Perm.append_left _ (List.reverse_perm _)).trans ?_);refine List.perm_append_comm.trans ?_;rw[List.append_assoc]
theorem JQ.pb(J:JQ a b o i j)(hk:k<=j):JQ a b (o++((b.take j).drop k).reverse) i k:=by
 unfold JQ;rw[oh (l:=b) hk];refine(List.Perm.append_right _ J).trans ((List.Perm.append_left _ (List.reverse_perm _)).trans ?_);rw[List.append_assoc];exact List.Perm.append_left _ List.perm_append_comm
theorem JQ.all(J:JQ a b o i j):(a.take i++b.take j++o.reverse).Perm (a++b):=by
 have h:=(List.Perm.append_left (a.take i++b.take j) ((List.reverse_perm _).trans J)).trans (xF ..);rw[List.take_append_drop,List.take_append_drop]at h;exact h
end
theorem qy(p:Array Keyed)(i:Nat):(p.extract 0 i).toList=p.toList.take i:=by
 rw[di,List.drop_zero,Nat.sub_zero]
theorem pL(p:Array Keyed)(t i:Nat):(p.extract t i).reverse.toList=((p.toList.take i).drop t).reverse:=by
 rw[Array.toList_reverse,di,List.drop_take]
section
variable{p q:Array Keyed}{Q:Array Keyed->SortSt->Prop}{B:Nat}{o:Array Keyed}{i j mg k l ac bc t:Nat}
theorem MgH.h1(F:MgH prog w A E s good kd p q st Q)(S:SmS st st')(J:JQ p.toList q.toList o.toList i j):Q (fN p q o i j) st':=F.hQ _ _ S (by
 unfold fN;rw[Array.toList_append,Array.toList_append,qy,qy,Array.toList_reverse];exact J.all)
theorem MgH.h2(F:MgH prog w A E s good kd p q st Q)(S:SmS st st')(J:JQ p.toList q.toList o.toList i j):Q (kG p q o i j) st':=F.hQ _ _ S (by
 unfold kG;rw[Array.toList_append,Array.toList_append,qy,qy,Array.toList_reverse];exact List.Perm.trans (List.Perm.append_right _ List.perm_append_comm) J.all)
structure HiJ(p q:Array Keyed)(st:SortSt)(B:Nat)(o:Array Keyed)(i j:Nat)(st':SortSt):Prop where
 S:SmS st st'
 J:JQ p.toList q.toList o.toList i j
 a1:1<=i
 a2:2<=j
 z1:i<=p.size
 z2:j<=q.size
 a3:i+j+B<=p.size+q.size
theorem JQ.aK(J:JQ p.toList q.toList o.toList i j)(h:t<=i):JQ p.toList q.toList (o++(p.extract t i).reverse).toList t j:=by
 rw[Array.toList_append,pL];exact J.pa h
theorem JQ.bK(J:JQ p.toList q.toList o.toList i j)(h:t<=j):JQ p.toList q.toList (o++(q.extract t j).reverse).toList i t:=by
 rw[Array.toList_append,pL];exact J.pb h
theorem JQ.a1{v:Keyed}(J:JQ p.toList q.toList o.toList i j)(h:1<=i)(e:p[i - 1]?=some v):JQ p.toList q.toList (o.push v).toList (i - 1) j:=by
 have:=J.pa (k:=i - 1) (by omega)
 have e2:=m_ (iT e);rw[Nat.sub_add_cancel h]at e2;rw[e2]at this;rw[Array.toList_push];exact this
theorem JQ.b1{v:Keyed}(J:JQ p.toList q.toList o.toList i j)(h:1<=j)(e:q[j - 1]?=some v):JQ p.toList q.toList (o.push v).toList i (j - 1):=by
 have:=J.pb (k:=j - 1) (by omega)
 have e2:=m_ (iT e);rw[Nat.sub_add_cancel h]at e2;rw[e2]at this;rw[Array.toList_push];exact this
def HiD(p q:Array Keyed)(st:SortSt)(Q:Array Keyed->SortSt->Prop)(B:Nat)(c:HSt)(st':SortSt):Prop:=(∃ r z,c=(some r,z)/\Q r st') ∨ ∃ i j o mg ac bc,c=(none,i,j,o,mg,ac,bc)/\HiJ p q st B o i j st'
def HiR(p q:Array Keyed)(st:SortSt)(Q:Array Keyed->SortSt->Prop)(B:Nat)(r:ForInStep HSt)(st':SortSt):Prop:=match r with
 | .done c=>HiD p q st Q B c st'
 | .yield c=>∃ i j o mg ac bc,c=(none,i,j,o,mg,ac,bc)/\HiJ p q st B o i j st'
theorem qg(F:MgH prog w A E s good kd p q st Q)(I:HiJ p q st B o i j st'):wpS (model prog w) A E s (hiC p q o i j mg k l) (HiR p q st Q B) st':=by
 obtain⟨S,J0,a1,a2,z1,z2,a3⟩:=I;obtain⟨v,ev,_⟩:=bx (p:=p) (i:=i - 1) (by omega)
 have J:=J0.a1 a1 ev;refine wpS_bind (aT ev (ar (fun c=>wpS_pure (.inl ⟨_,_,rfl,F.h1 S J⟩)) (fun c=>?_)));have n:=bg c;have K:HiJ p q st B (o.push v) (i - 1) j st':=⟨S,J,by omega,a2,by omega,z2,by omega⟩
 exact ar (fun _=>wpS_pure (.inr ⟨_,_,_,_,_,_,rfl,K⟩)) fun _=>wpS_pure ⟨_,_,_,_,_,_,rfl,K⟩
theorem qc(F:MgH prog w A E s good kd p q st Q)(I:HiJ p q st B o i j st'):wpS (model prog w) A E s (hiB p q o i j mg k bc) (HiR p q st Q B) st':=by
 obtain⟨S,J0,a1,a2,z1,z2,a3⟩:=I;obtain⟨v,ev,mv⟩:=bx (p:=p) (i:=i - 1) (by omega)
 obtain⟨y,ey,_⟩:=bx (p:=q) (i:=j - 1) (by omega)
 have J:=J0.b1 (Nat.le_of_succ_le a2) ey;refine wpS_bind (aT ey (ar (fun c=>wpS_pure (.inl ⟨_,_,rfl,F.h2 S J⟩)) (fun c=>?_)));have n:=bg c;refine wpS_bind (aT ev (wpS_bind (fq F.hL (S.k.trans F.hk) (F.gp _ mv) F.gq (by omega) (by omega) fun l l1=>?_)))
 refine ar (fun g=>?_) (fun g=>qg F ⟨S,J,a1,by omega,z1,by omega,by omega⟩)
 have J4:=J.bK l1;refine ar (fun c=>wpS_pure (.inl ⟨_,_,rfl,F.h2 S J4⟩)) (fun c6=>ar (fun c=>wpS_pure (.inl ⟨_,_,rfl,F.h1 S J4⟩)) (fun c9=>?_));have n6:=bg c6;have n9:=bg c9;exact qg F ⟨S,J4,a1,by omega,z1,by omega,by omega⟩
theorem pQ(F:MgH prog w A E s good kd p q st Q)(I:HiJ p q st B o i j st'):wpS (model prog w) A E s (hiG p q o i j mg ac bc) (HiR p q st Q B) st':=by
 obtain⟨S,J0,a1,a2,z1,z2,a3⟩:=I;obtain⟨y,ey,my⟩:=bx (p:=q) (i:=j - 1) (by omega)
 refine wpS_bind (gG S fun st3 S3=>wpS_bind (aT ey (wpS_bind (fq F.hL (S3.k.trans F.hk) (F.gq _ my) F.gp (by omega) (by omega) fun t k1=>?_))))
 refine ar (fun g=>?_) (fun g=>qc F ⟨S3,J0,a1,a2,z1,z2,a3⟩);refine ar (fun c=>wpS_pure (.inl ⟨_,_,rfl,F.h1 S3 (J0.aK k1)⟩)) (fun c=>?_);have n:=bg c;exact qc F ⟨S3,J0.aK k1,by omega,a2,by omega,z2,by omega⟩
theorem wL(F:MgH prog w A E s good kd p q st Q)(I:HiJ p q st B o i j st'):wpS (model prog w) A E s (hiL p q (none,i,j,o,mg,ac,bc)) (HiR p q st Q B) st':=ar (fun _=>pQ F I) fun _=>pQ F I
def HiE(p q:Array Keyed)(st:SortSt)(Q:Array Keyed->SortSt->Prop)(B:Nat)(r:ForInStep HS2)(st':SortSt):Prop:=match r with
 | .done c=>(∃ r z,c=(some r,z)/\Q r st') ∨ ∃ i j o ac bc,c=(none,i,j,o,ac,bc)/\HiJ p q st B o i j st'
 | .yield c=>∃ i j o ac bc,c=(none,i,j,o,ac,bc)/\HiJ p q st B o i j st'
theorem xp(F:MgH prog w A E s good kd p q st Q)(I:HiJ p q st B o i j st'):wpS (model prog w) A E s (hiA p q mg (none,i,j,o,ac,bc)) (HiE p q st Q (B+1)) st':=by
 obtain⟨S,J0,a1,a2,z1,z2,a3⟩:=I;obtain⟨y,ey,my⟩:=bx (p:=q) (i:=j - 1) (by omega)
 obtain⟨v,ev,mv⟩:=bx (p:=p) (i:=i - 1) (by omega)
 refine wpS_bind (aT ey (wpS_bind (aT ev (wpS_bind (F.hL y v st' _ (F.gq _ my) (F.gp _ mv) (S.k.trans F.hk) fun aw=>?_)))));cases aw with
 | true=>
   have J:=J0.a1 a1 ev;refine wpS_bind (aT ev (ar (fun c=>wpS_pure (.inl ⟨_,_,rfl,F.h1 S J⟩)) (fun c=>?_)));have n:¬ i - 1=0:=bg c;have K:HiJ p q st (B+1) (o.push v) (i - 1) j st':=⟨S,J,by omega,a2,by omega,z2,by omega⟩
   exact ar (fun _=>wpS_pure (.inr ⟨_,_,_,_,_,rfl,K⟩)) fun _=>wpS_pure ⟨_,_,_,_,_,rfl,K⟩
 | false=>
   have J:=J0.b1 (Nat.le_of_succ_le a2) ey;refine wpS_bind (aT ey (ar (fun c=>wpS_pure (.inl ⟨_,_,rfl,F.h2 S J⟩)) (fun c=>?_)));have n:¬ j - 1=1:=bg c;have K:HiJ p q st (B+1) (o.push y) i (j - 1) st':=⟨S,J,a1,by omega,z1,by omega,by omega⟩
   exact ar (fun _=>wpS_pure (.inr ⟨_,_,_,_,_,rfl,K⟩)) fun _=>wpS_pure ⟨_,_,_,_,_,rfl,K⟩
theorem HiJ.mono{C:Nat}(I:HiJ p q st B o i j st')(h:C<=B):HiJ p q st C o i j st':=⟨I.S,I.J,I.a1,I.a2,I.z1,I.z2,Nat.le_trans (Nat.add_le_add_left h _) I.a3⟩
theorem xx{Q2:ForInStep HS1->SortSt->Prop}(F:MgH prog w A E s good kd p q st Q)(I:HiJ p q st B o i j st')(q1:∀ r z st',Q r st'->Q2 (.done (some r,z)) st')(q2:∀ i j o mg st',HiJ p q st (B+1) o i j st'->Q2 (.yield (none,i,j,o,mg)) st'):wpS (model prog w) A E s (hiO p q (none,i,j,o,mg)) Q2 st':=by
 have tt:0 < p.size+q.size:=Nat.add_pos_left (Nat.lt_of_lt_of_le I.a1 I.z1) _;refine wpS_bind (wpS_mono (wpS_forRange (I:=fun x c st'=>∃ i j o ac bc,c=(none,i,j,o,ac,bc)/\HiJ p q st (B+x) o i j st')
  (Q:=fun c st'=>(∃ r z,c=(some r,z)/\Q r st') ∨ ∃ i j o ac bc,c=(none,i,j,o,ac,bc)/\HiJ p q st (B+1) o i j st') ?_ ?_ ⟨i,j,o,0,0,rfl,I⟩) ?_)
 . rintro x c st2 _ _ ⟨i,j,o,ac,bc,rfl,I⟩
   refine wpS_mono (xp F I) fun r st3 h=>?_;cases r with
   | done c=>exact h.imp id fun⟨i,j,o,ac,bc,e,I⟩=>⟨i,j,o,ac,bc,e,I.mono (by omega)⟩
   | yield c=>exact h
 . rintro c st2 ⟨i,j,o,ac,bc,rfl,I⟩
   exact .inr ⟨i,j,o,ac,bc,rfl,I.mono (by omega)⟩
 rintro c st2 (⟨r,z,rfl,hq⟩ | ⟨i,j,o,ac,bc,rfl,I⟩)
 . exact wpS_pure (q1 _ _ _ hq)
 refine wpS_bind (wpS_lift (wpAny_rule ⟨rfl,?_⟩));refine wpS_bind (wpS_mono (wpS_forRange (I:=fun x c st'=>∃ i j o mg ac bc,c=(none,i,j,o,mg,ac,bc)/\HiJ p q st (B+1) o i j st') (Q:=HiD p q st Q (B+1)) ?_ (fun c st' h=>.inr h) ⟨i,j,o,_,ac,bc,rfl,I⟩) ?_)
 . rintro x c st3 _ _ ⟨i,j,o,mg,ac,bc,rfl,I⟩
   refine wpS_mono (wL F I) fun r st4 h=>?_;cases r <;> exact h
 rintro c st3 (⟨r,z,rfl,hq⟩ | ⟨i,j,o,mg,ac,bc,rfl,I⟩)
 . exact wpS_pure (q1 _ _ _ hq)
 exact wpS_bind (gG I.S fun st4 S4=>wpS_pure (q2 _ _ _ _ _ ⟨S4,I.J,I.a1,I.a2,I.z1,I.z2,I.a3⟩))
theorem nI(F:MgH prog w A E s good kd p q st Q)(p0:0 < p.size)(q0:0 < q.size):wpS (model prog w) A E s (jg p q) Q st:=by
 rw[nC];refine wpS_bind (wpS_lift (wpAny_rule ⟨rfl,?_⟩));obtain⟨x0,d0,m0⟩:=bx (p:=p) (i:=p.size - 1) (by omega)
 have J0:JQ p.toList q.toList (#[x0]:Array Keyed).toList (p.size - 1) q.size:=JQ.a1 (o:=#[]) (i:=p.size) (by unfold JQ;rw[List.drop_of_length_le (by simp),List.drop_of_length_le (by simp)];exact List.Perm.refl _) p0 d0
 refine wpS_bind (aT d0 (ar (fun c=>wpS_pure (F.h1 (SmS.rfl' st) J0)) (fun c1=>ar (fun c=>wpS_pure (F.h2 (SmS.rfl' st) J0)) (fun c2=>?_))));have n1:=bg c1;have n2:=bg c2;refine wpS_bind (wpS_get (wpS_bind (wpS_mono (wpS_forRange (I:=fun x c st'=>∃ i j o mg,c=(none,i,j,o,mg)/\HiJ p q st (x+1) o i j st') (Q:=fun c st'=>∃ r z,c=(some r,z)/\Q r st') ?_ ?_ ⟨_,_,_,_,rfl,SmS.rfl' st,J0,by omega,by omega,by omega,Nat.le_refl _,by omega⟩) ?_)))
 . rintro x c st1 _ hx ⟨i,j,o,mg,rfl,I⟩
   exact xx F I (fun r z st' h=>⟨r,z,rfl,h⟩) fun i j o mg st' h=>⟨i,j,o,mg,rfl,h⟩
 . rintro c st' ⟨i,j,o,mg,rfl,I⟩
   have:=I.a1;have:=I.a3;omega
 rintro c st' ⟨r,z,rfl,hq⟩;exact wpS_pure hq
end
theorem vP{st z:SortSt}{Q:PUnit->SortSt->Prop}(h:Q ⟨⟩ z):wpS (model prog w) A E s (set z:StateT SortSt Sem PUnit) Q st:=by
 unfold wpS;exact wpAny_pure ⟨rfl,h⟩
structure PD(good:Keyed->Prop)(kd:SortKind)(a₀:Array Keyed)(st:SortSt)(rs:List (List Keyed))(rest:List Keyed):Prop where
 pm:(arrOf st).Perm a₀
 kd:kindOf st=kd
 fl:failedOf st=none
 eq:(arrOf st).toList=rs.flatten++rest
 pd:(pendingOf st).toList.map (fun t=>(t.1,t.2.1))=gj 0 rs
 so:∀ r∈rs,r≠[]
 gd:∀ x∈(arrOf st).toList,good x
theorem qw{ps:List (Nat×Nat×Nat)}{u v:List (List Keyed)}{a b:List Keyed}(h:ps.map (fun t=>(t.1,t.2.1))=gj 0 (u++a::b::v)) :
 ∃ pu pv pw pw2,ps=pu++(u.flatten.length,a.length,pw)::(u.flatten.length+a.length,b.length,pw2)::pv/\pu.length=u.length/\pu.map (fun t=>(t.1,t.2.1))=gj 0 u/\pv.map (fun t=>(t.1,t.2.1))=gj (u.flatten.length+a.length+b.length) v:=by
 rw[gS,Nat.zero_add]at h;obtain⟨pu,pr,rfl,h1,h2⟩:=List.map_eq_append_iff.mp h;have h2:pr.map (fun t=>(t.1,t.2.1))=(u.flatten.length,a.length)::(u.flatten.length+a.length,b.length)::gj (u.flatten.length+a.length+b.length) v:=h2;obtain⟨ta,pr2,rfl,h3,h4⟩:=List.map_eq_cons_iff.mp h2;obtain⟨tb,pv,rfl,h5,h6⟩:=List.map_eq_cons_iff.mp h4;obtain⟨ta1,ta2,ta3⟩:=ta;obtain⟨tb1,tb2,tb3⟩:=tb;cases h3;cases h5;refine⟨pu,pv,ta3,tb3,rfl,?_,h1,h6⟩;have:=congrArg List.length h1;rw[List.length_map,ja]at this;exact this
section
variable{a₀:Array Keyed}{u v rs:List (List Keyed)}{a b r rest:List Keyed}{pw:Nat}
theorem PD.merge(P:PD good kd a₀ st (u++a::b::v) rest)(k1:kindOf st'=kindOf st)(f1:failedOf st'=failedOf st)
 (e1:(arrOf st').toList=u.flatten++r++(v.flatten++rest)) (pm:r.Perm (a++b)) (hp:∀ pu pv pa pb,(pendingOf st).toList=pu++pa::pb::pv->pu.length=u.length->(pendingOf st').toList=pu++(u.flatten.length,a.length+b.length,pw)::pv):PD good kd a₀ st' (u++r::v) rest:=by
 obtain⟨pu,pv,w1,w2,ep,lp,m1,m2⟩:=qw P.pd;have ex:(arrOf st).toList=u.flatten++(a++b)++(v.flatten++rest):=by rw[P.eq];simp
 have pml:(arrOf st').toList.Perm (arrOf st).toList:=by
  rw[e1,ex];exact List.Perm.append_right _ (List.Perm.append_left _ pm)
 have hl:r.length=a.length+b.length:=by rw[pm.length_eq,List.length_append]
 refine⟨(Array.perm_iff_toList_perm.mpr pml).trans P.pm,k1.trans P.kd,f1.trans P.fl,by rw[e1];simp,?_,fun z hz=>?_,fun x hx=>P.gd x (pml.mem_iff.mp hx)⟩
 . rw[hp pu pv _ _ ep lp,List.map_append,m1,List.map_cons,m2,gS,Nat.zero_add]
   show _++(u.flatten.length,a.length+b.length)::_=_++(u.flatten.length,r.length)::gj (u.flatten.length+r.length) v;rw[hl,Nat.add_assoc]
 rcases List.mem_append.mp hz with y | y
 . exact P.so z (List.mem_append_left _ y)
 rcases List.mem_cons.mp y with rfl | y
 . intro e
   have:=List.length_pos_iff.mpr (P.so a (by simp))
   rw[e,List.length_nil]at hl;omega
 exact P.so z (by simp[y])
theorem mO(hL:LtP prog w A E s good kd){Q:Bool->SortSt->Prop}(P:PD good kd a₀ st (u++a::b::v) rest)(q:∀ r st',PD good kd a₀ st' (u++r::v) rest->Q true st'):wpS (model prog w) A E s (mergeAt' u.length) Q st:=by
 obtain⟨pu,pv,pw,pw2,ep,lp,_,_⟩:=qw P.pd;have ga:(pendingOf st)[u.length]?=some (u.flatten.length,a.length,pw):=by
  rw[← Array.getElem?_toList,ep,← lp,List.getElem?_append_right (Nat.le_refl _),Nat.sub_self];rfl
 have gb:(pendingOf st)[u.length+1]?=some (u.flatten.length+a.length,b.length,pw2):=by
  rw[← Array.getElem?_toList,ep,← lp,List.getElem?_append_right (by omega),show pu.length+1 - pu.length=1 by omega];rfl
 have hp:∀ pu' pv' pa pb,(pendingOf st).toList=pu'++pa::pb::pv'->pu'.length=u.length->(((pendingOf st).setIfInBounds u.length (u.flatten.length,a.length+b.length,pw)).eraseIdxIfInBounds (u.length+1)).toList=pu'++(u.flatten.length,a.length+b.length,pw)::pv':=fun pu' pv' pa pb e l=>by
  rw[Array.toList_eraseIdxIfInBounds,Array.toList_setIfInBounds,e,← l,List.set_append_right _ _ (Nat.le_refl _),Nat.sub_self,List.set_cons_zero,List.eraseIdx_append_of_length_le (by omega),show pu'.length+1 - pu'.length=1 by omega]
  rfl
 have na:=List.length_pos_iff.mpr (P.so a (by simp))
 have nb:=List.length_pos_iff.mpr (P.so b (by simp))
 have ex:(arrOf st).toList=u.flatten++(a++b)++(v.flatten++rest):=by rw[P.eq];simp
 have size:u.flatten.length+a.length+b.length<=(arrOf st).size:=by
  rw[← Array.length_toList,ex];simp only[List.length_append];omega
 have gd:=P.gd;have kk:=P.kd;obtain⟨b0,eb0,mb⟩:=bx (p:=arrOf st) (i:=u.flatten.length+a.length) (by omega)
 obtain⟨al,eal,ma⟩:=bx (p:=arrOf st) (i:=u.flatten.length+a.length - 1) (by omega)
 rw[ny];refine wpS_bind (wpS_get ?_);rw[ga,gb];refine wpS_bind (vP ?_);have done_:Q true (setPending st (((pendingOf st).setIfInBounds u.length (u.flatten.length,a.length+b.length,pw)).eraseIdxIfInBounds (u.length+1))):=q _ _ (P.merge (st':=setPending st _) rfl rfl ex (List.Perm.refl _) hp);refine wpS_bind (aT eb0 (wpS_bind (fq hL kk (gd _ mb) gd (by omega) na fun k k1=>?_)))
 refine ar (fun c=>wpS_pure done_) (fun c=>?_);have c:=bg c;refine wpS_bind (aT (by rw[show u.flatten.length+k+(a.length - k) - 1=u.flatten.length+a.length - 1 by omega];exact eal) (wpS_bind (fq hL kk (gd _ ma) gd (by omega) (by omega) fun l l1=>?_)))
 refine ar (fun c=>wpS_pure done_) (fun c2=>?_);have c2:=bg c2;have dr:∀ k,(arrOf st).toList.drop (u.flatten.length+k)=(a++b++(v.flatten++rest)).drop k:=fun k=>by
  rw[ex,List.append_assoc,List.drop_append,List.drop_of_length_le (by omega),Nat.add_sub_cancel_left,List.nil_append]
 have ep1:((arrOf st).extract (u.flatten.length+k) (u.flatten.length+a.length)).toList=a.drop k:=by
  rw[di,dr,List.append_assoc,List.drop_append_of_le_length k1,show u.flatten.length+a.length - (u.flatten.length+k)=(a.drop k).length by rw[List.length_drop];omega,List.take_append_of_le_length (Nat.le_refl _),List.take_length]
 have ep2:((arrOf st).extract (u.flatten.length+a.length) (u.flatten.length+a.length+l)).toList=b.take l:=by
  rw[di,dr,List.append_assoc,List.drop_append_of_le_length (Nat.le_refl _),List.drop_length,List.nil_append,Nat.add_sub_cancel_left,List.take_append_of_le_length l1]
 have zp:0 < ((arrOf st).extract (u.flatten.length+k) (u.flatten.length+a.length)).size:=by rw[← Array.length_toList,ep1,List.length_drop];omega
 have zq:0 < ((arrOf st).extract (u.flatten.length+a.length) (u.flatten.length+a.length+l)).size:=by rw[← Array.length_toList,ep2,List.length_take];omega
 have gp:∀ x∈a.drop k,good x:=fun x hx=>gd _ (by rw[ex];have:=List.mem_of_mem_drop hx;simp[this])
 have gq:∀ x∈b.take l,good x:=fun x hx=>gd _ (by rw[ex];have:=List.mem_of_mem_take hx;simp[this])
 have fin_:∀(mm:Array Keyed) (st':SortSt),SmS (setPending st (((pendingOf st).setIfInBounds u.length (u.flatten.length,a.length+b.length,pw)).eraseIdxIfInBounds (u.length+1))) st'->mm.toList.Perm (a.drop k++b.take l) ->
  Q true (setArr st' (mm.toList.zipIdx.foldl (fun a (e,j)=>a.setIfInBounds (u.flatten.length+k+j) e) (arrOf st'))):=fun mm st' S M=>by
  have lm:mm.toList.length=a.length - k+l:=by
   rw[M.length_eq,List.length_append,List.length_drop,List.length_take];omega
  refine q (a.take k++mm.toList++b.drop l) _ (P.merge (pw:=pw) (st':=setArr st' _) S.k S.f ?_ ?_ fun pu pv pa pb e l=>?_)
  . show(List.foldl _ (arrOf st') _).toList=_
    rw[S.a];show(List.foldl _ (arrOf st) _).toList=_;rw[xP (u.flatten.length+k) mm.toList 0 (arrOf st) (by omega),Nat.add_zero,lm,show u.flatten.length+k+(a.length - k+l)=u.flatten.length+(a.length+l) by omega,dr]
    have e1:(arrOf st).toList.take (u.flatten.length+k)=u.flatten++a.take k:=by
     rw[ex,List.append_assoc,List.take_append,List.take_of_length_le (by omega),Nat.add_sub_cancel_left,List.append_assoc,List.take_append_of_le_length k1]
    have e2:(a++b++(v.flatten++rest)).drop (a.length+l)=b.drop l++(v.flatten++rest):=by
     rw[List.append_assoc,List.drop_append,List.drop_of_length_le (by omega),Nat.add_sub_cancel_left,List.nil_append,List.drop_append_of_le_length l1]
    rw[e1,e2];simp only[List.append_assoc]
  . have h1:(a.take k++mm.toList++b.drop l).Perm (a.take k++(a.drop k++b.take l)++b.drop l):=List.Perm.append_right _ (List.Perm.append_left _ M)
    have h2:a.take k++(a.drop k++b.take l)++b.drop l=a++b:=by
     rw[← List.append_assoc,List.take_append_drop,List.append_assoc,List.take_append_drop]
    rw[h2]at h1;exact h1
  show(pendingOf st').toList=_;rw[S.p];exact hp pu pv pa pb e (by assumption)
 have F:MgH prog w A E s good kd ((arrOf st).extract (u.flatten.length+k) (u.flatten.length+a.length)) ((arrOf st).extract (u.flatten.length+a.length) (u.flatten.length+a.length+l)) (setPending st (((pendingOf st).setIfInBounds u.length (u.flatten.length,a.length+b.length,pw)).eraseIdxIfInBounds (u.length+1))) fun mm st'=>Q true (setArr st' (mm.toList.zipIdx.foldl (fun a (e,j)=>a.setIfInBounds (u.flatten.length+k+j) e) (arrOf st')))/\failedOf st'=none:=by
  refine⟨hL,kk,by rw[ep1];exact gp,by rw[ep2];exact gq,fun mm st' S M=>⟨fin_ mm st' S (by rw[ep1,ep2]at M;exact M),?_⟩⟩
  rw[S.f];exact P.fl
 have tl:∀(m:StateT SortSt Sem (Array Keyed)),wpS (model prog w) A E s m (fun mm st'=>Q true (setArr st' (mm.toList.zipIdx.foldl (fun a (e,j)=>a.setIfInBounds (u.flatten.length+k+j) e) (arrOf st')))/\failedOf st'=none) (setPending st (((pendingOf st).setIfInBounds u.length (u.flatten.length,a.length+b.length,pw)).eraseIdxIfInBounds (u.length+1))) ->
  wpS (model prog w) A E s (do
   let mm ← m
   modify fun z=>setArr z (mm.toList.zipIdx.foldl (fun a (e,j)=>a.setIfInBounds (u.flatten.length+k+j) e) (arrOf z))
   let z ← get
   pure (failedOf z).isNone) Q (setPending st (((pendingOf st).setIfInBounds u.length (u.flatten.length,a.length+b.length,pw)).eraseIdxIfInBounds (u.length+1))):=fun m h=>wpS_bind (wpS_mono h fun mm st' ⟨h1,h2⟩=>wpS_bind (wpS_modify (wpS_bind (wpS_get (by
  show wpS _ _ _ _ (pure (failedOf st').isNone) _ _;rw[h2];exact wpS_pure h1)))))
 exact ar (fun _=>tl _ (nK F zp zq)) fun _=>tl _ (nI F zp zq)
end
structure SB(lo:Nat)(st0 st:SortSt):Prop where
 pm:(arrOf st).Perm (arrOf st0)
 kd:kindOf st=kindOf st0
 pd:pendingOf st=pendingOf st0
 fl:failedOf st=failedOf st0
 lw:∀ i,i < lo->(arrOf st)[i]?=(arrOf st0)[i]?
theorem SB.rfl'(lo:Nat)(st:SortSt):SB lo st st:=⟨Array.Perm.refl _,rfl,rfl,rfl,fun _ _=>rfl⟩
theorem SB.size{lo:Nat}{st0 st:SortSt}(h:SB lo st0 st):(arrOf st).size=(arrOf st0).size:=h.pm.size_eq
theorem SB.mir{lo i j:Nat}{st0 st:SortSt}(h:SB lo st0 st)(h1:lo<=i)(h2:j<=(arrOf st0).size):SB lo st0 (setArr st (mirror (arrOf st) i j ((j - i) / 2))):=
 ⟨(mirror_perm _ _ _ _).trans h.pm,h.kd,h.pd,h.fl,fun k hk=>by
   show(mirror (arrOf st) i j ((j - i) / 2))[k]?=_;rw[getElem?_mirror_all (by rw[h.size];exact h2),if_neg (by omega)]
   exact h.lw k hk⟩
theorem SB.bub{lo i j:Nat}{st0 st:SortSt}(h:SB lo st0 st)(h1:lo<=j)(hj:j<=i)(h2:i < (arrOf st0).size):SB lo st0 (setArr st (bubble (arrOf st) i (i - j))):=
 ⟨(bubble_perm _ _ _).trans h.pm,h.kd,h.pd,h.fl,fun k hk=>by
   show(bubble (arrOf st) i (i - j))[k]?=_;rw[getElem?_bubble (by rw[h.size];exact h2) _ (by omega),if_neg (by omega),if_neg (by omega)]
   exact h.lw k hk⟩
section
variable{lo n:Nat}{st0:SortSt}
structure CnF(prog:Program)(w:World)(A:Around)(E:Value->Shared->Prop)(s:Shared)(good:Keyed->Prop)(kd:SortKind)(lo n:Nat)(st0:SortSt):Prop where
 hL:LtP prog w A E s good kd
 hk:kindOf st0=kd
 gd:∀ x∈(arrOf st0).toList,good x
 hn:lo+n<=(arrOf st0).size
theorem jT(F:CnF prog w A E s good kd lo n st0)(S:SB lo st0 st){i j:Nat}{Q:Option Bool->SortSt->Prop}(hi:i < (arrOf st0).size)(hj:j < (arrOf st0).size)(q:∀ b,Q (some b) st):wpS (model prog w) A E s (ltAt' i j) Q st:=by
 obtain⟨x,ex,mx⟩:=bx (p:=arrOf st) (i:=i) (by rw[S.size];exact hi)
 obtain⟨y,ey,my⟩:=bx (p:=arrOf st) (i:=j) (by rw[S.size];exact hj)
 have mem:∀ x,x∈(arrOf st).toList->good x:=fun x hx=>F.gd x ((Array.perm_iff_toList_perm.mp S.pm).mem_iff.mp hx);rw[ltAt'_eq];exact wpS_bind (wpS_get (wpS_bind (aT ex (wpS_bind (aT ey (F.hL x y st _ (mem x mx) (mem y my) (S.kd.trans F.hk) q))))))
theorem p_(F:CnF prog w A E s good kd lo n st0)(S:SB lo st0 st){a:Nat}{Q:AS->SortSt->Prop}(ha:1<=a)(han:a<=n)(q:∀ m,a<=m->m<=n->Q (none,m) st):wpS (model prog w) A E s (forIn [a:n] ((none,a):AS) fun _=>yQ lo) Q st:=by
 have hn:=F.hn;refine wpS_forRange (I:=fun x c st'=>st'=st/\c=(none,x)) ?_ ?_ ⟨rfl,rfl⟩
 . rintro x c st' hax hxn ⟨rfl,rfl⟩
   refine wpS_bind (jT F S (i:=lo+x) (by omega) (by show lo+x - 1 < _;omega) fun b=>?_)
   cases b with
   | true=>exact wpS_pure (q x hax (Nat.le_of_lt hxn))
   | false=>exact wpS_pure ⟨rfl,rfl⟩
 rintro c st' ⟨rfl,rfl⟩;rw[Nat.max_eq_right han];exact q n han (Nat.le_refl _)
theorem kF(F:CnF prog w A E s good kd lo n st0)(S:SB lo st0 st){m:Nat}{Q:Option Nat->SortSt->Prop}(m1:1<=m)(m2:m<=n)(q:∀ m st',SB lo st0 st'->1<=m->m<=n->Q (some m) st'):wpS (model prog w) A E s (vd lo n m) Q st:=by
 have hn:=F.hn;have S2:=S.mir (i:=lo) (j:=lo+m) (Nat.le_refl _) (by omega)
 exact wpS_bind (wpS_reverse (wpS_bind (p_ F S2 m1 m2 fun m' a1 a2=>wpS_pure (q m' _ S2 (Nat.le_trans m1 a1) a2))))
theorem m9(F:CnF prog w A E s good kd lo n st0)(S:SB lo st0 st){m:Nat}{Q:Option Nat->SortSt->Prop}(m2:m+1<=n)(q:∀ m st',SB lo st0 st'->1<=m->m<=n->Q (some m) st'):wpS (model prog w) A E s (ur lo n m) Q st:=by
 have hn:=F.hn;refine wpS_bind (wpS_lift (wpAny_rule ⟨rfl,?_⟩));refine wpS_bind (wpS_mono (wpS_forRange (I:=fun x c st'=>∃ nq,c=(none,x,nq)/\SB lo st0 st'/\nq+1<=x) (Q:=fun c st'=>∃ x nq,c=(none,x,nq)/\m+1<=x/\x<=n/\SB lo st0 st'/\nq+1<=x) ?_ ?_ ⟨0,rfl,S,by omega⟩) ?_)
 . rintro x c st' hax hxn ⟨nq,rfl,S',hq⟩
   have i1:lo+x < (arrOf st0).size:=by omega
   have i2:lo+x - 1 < (arrOf st0).size:=by omega
   refine wpS_bind (jT F S' (i:=lo+x) i1 i2 fun b=>?_);cases b with
   | true=>
     refine ar (fun _=>ar (fun g=>?_) (fun g=>?_)) (fun z=>absurd rfl z)
     . exact wpS_bind (wpS_reverse (wpS_pure ⟨0,rfl,S'.mir (by show lo<=lo+x - (nq+1);omega) (by show lo+x<=_;omega),by omega⟩))
     exact wpS_pure ⟨0,rfl,S',by omega⟩
   | false=>
     refine wpS_bind (jT F S' (i:=lo+x - 1) i2 i1 fun b=>?_);cases b with
     | true=>exact wpS_pure ⟨x,nq,rfl,hax,Nat.le_of_lt hxn,S',hq⟩
     | false=>exact wpS_pure ⟨nq+1,rfl,S',by omega⟩
 . rintro c st' ⟨nq,rfl,S',hq⟩
   rw[Nat.max_eq_right m2]at hq ⊢;exact⟨n,nq,rfl,m2,Nat.le_refl _,S',hq⟩
 rintro c st' ⟨x,nq,rfl,x1,x2,S',hq⟩;have x0:1<=x:=by omega
 exact ar (fun g=>wpS_bind (wpS_reverse (kF F (S'.mir (by show lo<=lo+x - (nq+1);omega) (by show lo+x<=_;omega)) x0 x2 q))) fun _=>kF F S' x0 x2 q
theorem rM(F:CnF prog w A E s good kd lo n st0){Q:Option Nat->SortSt->Prop}(h1:1<=n)(q:∀ m st',SB lo st0 st'->1<=m->m<=n->Q (some m) st'):wpS (model prog w) A E s (countRun' lo n) Q st0:=by
 have hn:=F.hn;rw[sg];have S0:=SB.rfl' lo st0;refine wpS_bind (p_ F S0 (Nat.le_refl 1) h1 fun m m1 m2=>?_);refine ar (fun c=>wpS_pure (q m st0 S0 m1 m2)) (fun c=>?_);have c:¬ m=n:=bg c;have m3:m+1<=n:=by omega
 refine ar (fun g=>?_) (fun g=>m9 F S0 m3 q);refine wpS_bind (jT F S0 (i:=lo) (by omega) (by show lo+m - 1 < _;omega) fun b=>?_)
 cases b with
 | true=>exact wpS_pure (q m st0 S0 m1 m2)
 | false=>exact wpS_bind (wpS_reverse (m9 F (S0.mir (i:=lo) (j:=lo+m) (Nat.le_refl _) (by omega)) m3 q))
theorem sU(F:CnF prog w A E s good kd lo n st0){ok:Nat}{Q:Bool->SortSt->Prop}(S:SB lo st0 st)(q:∀ st',SB lo st0 st'->Q true st'):wpS (model prog w) A E s (binarySort' lo n ok) Q st:=by
 have hn:=F.hn;rw[binarySort'_eq];refine wpS_bind (wpS_mono (wpS_forRange (I:=fun k c st'=>c=(none,())/\SB lo st0 st') (Q:=fun c st'=>c=(none,())/\SB lo st0 st') ?_ (fun _ _ h=>h) ⟨rfl,S⟩) ?_)
 . rintro k c st' a1 a2 ⟨rfl,S'⟩
   refine wpS_bind (wpS_mono (wpS_forRange (I:=fun x c st2=>st2=st' /\ ∃ l r,c=(none,l,r)/\l<=r/\r<=k) (Q:=fun c st2=>st2=st' /\ ∃ l r,c=(none,l,r)/\l<=r/\r<=k) ?_ (fun _ _ h=>h) ⟨rfl,0,k,rfl,Nat.zero_le _,Nat.le_refl _⟩) ?_)
   . rintro x c st2 _ hx ⟨rfl,l,r,rfl,b1,b2⟩
     refine ar (fun g=>?_) (fun g=>?_)
     . exact wpS_pure ⟨rfl,l,r,rfl,b1,b2⟩
     have g:¬ l ≥ r:=g;refine wpS_bind (jT F S' (i:=lo+k) (by omega) (by show lo+(l+r) / 2 < _;omega) fun b=>?_)
     cases b with
     | true=>exact wpS_pure ⟨rfl,l,(l+r) / 2,rfl,by omega,by omega⟩
     | false=>exact wpS_pure ⟨rfl,(l+r) / 2+1,r,rfl,by omega,b2⟩
   rintro c st2 ⟨rfl,l,r,rfl,b1,b2⟩;show wpS (model prog w) A E s (moveDown' (lo+k) (lo+l) >>= _) _ _;rw[moveDown'_eq];exact wpS_bind (wpS_modify (wpS_pure ⟨rfl,S'.bub (by omega) (by omega) (by omega)⟩))
 rintro c st' ⟨rfl,S'⟩;exact wpS_pure (q st' S')
end
section
variable{a₀:Array Keyed}{rs:List (List Keyed)}{rest:List Keyed}
theorem PD.psize(P:PD good kd a₀ st rs rest):(pendingOf st).size=rs.length:=by
 have:=congrArg List.length P.pd;rw[List.length_map,ja,Array.length_toList]at this;exact this
theorem PD.asize(P:PD good kd a₀ st rs rest):rs.flatten.length+rest.length=a₀.size:=by
 rw[← P.pm.size_eq,← Array.length_toList,P.eq,List.length_append]
theorem yx{rs:List (List Keyed)}{i:Nat}(h:i+1 < rs.length):∃ u a b v,rs=u++a::b::v/\u.length=i:=by
 refine⟨rs.take i,rs[i],rs[i+1],rs.drop (i+2),?_,by rw[List.length_take];omega⟩
 conv=>lhs;rw[← List.take_append_drop i rs]
 rw[List.drop_eq_getElem_cons (by omega),List.drop_eq_getElem_cons (by omega)]
theorem lH(hL:LtP prog w A E s good kd){i:Nat}{Q:Bool->SortSt->Prop}(P:PD good kd a₀ st rs rest)(h:i+1 < rs.length)(q:∀ rs' st',PD good kd a₀ st' rs' rest->rs'.length+1=rs.length->Q true st'):wpS (model prog w) A E s (mergeAt' i) Q st:=by
 obtain⟨u,a,b,v,rfl,rfl⟩:=yx h;exact mO hL P fun r st' P'=>q _ st' P' (by simp only[List.length_append,List.length_cons];omega)
theorem PD.run(P:PD good kd a₀ st rs rest){n:Nat}(S:SB rs.flatten.length st st')(n1:1<=n)(n2:rs.flatten.length+n<=a₀.size):∃ r rest',PD good kd a₀ st' rs (r++rest')/\r.length=n/\r≠[]:=by
 have size:(arrOf st').toList.length=a₀.size:=by rw[Array.length_toList,S.size,P.pm.size_eq]
 have e1:(arrOf st').toList.take rs.flatten.length=rs.flatten:=by
  refine List.ext_getElem? fun i=>?_;by_cases h:i < rs.flatten.length
  . rw[List.getElem?_take_of_lt h,Array.getElem?_toList,S.lw i h,← Array.getElem?_toList,P.eq,List.getElem?_append_left h]
  rw[List.getElem?_take,if_neg h,List.getElem?_eq_none (by omega)]
 have lr:(((arrOf st').toList.drop rs.flatten.length).take n).length=n:=by
  rw[List.length_take,List.length_drop,size];omega
 refine⟨((arrOf st').toList.drop rs.flatten.length).take n,((arrOf st').toList.drop rs.flatten.length).drop n,⟨S.pm.trans P.pm,S.kd.trans P.kd,S.fl.trans P.fl,?_,by rw[S.pd];exact P.pd,P.so,fun x hx=>P.gd x ((Array.perm_iff_toList_perm.mp S.pm).mem_iff.mp hx)⟩,lr,?_⟩
 . rw[List.take_append_drop]
   conv=>lhs;rw[← List.take_append_drop rs.flatten.length (arrOf st').toList]
   rw[e1]
 intro e;rw[e,List.length_nil]at lr;omega
theorem PD.push{r rest':List Keyed}{pw lo n:Nat}(P:PD good kd a₀ st rs (r++rest'))(ne:r≠[])(hlo:rs.flatten.length=lo)(hn:r.length=n):PD good kd a₀ (setPending st ((pendingOf st).push (lo,n,pw))) (rs++[r]) rest':=by
 subst hn;refine⟨P.pm,P.kd,P.fl,(by show(arrOf st).toList=_;rw[P.eq];simp),?_,fun z hz=>?_,P.gd⟩
 . show((pendingOf st).push _).toList.map _=_
   rw[Array.toList_push,List.map_append,P.pd,gS,Nat.zero_add,hlo]
   rfl
 rcases List.mem_append.mp hz with y | y
 . exact P.so z y
 rw[List.mem_singleton.mp y];exact ne
theorem PD.pow(P:PD good kd a₀ st rs rest)(i pw:Nat):PD good kd a₀ (setPending st ((pendingOf st).modify i fun x=>(x.fst,x.2.fst,pw))) rs rest:=by
 refine⟨P.pm,P.kd,P.fl,P.eq,?_,P.so,P.gd⟩;show((pendingOf st).modify i _).toList.map _=_;rw[← P.pd];refine List.ext_getElem? fun k=>?_;rw[List.getElem?_map,List.getElem?_map,Array.getElem?_toList,Array.getElem?_toList,Array.getElem?_modify];split
 . cases (pendingOf st)[k]? <;> rfl
 rfl
def RnI(good:Keyed->Prop)(kd:SortKind)(a₀:Array Keyed)(x:Nat)(c:Option Unit×Nat)(st':SortSt):Prop:=∃ lo rs rest,c=(none,lo)/\PD good kd a₀ st' rs rest/\rs.flatten.length=lo/\(x<=lo∨a₀.size<=lo)
theorem nh(hL:LtP prog w A E s good kd){r rest':List Keyed}{n x:Nat}{Q:ForInStep (Option Unit×Nat)->SortSt->Prop}(PR:PD good kd a₀ st rs (r++rest'))(lr:r.length=n)(ne:r≠[])(pr:x<=rs.flatten.length∨a₀.size<=rs.flatten.length)
 (q:∀ c st',RnI good kd a₀ (x+1) c st'->Q (.yield c) st'):wpS (model prog w) A E s (ug a₀.size rs.flatten.length n) Q st:=by
 have n1:1<=n:=by rw[← lr];exact List.length_pos_iff.mpr ne
 have fl:∀{rs4:List (List Keyed)},rs4.flatten.length=rs.flatten.length->(rs4++[r]).flatten.length=rs.flatten.length+n:=fun h=>by
  rw[List.flatten_append,List.length_append,h];simp[lr]
 refine wpS_bind (wpS_get ?_);cases eb:(pendingOf st).back? with
 | none=>exact wpS_bind (wpS_modify (wpS_pure (q _ _ ⟨_,_,_,rfl,PR.push ne rfl lr,fl rfl,by omega⟩)))
 | some bk=>
   obtain⟨s1,n2,pw1⟩:=bk;refine wpS_bind (wpS_mono (wpS_forRange (I:=fun x c st4=>c=(none,()) /\ ∃ rs4,PD good kd a₀ st4 rs4 (r++rest')) (Q:=fun c st4=>c=(none,()) /\ ∃ rs4,PD good kd a₀ st4 rs4 (r++rest')) ?_ (fun _ _ h=>h) ⟨rfl,rs,PR⟩) ?_)
   . rintro x4 c st4 _ _ ⟨rfl,rs4,P4⟩
     refine wpS_bind (wpS_get ?_);by_cases g:(pendingOf st4).size > 1
     . rw[if_pos g,Array.getElem?_eq_getElem (show(pendingOf st4).size - 2 < (pendingOf st4).size by omega)]
       refine ar (fun _=>?_) (fun _=>?_)
       . exact wpS_pure ⟨rfl,rs4,P4⟩
       refine wpS_bind (lH hL P4 (by have:=P4.psize;omega) fun rs5 st5 P5 _=>?_)
       exact wpS_pure ⟨rfl,rs5,P5⟩
     rw[if_neg g];exact wpS_pure ⟨rfl,rs4,P4⟩
   rintro c st4 ⟨rfl,rs4,P4⟩;have h4:=P4.asize;have h5:=PR.asize;have e:rs4.flatten.length=rs.flatten.length:=by omega
   exact wpS_bind (wpS_modify (wpS_bind (wpS_modify (wpS_pure (q _ _ ⟨_,_,_,rfl,(P4.pow _ _).push ne e lr,fl e,by omega⟩)))))
theorem tH(hL:LtP prog w A E s good kd){Q:Unit->SortSt->Prop}(hk:kindOf st=kd)(hf:failedOf st=none)(hp:pendingOf st=#[])(gd:∀ x∈(arrOf st).toList,good x)(q:∀ st',(arrOf st').Perm (arrOf st)->failedOf st'=none->Q () st'):wpS (model prog w) A E s sortRuns' Q st:=by
 have P0:PD good kd (arrOf st) st [] (arrOf st).toList:=⟨Array.Perm.refl _,hk,hf,rfl,by rw[hp];rfl,(fun r hr=>nomatch hr),gd⟩
 rw[uA];refine wpS_bind (wpS_get (wpS_bind (wpS_mono (wpS_forRange (I:=RnI good kd (arrOf st)) (Q:=fun c st'=>∃ lo rs,c=(none,lo)/\PD good kd (arrOf st) st' rs []) ?_ ?_ ⟨0,[],_,rfl,P0,rfl,.inl (Nat.le_refl _)⟩) ?_)))
 . rintro x c st1 _ hx ⟨lo,rs,rest,rfl,P,rfl,pr⟩
   have sz:=P.asize;refine ar (fun g=>?_) (fun g=>?_)
   . have g:rs.flatten.length ≥ (arrOf st).size:=g
     obtain rfl:rest=[]:=List.length_eq_zero_iff.mp (by omega)
     exact wpS_pure ⟨_,rs,rfl,P⟩
   have g:¬ rs.flatten.length ≥ (arrOf st).size:=g;have es:(arrOf st1).size=(arrOf st).size:=P.pm.size_eq;refine wpS_bind (rM ⟨hL,P.kd,P.gd,by show rs.flatten.length+_<=_;omega⟩ (by show 1<=_ - rs.flatten.length;omega) fun m st2 S2 m1 m2=>?_)
   have m2:m<=(arrOf st).size - rs.flatten.length:=m2;refine ar (fun g2=>?_) (fun g2=>?_)
   . refine wpS_bind (wpS_lift (wpAny_rule ⟨rfl,?_⟩))
     have f1:m<=min ((arrOf st).size - rs.flatten.length) (minRun' (arrOf st).size (arrOf st).size 0):=by omega
     have f2:rs.flatten.length+min ((arrOf st).size - rs.flatten.length) (minRun' (arrOf st).size (arrOf st).size 0)<=(arrOf st).size:=by omega
     refine wpS_bind (sU ⟨hL,P.kd,P.gd,by rw[es];exact f2⟩ S2 fun st3 S3=>?_)
     obtain⟨r,rest',PR,lr,ne⟩:=P.run S3 (Nat.le_trans m1 f1) f2;exact nh hL PR lr ne pr fun c st' h=>h
   obtain⟨r,rest',PR,lr,ne⟩:=P.run S2 m1 (by omega)
   exact nh hL PR lr ne pr fun c st' h=>h
 . rintro c st' ⟨lo,rs,rest,rfl,P,rfl,pr⟩
   have sz:=P.asize;obtain rfl:rest=[]:=List.length_eq_zero_iff.mp (by omega)
   exact⟨_,rs,rfl,P⟩
 rintro c st1 ⟨lo,rs,rfl,P⟩;refine wpS_bind (wpS_mono (wpS_forRange (I:=fun x c st'=>c=(none,()) /\ ∃ rs,PD good kd (arrOf st) st' rs []) (Q:=fun c st'=>c=(none,()) /\ ∃ rs,PD good kd (arrOf st) st' rs []) ?_ (fun _ _ h=>h) ⟨rfl,rs,P⟩) ?_)
 . rintro x c st2 _ hx ⟨rfl,rs2,P2⟩
   have ps:=P2.psize;refine wpS_bind (wpS_get ?_);refine ar (fun g=>?_) (fun g=>?_)
   . exact wpS_pure ⟨rfl,rs2,P2⟩
   refine wpS_bind (lH hL P2 ?_ fun rs3 st3 P3 l3=>?_)
   . have le_:∀(c:Prop) [Decidable c] (n:Nat),(if c then n - 1 else n)<=n:=fun c _ n=>by split <;> omega
     exact Nat.lt_of_le_of_lt (Nat.succ_le_succ (le_ _ _)) (by omega)
   exact wpS_pure ⟨rfl,rs3,P3⟩
 rintro c st2 ⟨rfl,rs2,P2⟩;exact wpS_pure (q st2 P2.pm P2.fl)
end
theorem zF{vs:List Value}{xs:Array Keyed}(hp:xs.Perm (pairsOf vs)):(xs.map (·.2)).toList.Perm vs:=by
 have hl:xs.toList.Perm (vs.zip vs):=by rw[← pairsOf_toList];exact Array.perm_iff_toList_perm.mp hp
 have:=hl.map Prod.snd;rw[List.map_snd_zip (Nat.le_refl _)]at this;rw[Array.toList_map];exact this
abbrev gT(h:Heap)(a:Addr)(vs:List Value):Heap:=((h.update a (Obj.mapSeq fun _=>#[])).push (seqObj "tuple" vs.toArray 0)).push (seqObj "list" #[] 0)
theorem oK{a:Addr}{vs:List Value}{n:Nat}{P:PySem.Fin->Shared->Prop}(ho:s.heap.get? a=some (seqObj "list" vs.toArray n))(hz:vs.length<=sizeLine)
 (hK:2<=vs.length->keyKind' vs.toArray=pure kd) (hL:LtP prog w A E { s with heap:=gT s.heap a vs } good kd) (gd:∀ v∈vs,good (v,v))
 (h:∀ out:Array Value,out.toList.Perm vs->P (.done (.ret .none)) { s with heap:=sortedHeap s.heap a vs out }) :
 wpAny (model prog w) A (Builtin.«list.sort» ⟨[.ref a],[]⟩) P E s:=by
 rw[list_sort_plain];have ha:a < s.heap.objs.size:=Heap.lt_size ho;refine wpAny_bind (listItems_at ho rfl ?_);refine wpAny_bind (listUpdate_at ho rfl ?_ (by rw[List.size_toArray];exact hz))
 obtain⟨e1,h1⟩:∃ e1,(s.heap.update a (Obj.mapSeq fun _=>#[])).get? a=some (seqObj "list" #[] e1):=⟨_,get?_update_seq ho (fun _=>#[])⟩;refine wpAny_bind (seqEpoch_at h1 rfl ?_);refine wpAny_bind (wpAny_newTuple ?_ (by exact hz))
 refine wpAny_bind (wpAny_newList ?_);refine wpAny_holding ?_;have h6:(gT s.heap a vs).get? a=some (seqObj "list" #[] e1):=by
  rw[Heap.get?_push_ne _ _ _ (by rw[size_push',Heap.size_update];exact Nat.ne_of_lt (Nat.lt_succ_of_lt ha)),Heap.get?_push_ne _ _ _ (by rw[Heap.size_update];exact Nat.ne_of_lt ha)]
  exact h1
 show wpAny (model prog w) A _ P E { s with heap:=gT s.heap a vs }
 dsimp only
 have sz:vs.toArray.size=vs.length:=by simp
 have tl:∀(k:SortKind) (xs:Array Keyed),xs.Perm (pairsOf vs) -> ∀ st',arrOf st'=xs->failedOf st'=none->wpAny (model prog w) A (do
  let touched:=(← seqEpoch a) != e1
  Builtin.List.listUpdate (.ref a) fun _=>(arrOf st').map (·.2)
  if let some e:=failedOf st' then rule "list.sort.comparison-raised";throw e
  if touched then rule "list.sort.modified";raiseError "ValueError" "list modified during sort"
  ret .none) P E { s with heap:=gT s.heap a vs }:=fun k xs hp st' e hf=>by
  subst e;refine wpAny_bind (seqEpoch_at h6 rfl ?_);refine wpAny_bind (listUpdate_at h6 rfl ?_ (hsz2:=by refine Nat.le_trans (Nat.le_of_eq ((Array.size_map ..).trans (hp.size_eq.trans (pairsOf_size _)))) ?_;omega))
  rw[hf];simp only[bne_self_eq_false,Bool.false_eq_true,if_false];exact wpAny_pure (h _ (zF hp))
 by_cases g:vs.toArray.size < 2
 . rw[if_pos g,if_pos g]
   refine wpAny_bind (wpAny_pure ?_);rw[StateT.run_pure];refine wpAny_bind (wpAny_pure ?_);exact tl general' _ (Array.Perm.refl _) (SortSt.mk' general' (vs.toArray.zip vs.toArray) #[] 7 none) rfl rfl
 rw[if_neg g,if_neg g,hK (by omega)]
 refine wpAny_bind (wpAny_pure ?_);refine wpAny_bind (wpAny_mono (tH hL (st:=SortSt.mk' kd (vs.toArray.zip vs.toArray) #[] 7 none)
  (Q:=fun _ st'=>(arrOf st').Perm (pairsOf vs)/\failedOf st'=none) rfl rfl rfl (fun x hx=>?_) fun st' a1 a2=>⟨a1,a2⟩) ?_ fun _ _ e=>e)
 . have hx:x∈(pairsOf vs).toList:=hx
   rw[pairsOf_toList]at hx;obtain⟨e,m⟩:=mem_zip_self hx;obtain⟨x1,x2⟩:=x;cases e;exact gd _ m
 rintro⟨⟨⟩,st'⟩ s' ⟨rfl,hp,hf⟩;exact tl kd _ hp st' rfl hf
def Co(x:Keyed):Prop:=∃ n t,x.1=.int n t
theorem uT:LtP prog w A E s Co oneType':=by
 rintro⟨_,x2⟩ ⟨_,y2⟩ st Q ⟨n,t,rfl⟩ ⟨m,u,rfl⟩ hk q;rw[lt'_eq];refine wpS_bind (wpS_get ?_);rw[hk,keyLt'_oneType];exact wpS_bind (wpS_lift (wpAny_attempt (oneLt_int ⟨rfl,wpS_pure (q _)⟩)))
theorem qT{acc:List Value}{ns:List Int}(hI:IntsAre acc ns)(h2:2<=acc.length):keyKind' acc.toArray=pure oneType':=by
 match acc,hI,h2 with
 | v₁ :: v₂ :: rest,hI,_=>exact keyKind_ints hI
end
theorem fM{X:Cx}:bR X (.builtin "sorted") (fun xs H Q=>∃(a:Addr) (r:av),xs=[.ref a]/\H a=some (.dK (kvs r))/\X.calm=true /\ ∀(p:Addr) (ns:List Int),H p=none->ns.Perm (r.map (·.1))->Q (.ref p) (upd H p (.lst (ns.map V.int)))):=by
 intro pins s U H xs us Q I rr h;obtain⟨a,r,rfl,ha,hc,q⟩:=h;obtain⟨u,rfl,rx⟩:=cZ rr;cases rx;obtain⟨z,hsys,vs,rel,dd⟩:=fk I.hok (.inl ha);obtain⟨ep,hat⟩:=dd.dictAt;have lenKV:(kvs r).length=vs.length:=Paired.length rel;rw[dB]at lenKV z;refine Calls.call_function_entry kind_sorted plain_sorted entry_sorted (args_sorted1 _) ?_;unfold Builtin.«sorted»;refine wpAny_bind (m:=checkCount "sorted" 1 1 _) (wpAny_pure ?_);refine wpAny_bind (mR (W.kdl_dict (knd:=ba X.prog X.w) (kvs:=vs) (ep:=ep) hsys) (I.ok.hd hc) hat (by omega) fun h' tk acc hk hsz hacc=>?_)
 have hI:IntsAre acc.toList (r.map (·.1)):=by
  refine qh _ _ (by rw[Array.length_toList,hacc.1,List.length_map];omega) fun i v e=>?_
  obtain⟨k,x,e1,e2⟩:=hacc.2 i v (by rw[← Array.getElem?_toList];exact e)
  obtain⟨y,e3,_⟩:=pz rel e1;have hi:i < (kvs r).length:=(List.getElem?_eq_some_iff.mp e3).1;rw[dB]at hi;have e4:(kvs r)[i]?=some (Sum.inl r[i].1,V.int r[i].2):=by
   unfold kvs;rw[List.getElem?_map,List.getElem?_eq_getElem hi]
   rfl
  rw[e4]at e3;cases e3;rcases bi (show gI (Sum.inl r[i].1) v=true from e2)with ⟨j,t,e5,rfl⟩ | ⟨x,t,e5,rfl⟩
  . cases e5
    exact⟨_,t,by rw[List.getElem?_map,List.getElem?_eq_getElem hi];rfl,rfl⟩
  cases e5
 have hl:acc.toList.length<=sizeLine:=by rw[Array.length_toList,hacc.1];omega
 refine wpAny_bind (wpAny_newList ?_ hl);have hoL:(h'.push (seqObj "list" acc.toList.toArray 0)).get? h'.objs.size=some (seqObj "list" acc.toList.toArray 0):=Heap.get?_push_size _ rfl;refine wpAny_bind (wpAny_holding (wpAny_call_entry slot_list_sort ⟨_,hoL,rfl⟩ entry_list_sort (oK hoL hl (qT hI) uT (fun v hv=>hI.all v hv) fun out a1=>⟨_,rfl,?_⟩) (args_list_sort _)));obtain⟨e,he⟩:=sortedHeap_at (out:=out) hoL;have pm:(out.toList.map numOf).Perm (r.map (·.1)):=by
  have:=a1.map numOf;rw[hI.nums]at this;exact this
 have rv:=hW (intsAre_map out.toList fun v hv=>hI.all v (a1.mem_iff.mp hv));have hlen:((out.toList.map numOf).map V.int).length<=sizeLine:=by
  rw[List.length_map,pm.length_eq,List.length_map];exact z
 refine wpAny_pure ⟨_,rfl,.ref h'.objs.size,_,I.laid (t':=tk) (o:=.lst ((out.toList.map numOf).map V.int)) (fun b o hb=>?_) (Nat.le_of_lt hsz) ⟨hlen,out.toList,e,rv,by rw[Array.toArray_toList];exact he⟩,rfl,q _ _ (I.hok.fresh (Nat.le_of_lt hsz)) pm⟩
 have hb':=hk b o hb;have hlt:=Heap.lt_size hb';rw[sortedHeap_old (Nat.ne_of_lt hlt) (by rw[size_push'];exact Nat.lt_succ_of_lt hlt)]
 exact Heap.get?_push_of_some _ hb'
end SW
set_option maxHeartbeats 2000000
namespace SW
open PySem PySem.Spec PyProof.Rows L2
theorem fL.live{H:Hp}{b:Addr}(h:fL H b):H b≠none:=fun z=>by
 rcases h with ⟨x,y,u,e⟩ | ⟨x,e⟩ | ⟨x,e⟩ <;> rw[z]at e <;> cases e
section
variable{C CT PS tb pd p c:Addr}{pos:Pos}{qual:Str}{f m:Int}{pc n:Nat}{M:MT}{F:Addr->Prop}{r:av}{W:Addr->Prop}{H H':Hp}{o:HO}
end
section
variable{f m:Int}{M:MT}{cur:Int}
def cH(M:MT)(cur:Int):Int:=pt (aD (aq M).length cur) 16+65536 / ((aq M).length:Nat) - 1
structure Stp(M:MT)(cur:Int):Prop where
 le1:pt (aD (aq M).length cur) 16<=cur
 le2:cur<=cH M cur
 le3:cH M cur<=65535
 eq:bhd M cur=(cH M cur+1) % 65536
 m16:(cH M cur+1) % 16=0
 wd:cH M cur+1=pt (aD (aq M).length cur) 16+65536 / ((aq M).length:Nat)
theorem ay.wide{s:Nat}(h:ay s):∃ k:Int,(65536:Int) / (s:Int)=16*k/\0 < k:=by
 unfold ay at h;simp only[List.mem_cons,List.not_mem_nil,or_false]at h;rcases h with h | h | h | h | h | h | h | h | h | h | h <;> subst h
 . exact⟨1024,by decide,by decide⟩
 . exact⟨512,by decide,by decide⟩
 . exact⟨256,by decide,by decide⟩
 . exact⟨128,by decide,by decide⟩
 . exact⟨64,by decide,by decide⟩
 . exact⟨32,by decide,by decide⟩
 . exact⟨16,by decide,by decide⟩
 . exact⟨8,by decide,by decide⟩
 . exact⟨4,by decide,by decide⟩
 . exact⟨2,by decide,by decide⟩
 exact⟨1,by decide,by decide⟩
theorem Stp.of(T:TOk f m M)(c0:0<=cur)(c1:cur < 65536):Stp M cur:=by
 have hz:=dY T;have BB:=oy.of hz c0 c1;obtain⟨k,hk,k0⟩:=hz.wide;have f0:=BB.f0;have p4:=BB.p4;have hm:=Int.emod_nonneg cur (show(65536:Int) / ((aq M).length:Nat)≠0 by omega)
 have hl:=Int.emod_lt_of_pos cur (show(0:Int) < 65536 / ((aq M).length:Nat) by omega)
 have hd:=Int.emod_add_mul_ediv cur (65536 / ((aq M).length:Nat));have e16:(cur - cur % (65536 / ((aq M).length:Nat))) % 16=0:=by
  rw[show cur - cur % (65536 / ((aq M).length:Nat))=16*(k*(cur / (65536 / ((aq M).length:Nat)))) by rw[← Int.mul_assoc,← hk];omega]
  exact Int.mul_emod_right _ _
 refine⟨by rw[p4];omega,by unfold cH;rw[p4];omega,by unfold cH;rw[p4];omega,rfl,?_,by unfold cH;omega⟩
 unfold cH;rw[p4,hk];rw[hk]at e16;omega
theorem Stp.told(T:TOk f m M)(R:Rat M)(c0:0<=cur)(c1:cur < 65536){k v:Int}(h:(k,v)∈eK M)(h0:cur<=pt (mrk f m k) 16):(k,v)∈bt M cur∨cH M cur < pt (mrk f m k) 16:=by
 by_cases z:pt (mrk f m k) 16<=cH M cur
 . exact .inl (t6 T R c0 c1 h h0 z)
 exact .inr (by omega)
theorem tN(k:Int):0<=pt k 16/\pt k 16<=65535:=by
 have:=cO k 16;have e:(2:Int) ^ 16=65536:=rfl;omega
end
theorem k5{f m:Int}{N:aj}{k v:Int}(h:au f m N k=some v):(k,v)∈N.flatten:=by
 rw[bV]at h;obtain⟨r,hr,hk⟩:=ki (lj h);exact dm.mpr ⟨_,r,hr,hk⟩
theorem rH{f m:Int}{M:MT}{k v:Int}(h:aA f m M k=some v):(k,v)∈eK M:=by
 unfold aA at h;unfold eK;cases e:onE f m M k with
 | some w=>
   rw[e]at h;obtain rfl:w=v:=Option.some.inj h;unfold onE at e;cases e2:M.el with
   | none=>rw[e2]at e;cases e
   | some E=>
     rw[e2]at e;exact List.mem_append_left _ (k5 e)
 | none=>
   rw[e]at h;exact List.mem_append_right _ (k5 h)
section
variable{X:Cx}
theorem fP:MtR X "str.startswith" (fun x vs H Q=>∃ a b,x=.str a/\vs=[.str b]/\Q (.bl (Txt.startswith a b)) H):=by
 intro pins s U H x vs v us Q I rx rv h;obtain⟨a,b,rfl,rfl,q⟩:=h;obtain⟨t,rfl⟩:=rx;obtain⟨u,rfl,ru⟩:=rv.one;obtain⟨t2,rfl⟩:=ru;exact SC.startswith ⟨.bl _,H,I,rfl,q⟩
theorem cC:bR X (.type "int") (fun xs H Q=>∃ x n,xs=[.str x]/\x.length<=640/\PySem.intText? x=some n/\Q (.int n) H):=by
 intro pins s U H xs us Q I r h;obtain⟨x,n,rfl,hl,hn,q⟩:=h;obtain⟨u,rfl,rx⟩:=cZ r;obtain⟨t,rfl⟩:=rx;exact W.KIN.call_text hn hl ⟨.int n,H,I.tok _,⟨_,rfl⟩,q⟩
theorem kB:∀(l:List (PySem.Str×Tok)),aH ((l.map (·.1)).map V.str) (strValues l)
 | []=>.nil
 | (x,t)::l=>.cons ⟨t,rfl⟩ (kB l)
theorem kY:∀{xs:List PySem.Str}{us:List Value},aH (xs.map V.str) us -> ∃ l:List (PySem.Str×Tok),us=strValues l/\l.map (·.1)=xs
 | [],_,.nil=>⟨[],rfl,rfl⟩
 | x::xs,_,.cons h t=>by
   obtain⟨l,rfl,e⟩:=kY t;obtain⟨u,rfl⟩:=h;exact⟨(x,u)::l,rfl,by rw[List.map_cons,e]⟩
theorem qx(hK:True:=trivial):MtR X "str.join" (fun x vs H Q=>∃ a l xs,x=.str a/\vs=[.ref l]/\SqL X.K H l (List.map V.str xs)/\JoinOk a xs=true/\Q (.str (Txt.join a xs)) H):=by
 intro pins s U H x vs v us Q I rx rv h;obtain⟨a,l,xs,rfl,rfl,hl,hok,q⟩:=h;obtain⟨t,rfl⟩:=rx;obtain⟨u,rfl,ru⟩:=rv.one;cases ru;obtain⟨its,rr,pl,hz⟩:=I.list hl;obtain⟨ts,rfl,e⟩:=kY rr;exact SC.join pl.isList e hok fun t' k=>⟨.str _,H,I.kept (t':=k) fun b o e=>e,⟨_,rfl⟩,q⟩
open PySem.Builtin PySem.Builtin.Str in
theorem sR{prog:Program}{w:World}{A:Around}{E:Value->Shared->Prop}{s:Shared}{x y:PySem.Str}{t u:Tok}{Q:Value->Shared->Prop}(hy:(y.length == 0)=false)
 (hq:∀ l tk,l.map (·.1)=Txt.split x y->Q (.ref s.heap.objs.size) { s with toks:=tk,heap:=s.heap.push { cls:=.type "list",data:=.seq (strValues l).toArray } })
 (hsz:x.length<=sizeLine) (hsz2:(partsBetween x (occurrences x y 0 x.length (x.length+1)) y.length).length<=sizeLine) :
 wpAny (model prog w) A (call (.builtin "str.split") [.str x t,.str y u]) Q E s:=by
 cases h1:(decide (x.length < y.length) || decide (strKind x < strKind y))
 . cases hf:(occurrences x y 0 x.length (x.length+1)).isEmpty
   . refine call_meets F.slot_str_split (typeIs_str _ _ _) F.entry_str_split (F.args_str_split_2 _ _) (meets_str_split_sep x y t u h1 hy hf hsz hsz2) ?_
     show wants Q E _ { s with toks:=_,heap:=s.heap.push { cls:=.type "list",data:=.seq (strsFrom s.toks (partsBetween x (occurrences x y 0 x.length (x.length+1)) y.length)).toArray } };rw[strsFrom_eq];exact hq (numbered s.toks _) _ ((numbered_texts _ _).trans ((if_neg (ne_true_of_eq_false h1)).trans (if_neg (ne_true_of_eq_false hf))).symm)
   exact call_meets F.slot_str_split (typeIs_str _ _ _) F.entry_str_split (F.args_str_split_2 _ _) (meets_str_split_not_found x y t u h1 hy hf)
    (hq [(x,t)] s.toks ((if_neg (ne_true_of_eq_false h1)).trans (if_pos hf)).symm)
 exact call_meets F.slot_str_split (typeIs_str _ _ _) F.entry_str_split (F.args_str_split_2 _ _) (meets_str_split_cannot_occur x y t u h1)
  (hq [(x,t)] s.toks (if_pos h1).symm)
open PySem.Builtin PySem.Builtin.Str in
theorem gv:MtR X "str.split" (fun x vs H Q=>∃ a b,x=.str a/\vs=[.str b]/\(b.length == 0)=false/\a.length<=sizeLine/\(partsBetween a (occurrences a b 0 a.length (a.length+1)) b.length).length<=sizeLine/\(Txt.split a b).length<=sizeLine /\
 ∀ l,H l=none->Q (.ref l) (upd H l (.lst ((Txt.split a b).map V.str)))):=by
 intro pins s U H x vs v us Q I rx rv h;obtain⟨a,b,rfl,rfl,hb,h1,h2,h3,q⟩:=h;obtain⟨t,rfl⟩:=rx;obtain⟨u,rfl,ru⟩:=rv.one;obtain⟨t2,rfl⟩:=ru;refine sR hb (fun l tk e=>?_) h1 h2;refine⟨.ref s.heap.objs.size,_,I.laid (t':=tk) (fun b o e=>Heap.get?_push_of_some _ e) (Nat.le_refl _) (show bq X.prog X.w _ _ _ (.lst ((Txt.split a b).map V.str))from⟨by rw[List.length_map];exact h3,strValues l,_,by rw[← e];exact kB l,Heap.get?_push_size _ rfl⟩),rfl,q _ (I.hok.fresh (Nat.le_refl _))⟩
end
def sgn(x:PySem.Str)(i:Nat):PySem.Str:=⟨#[x.cps.getD i 0]⟩
def Itx(x:PySem.Str):It:=⟨fun i _=>i < x.cps.size,fun i H y H'=>H'=H/\y=.str (sgn x i),fun i _=>x.cps.size<=i⟩
theorem vc{P:Program}{w:World}{K:PySem.W.Frag}{tg:Expr}(x:PySem.Str)(t:Tok)(it:Addr):oJ P w K tg (Itx x) [it] it (fun i h=>i<=x.cps.size/\h.IsStrIter it "str_ascii_iterator" x t i) where
 mem:=by simp
 obj:=fun i h st b hb=>by
  have e:b=it:=by simpa using hb
  subst e;obtain⟨_,o,e,c,d⟩:=st;exact⟨o,e,fun v z=>by rw[d]at z;cases z⟩
 keep:=fun i h h' st k=>by
  obtain⟨hi,o,e,r⟩:=st;exact⟨hi,o,k it (by simp) o e,r⟩
 item:=by
  intro X hP hw hK hc i pins s U H E I hf st hg;subst hP hw hK;have hg:i < x.cps.size:=hg;obtain⟨f0,f1,f2,f3,f4,f5⟩:=hf it (by simp)
  have W:=Walks.strAscii (prog:=X.prog) (w:=X.w) (I.ok.hd hc) it x t;refine W.item i s _ _ hg st.2 fun v h' tk hv st' kk=>?_;obtain⟨c,u,ec,rfl⟩:=hv;have I1:Inv X pins U H { s with heap:=h',toks:=tk }:=I.turned (fun b o hb e=>kk b o (by simpa using hb) e) f0 f1 f3 f4 f5
  obtain⟨o,e,cc,d⟩:=id st';refine⟨_,rfl,qa (s:={ s with heap:=h',toks:=tk }) e cc d (by decide) ⟨.str (sgn x i),H,I1,⟨u,?_⟩,⟨rfl,rfl⟩,⟨hg,st'⟩,fun b hb=>(hf b hb).1⟩⟩
  unfold sgn;rw[show x.cps.getD i 0=c by rw[Array.getD_eq_getD_getElem?,ec];rfl]
 done:=by
  intro X hP hw hK hc i pins s U H E I hf st hg;subst hP hw hK;have hg:x.cps.size<=i:=hg;obtain⟨f0,f1,f2,f3,f4,f5⟩:=hf it (by simp)
  have ei:i=x.cps.size:=Nat.le_antisymm st.1 hg;have W:=Walks.strAscii (prog:=X.prog) (w:=X.w) (I.ok.hd hc) it x t;exact W.done s _ _ (ei ▸ st.2) fun h' tk kk=>⟨rfl,I.turned (fun b o hb e=>kk b o (by simpa using hb) e) f0 f1 f3 f4 f5⟩
 self:=fun _ _ _ _ _ st h=>wpAny_pyIter_striter_ascii st.2 h
section
variable{X:Cx}{tg:Expr}
def zn(tl:TE):TI:=fun U H R=>tl U H fun x H1=>∃ z,x=.str z/\z.cps.all (· < 128)=true/\R (Itx z) H1
theorem y4{l:Expr}{tl:TE}(hl:PE X l tl):PI X tg l (zn tl):=by
 intro pins s U H R I h;refine thn (hl pins s U H _ I h) fun v s1 zz=>?_;obtain⟨x,H1,I1,r1,q1⟩:=zz;obtain⟨z,rfl,ha,q⟩:=q1;obtain⟨t,rfl⟩:=r1;refine wpAny_pyIter_ascii ha ?_;refine⟨s1.heap.objs.size,[s1.heap.objs.size],_,_,H1,rfl,I1.kept (t':=s1.toks) fun b o e=>Heap.get?_push_of_some _ e,vc z t _,⟨Nat.zero_le _,_,Heap.get?_push_size _ rfl,rfl,rfl⟩,fun b hb=>?_,q⟩;have e:b=s1.heap.objs.size:=by simpa using hb
 subst e;exact I1.fpOk (Nat.le_refl _) (I1.hok.fresh (Nat.le_refl _))
theorem B.istr{l:Expr}{tl:TE}(hl:Bx (PE X l tl)):Bx (PI X tg l (zn tl)):=⟨y4 hl.out⟩
end
open PySem.Builtin PySem.Builtin.Str in
def rV(x:PySem.Str)(lo hi:Option Int):PySem.Str:=if((strSliceIndices lo hi 1 x.length).length == x.length)=true then x else⟨((strSliceIndices lo hi 1 x.length).filterMap (x.cps[·]?)).toArray⟩
def Cw:V->Option Int->Option Int->Hp->VK->Prop:=fun x lo hi H Q=>∃ z,x=.str z/\(rV z lo hi).length<=sizeLine/\Q (.str (rV z lo hi)) H
theorem qf{v:Value}{lo:Option Int}(h:IsPart v lo):∃ l:Option (Int×Tok),v=partValue l/\l.map (·.1)=lo:=by
 cases h with
 | none=>exact⟨none,rfl,rfl⟩
 | int i t=>exact⟨some (i,t),rfl,rfl⟩
section
variable{X:Cx}
theorem x8:SlR X Cw:=by
 intro pins s U H x v vl vu lo hi sl Q I rx hs pl pu h;obtain⟨z,rfl,hl,q⟩:=h;obtain⟨t,rfl⟩:=rx;obtain⟨l,rfl,el⟩:=qf pl;obtain⟨u,rfl,eu⟩:=qf pu;refine⟨"str",_,F.slot_str_getitem.lookup,typeIs_str s z t,?_⟩;refine wpAny_getItem_str_slice (l:=l) (u:=u) (st:=none) hs rfl ?_;have ep:slicePicked z l u none=Builtin.Str.strSliceIndices lo hi 1 z.length:=by
  unfold slicePicked;rw[el,eu]
  rfl
 unfold sliceMade;rw[ep];unfold rV at hl q;by_cases w:((Builtin.Str.strSliceIndices lo hi 1 z.length).length == z.length)=true
 . rw[if_pos w]at q
   rw[if_pos (by show(true && _)=true;rw[w];rfl)]
   exact⟨.str z,H,I,⟨t,rfl⟩,q⟩
 rw[if_neg w]at q hl;rw[if_neg (by intro e;exact w (by have:(true && ((Builtin.Str.strSliceIndices lo hi 1 z.length).length == z.length))=true:=e;rwa [Bool.true_and]at this))]
 exact⟨hl,⟨.str _,H,I.tok _,⟨_,rfl⟩,q⟩⟩
def tFS(ta:TE)(c:PySem.Str)(tb:TE):TE:=fun U H Q=>ta U H fun x H1=>∃ i:Int,x=.int i/\i.natAbs.log2 < 1920/\(PySem.Str.empty++(toString i:String):PySem.Str).length<=sizeLine/\(PySem.Str.empty++(toString i:String)++c:PySem.Str).length<=sizeLine/\tb U H1 fun y H2=>∃ j:Int,y=.int j/\j.natAbs.log2 < 1920 /\
 (PySem.Str.empty++(toString i:String)++c++(toString j:String):PySem.Str).length<=sizeLine/\Q (.str (PySem.Str.empty++(toString i:String)++c++(toString j:String))) H2
theorem xZ{a b:Expr}{ta tb:TE}{c:PySem.Str}{k}{p1 p2 p3 pos:Pos}(ha:PE X a ta)(hb:PE X b tb):PE X (.JoinedStr [.FormattedValue a (-1) none p1,.Constant (.str c) k p2,.FormattedValue b (-1) none p3] pos) (tFS ta c tb):=by
 intro pins s U H Q I h;refine wpAny_JoinedStr ?_;show wpAny (model X.prog X.w) X.A (eval (.FormattedValue a (-1) none p1) X.env) _ _ s;refine wpAny_FormattedValue_plain (thn (ha pins s U H _ I h) fun v s1 zz=>?_);obtain⟨x,H1,I1,r1,q1⟩:=zz;obtain⟨i,rfl,hi,l1,l2,q2⟩:=q1;obtain⟨t,rfl⟩:=r1;refine wpAny_formatField_int hi ⟨_,_,rfl,l1,?_⟩;show wpAny (model X.prog X.w) X.A (eval (.Constant (.str c) k p2) X.env) _ _ _;refine Calls.Constant_str ⟨_,_,rfl,l2,?_⟩;show wpAny (model X.prog X.w) X.A (eval (.FormattedValue b (-1) none p3) X.env) _ _ _;refine wpAny_FormattedValue_plain (thn (hb pins _ U H1 _ (I1.kept (t':=s1.toks+1+1+1) fun b o e=>e) q2) fun v s2 zz=>?_);obtain⟨y,H2,I2,r2,q3⟩:=zz;obtain⟨j,rfl,hj,l3,q⟩:=q3;obtain⟨t2,rfl⟩:=r2;refine wpAny_formatField_int hj ⟨_,_,rfl,l3,?_⟩;exact⟨l3,⟨.str _,H2,I2.kept (t':=s2.toks+1+1+1) fun b o e=>e,⟨_,rfl⟩,q⟩⟩
theorem B.fs2{a b:Expr}{ta tb:TE}{c:PySem.Str}{k}{p1 p2 p3 pos:Pos}(ha:Bx (PE X a ta))(hb:Bx (PE X b tb)):Bx (PE X (.JoinedStr [.FormattedValue a (-1) none p1,.Constant (.str c) k p2,.FormattedValue b (-1) none p3] pos) (tFS ta c tb)):=⟨xZ ha.out hb.out⟩
end
theorem B.gstr{X:Cx}{x y:PySem.Str}{pos:Pos}(h:∃ t,X.mg x=some (.str y t))(hg:Gl X x:=by rfl)(hd:(x == ("__debug__":PySem.Str))=false:=by decide):Bx (PE X (.Name x pos) (tC (.str y))):=⟨by
 obtain⟨t,e⟩:=h;exact lK hg e ⟨t,rfl⟩ hd⟩
section
variable{D:Addr}{x0:PySem.Str}{U0:L2.St}{H1:Hp}{te:TE}
theorem qP{Qf:Hp->Prop}(Pv:Nat->L2.St->Hp->Prop)(h0:Pv 0 U0 H1)
 (step:∀ i U' H',i < x0.cps.size->Pv i U' H'->te (U'.set 0 (some (.str (sgn x0 i)))) H' (fun y H4=>CN Pv x0.cps.size i D (U'.set 0 (some (.str (sgn x0 i)))) y H4))
 (fin:∀ U H,Pv x0.cps.size U H->Qf H) :
 ∃ W:Nat->Nat->L2.St->Hp->Prop,(∃ m,W 0 m U0 H1) /\ ∀ i m U' H',W i m U' H'->((Itx x0).stop i H'/\Qf H')∨((Itx x0).go i H' /\ ∀ x H2,(Itx x0).yld i H' x H2 ->
   if true=true then te (U'.set 0 (some x)) H2 fun y H4=>∃ ys,H4 D=some (.lst ys)/\ys.length < sizeLine /\ ∃ m',m' < m/\W (i+1) m' (U'.set 0 (some x)) (upd H4 D (.lst (ys++[y])))
   else ∃ m',m' < m/\W (i+1) m' (U'.set 0 (some x)) H2):=by
 refine⟨fun i m U H=>m=x0.cps.size - i/\i<=x0.cps.size/\Pv i U H,⟨x0.cps.size,by omega,Nat.zero_le _,h0⟩,?_⟩
 rintro i m U' H' ⟨rfl,hi,p⟩;by_cases hlt:i < x0.cps.size
 . refine .inr ⟨hlt,fun x H2 y=>?_⟩
   obtain⟨rfl,rfl⟩:=y;exact bL (step i U' _ hlt p)
 have e:i=x0.cps.size:=by omega
 subst e;exact .inl ⟨Nat.le_refl _,fin _ _ p⟩
end
theorem Cg{tl:TE}{U:L2.St}{H:Hp}{R:It->Hp->Prop}(h:tl U H fun x H1=>∃ z,x=.str z/\z.cps.all (· < 128)=true/\R (Itx z) H1):zn tl U H R:=h
theorem wFS{ta tb:TE}{c:PySem.Str}{U:L2.St}{H:Hp}{Q:VK}(h:ta U H fun x H1=>∃ i:Int,x=.int i/\i.natAbs.log2 < 1920/\(PySem.Str.empty++(toString i:String):PySem.Str).length<=sizeLine/\(PySem.Str.empty++(toString i:String)++c:PySem.Str).length<=sizeLine/\tb U H1 fun y H2=>∃ j:Int,y=.int j/\j.natAbs.log2 < 1920 /\
 (PySem.Str.empty++(toString i:String)++c++(toString j:String):PySem.Str).length<=sizeLine/\Q (.str (PySem.Str.empty++(toString i:String)++c++(toString j:String))) H2):tFS ta c tb U H Q:=h
end SW
namespace SW
open PySem PySem.Spec PyProof.Rows L2
theorem bT(a b:PySem.Str):(a++b).cps.toList=a.cps.toList++b.cps.toList:=Array.toList_append
theorem eC{a b:PySem.Str}(h:a.cps.toList=b.cps.toList):a=b:=by
 cases a;cases b
 congr
 exact Array.toList_inj.mp h
theorem qu{c:Nat}:∀{a b r s:List Nat},c∉a->c∉b->a++c::r=b++c::s->a=b/\r=s
 | [],[],_,_,_,_,e=>⟨rfl,(List.cons.inj e).2⟩
 | [],y::b,_,_,_,hb,e=>absurd (by rw[(List.cons.inj e).1];exact List.mem_cons_self) hb
 | x::a,[],_,_,ha,_,e=>absurd (by rw[← (List.cons.inj e).1];exact List.mem_cons_self) ha
 | x::a,y::b,_,_,ha,hb,e=>by
   obtain⟨e1,e2⟩:=List.cons.inj e;obtain⟨e3,e4⟩:=qu (fun z=>ha (List.mem_cons_of_mem _ z)) (fun z=>hb (List.mem_cons_of_mem _ z)) e2;exact⟨by rw[e1,e3],e4⟩
theorem nn(c:Nat):∀{ws vs:List PySem.Str},ws≠[]->vs≠[]->(∀ w∈ws,c∉w.cps.toList)->(∀ w∈vs,c∉w.cps.toList)->Str.join ⟨#[c]⟩ ws=Str.join ⟨#[c]⟩ vs->ws=vs
 | [],_,h,_,_,_,_=>absurd rfl h
 | _::_,[],_,h,_,_,_=>absurd rfl h
 | [w],[v],_,_,_,_,e=>by rw[show w=v from e]
 | [w],v::v'::vs,_,_,hw,_,e=>by
   refine absurd ?_ (hw w List.mem_cons_self);rw[show w=v++⟨#[c]⟩++Str.join ⟨#[c]⟩ (v'::vs)from e,bT,bT];exact List.mem_append_left _ (List.mem_append_right _ List.mem_cons_self)
 | w::w'::ws,[v],_,_,_,hv,e=>by
   refine absurd ?_ (hv v List.mem_cons_self);rw[show v=w++⟨#[c]⟩++Str.join ⟨#[c]⟩ (w'::ws)from e.symm,bT,bT];exact List.mem_append_left _ (List.mem_append_right _ List.mem_cons_self)
 | w::w'::ws,v::v'::vs,_,_,hw,hv,e=>by
   have e:=congrArg (fun s:PySem.Str=>s.cps.toList) (show w++⟨#[c]⟩++Str.join ⟨#[c]⟩ (w'::ws)=v++⟨#[c]⟩++Str.join ⟨#[c]⟩ (v'::vs)from e);simp only[bT,List.append_assoc]at e;obtain⟨e1,e2⟩:=qu (hw w List.mem_cons_self) (hv v List.mem_cons_self) e;rw[eC e1,nn c (by simp) (by simp) (fun x hx=>hw x (List.mem_cons_of_mem _ hx)) (fun x hx=>hv x (List.mem_cons_of_mem _ hx)) (eC e2)]
theorem uR(x y:PySem.Str):Txt.split x y≠[]:=fun z=>by
 have:=PyProof.Rows.split_pos x y;rw[z]at this;exact absurd this (by decide)
theorem iw{c:Nat}{ws:List PySem.Str}(h:ws≠[])(hf:∀ w∈ws,c∉w.cps.toList):Txt.split (Str.join ⟨#[c]⟩ ws) ⟨#[c]⟩=ws:=
 nn c (uR _ _) h (fun w hw=>PySem.StrLaws.split_free _ c w hw) hf (PySem.StrLaws.join_split _ _)
def fV(m:Nat):List Nat:=(Nat.toDigits 10 m).map Char.toNat
def tx(i:Int):PySem.Str:=PySem.Str.ofString (toString i)
theorem cN(m:Nat):PySem.NumText.AllDigits (fV m):=fun c hc=>by
 obtain⟨ch,hch,e⟩:=List.mem_map.mp hc;rw[← e];exact digit_range (Nat.isDigit_of_mem_toDigits (by decide) (by decide) hch)
theorem l5(m:Nat):fV m≠[]:=fun e=>by
 have h:(Nat.toDigits 10 m).length<=0:=by rw[List.map_eq_nil_iff.mp e];exact Nat.le_refl _
 have:=Nat.length_toDigits_pos (b:=10) (n:=m);omega
theorem nL(m:Nat):PySem.NumText.digitsVal (fV m)=m:=W.KIN.val_back m
theorem jM{m:Nat}(h:m < 10 ^ 10):(fV m).length<=10:=by
 unfold fV;rw[List.length_map];exact(Nat.length_toDigits_le_iff (by decide) (by decide)).mpr h
theorem eZ(m:Nat):(tx (m:Int)).cps.toList=fV m:=W.KIN.signs_num m
theorem gk(m:Nat):(tx (-((m+1:Nat):Int))).cps.toList=45::fV (m+1):=by
 show(PySem.Str.ofString (toString (Int.negSucc m))).cps.toList=_;rw[signs_ofString];show(("-" ++ Nat.repr (m+1)):String).toList.map Char.toNat=_;rw[String.toList_append,List.map_append,Nat.toList_repr]
 rfl
theorem kQ{m:Nat}(h:m≠0):∃ c r,fV m=c::r/\c≠48:=by
 induction m using Nat.strongRecOn with
 | _ m ih=>
   by_cases h1:m < 10
   . refine⟨(Nat.digitChar m).toNat,[],by unfold fV;rw[Nat.toDigits_of_lt_base h1];rfl,?_⟩
     have:∀ d,d < 10->d≠0->(Nat.digitChar d).toNat≠48:=by decide
     exact this m h1 h
   obtain⟨c,r,e,hc⟩:=ih (m / 10) (by omega) (by omega)
   have hm:m % 10 < 10:=Nat.mod_lt m (by decide)
   have t:Nat.toDigits 10 (m / 10)++Nat.toDigits 10 (m % 10)=Nat.toDigits 10 (10*(m / 10)+m % 10):=Nat.toDigits_append_toDigits (by decide) (by omega) hm
   rw[Nat.div_add_mod]at t;refine⟨c,r++(Nat.toDigits 10 (m % 10)).map Char.toNat,?_,hc⟩;unfold fV at e ⊢;rw[← t,List.map_append,e]
   rfl
theorem aZ{i:Int}(h:i.natAbs < 10 ^ 10):(tx i).length<=11:=by
 have:(tx i).length=(tx i).cps.toList.length:=by simp[PySem.Str.length]
 rw[this];rcases(show i < 0∨0<=i by omega)with z | z
 . obtain⟨m,rfl⟩:∃ m:Nat,i=-((m+1:Nat):Int):=⟨i.natAbs - 1,by omega⟩
   rw[gk,List.length_cons];have:=jM (m:=m+1) (by omega)
   omega
 obtain⟨m,rfl⟩:=Int.eq_ofNat_of_zero_le z;rw[eZ];have:=jM (m:=m) (by omega)
 omega
theorem cw{i:Int}(h:i.natAbs < 10 ^ 10):PySem.intText? (tx i)=some i:=by
 have hl:=aZ h;rcases(show i < 0∨0<=i by omega)with z | z
 . obtain⟨m,rfl⟩:∃ m:Nat,i=-((m+1:Nat):Int):=⟨i.natAbs - 1,by omega⟩
   have e:=PySem.intText_neg (gk m) (cN _) (l5 _) (Nat.le_trans hl (by decide))
   rw[nL]at e;exact e
 obtain⟨m,rfl⟩:=Int.eq_ofNat_of_zero_le z;have e:=PySem.intText_digits (x:=tx (m:Int)) (by rw[eZ];exact cN _) (by rw[eZ];exact l5 _) (Nat.le_trans hl (by decide))
 rw[eZ,nL]at e;exact e
theorem ue(i:Int):∀ c∈(tx i).cps.toList,c=45∨(48<=c/\c<=57):=fun c hc=>by
 rcases(show i < 0∨0<=i by omega)with z | z
 . obtain⟨m,rfl⟩:∃ m:Nat,i=-((m+1:Nat):Int):=⟨i.natAbs - 1,by omega⟩
   rw[gk]at hc;rcases List.mem_cons.mp hc with y | y
   . exact .inl y
   exact .inr (cN _ c y)
 obtain⟨m,rfl⟩:=Int.eq_ofNat_of_zero_le z;rw[eZ]at hc;exact .inr (cN _ c hc)
theorem eE(i:Int){c:Nat}(h:c < 45∨57 < c):c∉(tx i).cps.toList:=fun z=>by
 have:=ue i c z;omega
theorem yI{i j:Int}(hi:i.natAbs < 10 ^ 10)(hj:j.natAbs < 10 ^ 10)(e:tx i=tx j):i=j:=by
 have h1:=cw hi;rw[e,cw hj]at h1;exact(Option.some.inj h1).symm
theorem j0(x:PySem.Str)(c:Nat):Txt.startswith x ⟨#[c]⟩=decide (x.cps.toList.head?=some c):=by
 obtain⟨⟨l⟩⟩:=x;cases l with
 | nil=>rfl
 | cons a r=>
   show(decide (0+1<=(PySem.Str.mk ⟨a::r⟩).length) && Builtin.Str.subAt (PySem.Str.mk ⟨a::r⟩) ⟨#[c]⟩ 0)=_;rw[decide_eq_true (by simp[PySem.Str.length]),Bool.true_and]
   unfold Builtin.Str.subAt;have e:(PySem.Str.mk ⟨a::r⟩).cps.extract 0 (0+(PySem.Str.mk #[c]).length)=#[a]:=by
    simp[PySem.Str.length]
   rw[e];by_cases h:a=c
   . subst h;simp
   simp[h]
theorem uP{x:PySem.Str}(h:x.cps.toList≠[]):(rV x (some 1) none).cps.toList=x.cps.toList.tail:=by
 have hl:x.length=x.cps.toList.length:=by simp[PySem.Str.length]
 have h1:1<=x.length:=by rw[hl];exact List.length_pos_iff.mpr h
 have e:Builtin.Str.strSliceIndices (some 1) none 1 x.length=Builtin.Str.strSliceIndices (some ((1:Nat):Int)) (some ((x.length:Nat):Int)) 1 x.length:=by
  have h2:¬ (((x.length:Nat):Int) < 0):=by omega
  have e2:max (0:Int) (min ((x.length:Nat):Int) ((x.length:Nat):Int))=((x.length:Nat):Int):=by omega
  simp only[Builtin.Str.strSliceIndices,h2,if_false,e2,show((1:Int) > 0)=True from by simp,if_true]
  rfl
 unfold rV;rw[e];rw[if_neg (by
  rw[PySem.StrLaws.strSliceIndices_plain h1 (Nat.le_refl _),List.length_map,List.length_range,beq_iff_eq]
  omega)]
 show(Builtin.Str.strSliceIndices (some ((1:Nat):Int)) (some ((x.length:Nat):Int)) 1 x.length).filterMap (x.cps[·]?)=_;rw[PySem.StrLaws.sliced_plain x h1 (Nat.le_refl _),List.drop_one];refine List.take_of_length_le ?_;rw[List.length_tail,hl];exact Nat.le_refl _
theorem vB:PySem.Str.ofString "-"=⟨#[45]⟩:=by decide
theorem qV:PySem.Str.ofString "0"=⟨#[48]⟩:=by decide
theorem mV:PySem.Str.ofString " "=⟨#[32]⟩:=by decide
theorem sB:PySem.Str.ofString ":"=⟨#[58]⟩:=by decide
theorem qB:PySem.Str.ofString ">"=⟨#[62]⟩:=by decide
theorem oO:(PySem.Str.ofString "0123456789").cps.toList=[48,49,50,51,52,53,54,55,56,57]:=by decide
def fg(m:Nat):PySem.Str:=tx (m:Int)
theorem j3(m:Nat):(fg m).cps.toList=fV m:=eZ m
theorem uF(i:Int):Txt.startswith (tx i) (PySem.Str.ofString "-")=decide (i < 0):=by
 rw[vB,j0];rcases(show i < 0∨0<=i by omega)with z | z
 . obtain⟨m,rfl⟩:∃ m:Nat,i=-((m+1:Nat):Int):=⟨i.natAbs - 1,by omega⟩
   rw[gk,decide_eq_true z];exact decide_eq_true rfl
 obtain⟨m,rfl⟩:=Int.eq_ofNat_of_zero_le z;rw[show decide ((m:Int) < 0)=false from decide_eq_false (by omega)]
 refine decide_eq_false fun e=>?_;have:(45:Nat)∈(tx (m:Int)).cps.toList:=List.mem_of_mem_head? e;rw[eZ]at this;have:=cN m 45 this;omega
theorem sS{i:Int}(h:i < 0):rV (tx i) (some 1) none=fg i.natAbs:=by
 obtain⟨m,rfl⟩:∃ m:Nat,i=-((m+1:Nat):Int):=⟨i.natAbs - 1,by omega⟩
 refine eC ?_;rw[uP (by rw[gk];simp),gk,j3]
 show fV (m+1)=fV _
 congr 1
theorem Al{i:Int}(h:0<=i):tx i=fg i.natAbs:=by
 unfold fg;rw[Int.natAbs_of_nonneg h]
theorem tR(i:Int):tx i≠PySem.Str.ofString "-0":=fun e=>by
 have e:(tx i).cps.toList=[45,48]:=by rw[e];decide
 rcases(show i < 0∨0<=i by omega)with z | z
 . obtain⟨m,rfl⟩:∃ m:Nat,i=-((m+1:Nat):Int):=⟨i.natAbs - 1,by omega⟩
   rw[gk]at e;obtain⟨c,r,e2,hc⟩:=kQ (m:=m+1) (by omega)
   rw[e2]at e;exact hc (List.cons.inj (List.cons.inj e).2).1
 obtain⟨m,rfl⟩:=Int.eq_ofNat_of_zero_le z;rw[eZ]at e;have:=cN m 45 (by rw[e];simp)
 omega
theorem qF(m:Nat):fg m=PySem.Str.ofString "0" ∨ Txt.startswith (fg m) (PySem.Str.ofString "0")=false:=by
 by_cases h:m=0
 . subst h;exact .inl (by decide)
 refine .inr ?_;rw[qV,j0,j3];obtain⟨c,r,e,hc⟩:=kQ h;rw[e];exact decide_eq_false fun z=>hc (Option.some.inj z)
theorem sG{m:Nat}(h:m < 10 ^ 10):1<=(fg m).length/\(fg m).length<=10:=by
 have e:(fg m).length=(fV m).length:=by rw[← j3];simp[PySem.Str.length]
 rw[e];exact⟨List.length_pos_iff.mpr (l5 m),jM h⟩
theorem vD(m:Nat):(fg m).cps.all (· < 128)=true:=by
 rw[← Array.all_toList,j3];refine List.all_eq_true.mpr fun c hc=>decide_eq_true ?_;have:=cN m c hc;omega
theorem xw{m i:Nat}(h:i < (fg m).cps.size):(!(Builtin.Str.occurrences (PySem.Str.ofString "0123456789") (sgn (fg m) i) 0 (PySem.Str.ofString "0123456789").length 1).isEmpty)=true:=by
 unfold sgn;rw[PySem.StrLaws.found_one,oO];refine decide_eq_true ?_;have hc:(fg m).cps.getD i 0∈fV m:=by
  rw[← j3,Array.getD_eq_getD_getElem?,Array.getElem?_eq_getElem h];exact Array.mem_toList_iff.mpr (Array.getElem_mem h)
 have:=cN m _ hc;simp only[List.mem_cons,List.not_mem_nil,or_false];omega
theorem pV{sep:PySem.Str}{texts:List PySem.Str}{B:Nat}(hB:∀ y∈texts,y.length<=B)(h:texts.length*B+texts.length*sep.length<=16777216):JoinOk sep texts=true:=by
 unfold JoinOk;rw[PySem.StrLaws.joinFits hB h]
 rfl
theorem m4(sep:PySem.Str)(l:List PySem.Str):Txt.join sep l=Str.join sep l:=eq_of_beq (PyProof.Rows.join_plain_closes sep l)
theorem aV(a b:PySem.Str):(a++b).length=a.length+b.length:=by
 have h:∀ x:PySem.Str,x.length=x.cps.toList.length:=fun x=>by simp[PySem.Str.length]
 rw[h,h,h,bT,List.length_append]
theorem r_{f m:Int}{pc:Nat}{M:MT}(T:TOk f m M)(d:cK)(j v:Int)(h:aA f m (bM f m pc M d) j=some v):aA f m M j=some v∨d=.put j v:=by
 obtain⟨T1,l1,c1⟩:=eh (pc:=pc) T;cases d with
 | put k y=>
   obtain⟨T2,l2,c2⟩:=eW (k:=k) (v:=y) T1;obtain⟨T3,l3,c3⟩:=cQ T2;have h:aA f m (beg (SW.putAt f m (a_ f m pc M) k y)) j=some v:=h;rw[l3,l2,l1]at h;split at h
   . rename_i e
     cases h;exact .inr (by rw[e])
   exact .inl h
 | look k=>
   obtain⟨T3,l3,c3⟩:=cQ T1;have h:aA f m (beg (a_ f m pc M)) j=some v:=h;rw[l3,l1]at h;exact .inl h
 | cut k=>
   obtain⟨T2,l2,c2⟩:=fc (k:=k) T1;obtain⟨T3,l3,c3⟩:=cQ T2;have h:aA f m (beg (SW.bY f m (a_ f m pc M) k)) j=some v:=h;rw[l3,l2,l1]at h;split at h
   . cases h
   exact .inl h
theorem kN{f m:Int}{pc:Nat}{M:MT}(T:TOk f m M)(d:cK):cnt (bM f m pc M d)<=cnt M+1:=by
 obtain⟨T1,l1,c1⟩:=eh (pc:=pc) T;cases d with
 | put k y=>
   obtain⟨T2,l2,c2⟩:=eW (k:=k) (v:=y) T1;obtain⟨T3,l3,c3⟩:=cQ T2;show cnt (beg (SW.putAt f m (a_ f m pc M) k y))<=_;rw[c3,c2,c1];split <;> omega
 | look k=>
   obtain⟨T3,l3,c3⟩:=cQ T1;show cnt (beg (a_ f m pc M))<=_;rw[c3,c1];omega
 | cut k=>
   obtain⟨T2,l2,c2⟩:=fc (k:=k) T1;obtain⟨T3,l3,c3⟩:=cQ T2;show cnt (beg (SW.bY f m (a_ f m pc M) k))<=_;rw[c3];omega
def DB:cK->Prop
 | .put k v=>InB (k,v)
 | .look k=>0<=k/\k<=1000000000
 | .cut k=>0<=k/\k<=1000000000
structure Lg(n:Nat)(f m:Int)(pc:Nat)(M:MT)(tc:Int):Prop where
 T:TOk f m M
 R:Rat M
 le:cnt M<=n
 p8:pc<=8
 bd:∀ k v,aA f m M k=some v->InB (k,v)
 t0:0<=tc
 t1:tc<=100
theorem Lg.zero{f m:Int}{pc n:Nat}(T:TOk f m M0)(h:pc<=8):Lg n f m pc M0 0:=
 ⟨T,DF,Nat.le_trans (by decide) (Nat.zero_le n),h,fun k v e=>by(rw[pJ]at e;cases e),by decide,by decide⟩
theorem Lg.deed{n pc:Nat}{f m tc:Int}{M:MT}{d:cK}(g:Lg n f m pc M tc)(hb:DB d):Lg (n+1) f m pc (bM f m pc M d) (tch f m pc M (bF d):Nat):=by
 have h1:=kN (pc:=pc) g.T d;have h2:=g.le;have h3:=vE (pc:=pc) (k:=bF d) g.T g.R;have h4:=g.p8;refine⟨(qq g.T d).1,g.R.deed g.T d,by omega,g.p8,fun k v e=>?_,by omega,by omega⟩
 rcases r_ g.T d k v e with z | z
 . exact g.bd k v z
 subst z;exact hb
theorem Lg.mono{n n' pc:Nat}{f m tc:Int}{M:MT}(g:Lg n f m pc M tc)(h:n<=n'):Lg n' f m pc M tc:=⟨g.T,g.R,Nat.le_trans g.le h,g.p8,g.bd,g.t0,g.t1⟩
theorem InB.small{p:Int×Int}(h:InB p):p.1.natAbs < 10 ^ 10/\p.2.natAbs < 10 ^ 10:=by
 obtain⟨⟨h1,h2⟩,h3,h4⟩:=h;have e:(10:Nat) ^ 10=10000000000:=by decide
 rw[e];omega
theorem Lg.look{n pc:Nat}{f m tc:Int}{M:MT}(g:Lg n f m pc M tc)(k:Int):∀ v,aA f m M k=some v->v.natAbs < 10 ^ 10:=fun v e=>(g.bd k v e).small.2
theorem Lg.step{n pc:Nat}{f m tc c:Int}{M:MT}(g:Lg n f m pc M tc)(h0:0<=c)(h1:c<=65535):(∀ p∈bt M c,p∈eK M/\InB p)/\(bt M c).length<=cnt M:=by
 have h:∀ p∈bt M c,p∈eK M:=fun p hp=>(iR g.T g.R h0 (by omega) hp).1
 refine⟨fun p hp=>⟨h p hp,g.bd p.1 p.2 (g.T.tell (h p hp))⟩,?_⟩;rw[← ua];have nd:=jw g.T g.R h0 (show c < 65536 by omega)
 have:=dk (a:=(bt M c).map (·.1)) (b:=(eK M).map (·.1)) nd fun x hx=>by
  obtain⟨p,hp,rfl⟩:=List.mem_map.mp hx;exact List.mem_map.mpr ⟨p,h p hp,rfl⟩
 rwa [List.length_map,List.length_map]at this
theorem Lg.sizes{n pc:Nat}{f m tc:Int}{M:MT}(g:Lg n f m pc M tc):(∀ x,M.el.map List.length=some x->x<=4096)/\M.nw.length<=4096:=by
 have a:=g.T.sz.bounds;refine⟨fun x e=>?_,by omega⟩
 cases h:M.el with
 | none=>rw[h]at e;cases e
 | some E=>
   rw[h]at e;cases e;have:=(g.T.el E h).2.1.bounds;omega
theorem n4{sep:PySem.Str}{B:Nat}:∀{ws:List PySem.Str},(∀ y∈ws,y.length<=B)->(Str.join sep ws).length<=ws.length*(B+sep.length)
 | [],_=>Nat.zero_le _
 | [w],h=>by
   have:=h w List.mem_cons_self;show w.length<=1*_;omega
 | w::w'::ws,h=>by
   have h1:=h w List.mem_cons_self;have h2:=n4 (sep:=sep) (ws:=w'::ws) fun y hy=>h y (List.mem_cons_of_mem _ hy);show(w++sep++Str.join sep (w'::ws)).length<=_;rw[aV,aV];rw[List.length_cons (a:=w),Nat.add_mul];omega
theorem oA(a b c:PySem.Str):a++b++c=a++(b++c):=eC (by simp only[bT,List.append_assoc])
theorem yR{A w x s:PySem.Str}(h:A=w++s):A++x=Str.join s [w,x]:=by rw[h];rfl
theorem C5{A w x y s:PySem.Str}(h:A=w++s):A++x++s++y=Str.join s [w,x,y]:=by
 rw[h];show w++s++x++s++y=w++s++(x++s++y);simp only[oA]
theorem Df{A w x y z s:PySem.Str}(h:A=w++s):A++x++s++y++s++z=Str.join s [w,x,y,z]:=by
 rw[h];show w++s++x++s++y++s++z=w++s++(x++s++(y++s++z));simp only[oA]
def rO(wd:PySem.Str)(ns:List Int):PySem.Str:=Str.join " " (wd::ns.map tx)
theorem gN{ws:List PySem.Str}{B:Nat}{s:PySem.Str}{c:Nat}(hs:s=⟨#[c]⟩)(h:ws≠[])(hf:∀ w∈ws,c∉w.cps.toList)(hB:∀ w∈ws,w.length<=B)(hl:ws.length*(B+1)<=1000000) :
 (s.length == 0)=false/\(Str.join s ws).length<=sizeLine/\(PySem.Builtin.Str.partsBetween (Str.join s ws) (PySem.Builtin.Str.occurrences (Str.join s ws) s 0 (Str.join s ws).length ((Str.join s ws).length+1)) s.length).length<=sizeLine/\(Txt.split (Str.join s ws) s).length<=sizeLine/\Txt.split (Str.join s ws) s=ws:=by
 subst hs;have lim:sizeLine=16777216:=sizeLine_eq;have h1:=n4 (sep:=⟨#[c]⟩) hB;have h2:(⟨#[c]⟩:PySem.Str).length=1:=rfl;rw[h2]at h1;have h3:=PySem.StrLaws.occ_length_le (Str.join ⟨#[c]⟩ ws) ⟨#[c]⟩ 0 (Str.join ⟨#[c]⟩ ws).length ((Str.join ⟨#[c]⟩ ws).length+1);have h4:ws.length<=ws.length*(B+1):=Nat.le_mul_of_pos_right _ (Nat.succ_pos _);refine⟨rfl,by omega,by rw[PyProof.Rows.len_partsBetween];omega,?_,iw h hf⟩
 rw[iw h hf];omega
def dW:cK->PySem.Str
 | .put _ _=>"put"
 | .look _=>"look"
 | .cut _=>"cut"
def dN:cK->List Int
 | .put k v=>[k,v]
 | .look k=>[k]
 | .cut k=>[k]
def wTx:Option Int->PySem.Str
 | none=>"none"
 | some v=>tx v
def pj:Option Nat->Nat->PySem.Str
 | none,n=>tx (n:Int)
 | some e,n=>Str.join ">" [tx (e:Int),tx (n:Int)]
def dG(p:Int×Int):PySem.Str:=PySem.Str.empty++(toString p.1:String) ++ ":" ++ (toString p.2:String)
def vx(b:Int)(ps:av):PySem.Str:=Str.join " " (tx b::ps.map dG)
abbrev bhA(M:MT)(c:Int):Int:=cX (aD (aq M).length c) (aq M).length
inductive Ans(C CT PS:Addr)(pos:Pos)(qual:Str)(tb:Addr)(f m:Int)(pc:Nat)(M:MT)(tc:Int)(F:Addr->Prop)(H:Hp)(Q:VK):PySem.Str->List Int->Prop
 | keys (k:∀ H',ao H H'->Q (.str (tx (cnt M:Nat))) H'):Ans C CT PS pos qual tb f m pc M tc F H Q "keys" []
 | places (k:∀ H',ao H H'->Q (.str (pj (M.el.map List.length) M.nw.length)) H'):Ans C CT PS pos qual tb f m pc M tc F H Q "places" []
 | touched (k:∀ H',ao H H'->Q (.str (tx tc)) H'):Ans C CT PS pos qual tb f m pc M tc F H Q "touched" []
 | step {c:Int} (h0:0<=c) (h1:c<=65535) (k:∀ H',bI pos qual H' PS->ak PS H H'->Q (.str (vx (bhA M c) (bt M c))) H'):Ans C CT PS pos qual tb f m pc M tc F H Q "step" [c]
 | deed (d:cK) (hb:DB d) (k:∀ H' F',Tb C CT H' tb f m pc (bM f m pc M d) (tch f m pc M (bF d)) F'->Gr H F F'->Fr F H H'->Q (.str (wTx (aA f m M (bF d)))) H'):Ans C CT PS pos qual tb f m pc M tc F H Q (dW d) (dN d)
theorem Ans.same{C CT PS:Addr}{pos:Pos}{qual:Str}{tb:Addr}{f m:Int}{pc:Nat}{M:MT}{tc:Int}{F:Addr->Prop}{H H':Hp}{Q:VK}{wd:PySem.Str}{ns:List Int}(a:Ans C CT PS pos qual tb f m pc M tc F H Q wd ns)(s:ao H H'):Ans C CT PS pos qual tb f m pc M tc F H' Q wd ns:=by
 cases a with
 | keys k=>exact .keys fun H2 s2=>k H2 (s.trans s2)
 | places k=>exact .places fun H2 s2=>k H2 (s.trans s2)
 | touched k=>exact .touched fun H2 s2=>k H2 (s.trans s2)
 | step h0 h1 k=>exact .step h0 h1 fun H2 L k2=>k H2 L ((ao.but s).trans k2)
 | deed d hb k=>exact .deed d hb fun H2 F' S g2 f2=>k H2 F' S (fun b hb=>(g2 b hb).imp id fun z=>s.free z) fun b o n e=>f2 b o n (s b o e)
def uy(C CT PS:Addr)(pos:Pos)(qual:Str):Sp:=fun vs H Q _=>∃(tb l:Addr) (f m:Int) (pc:Nat) (M:MT) (tc:Int) (F:Addr->Prop) (wd:PySem.Str) (ns:List Int),vs=[.ref tb,.str wd,.ref l]/\Tb C CT H tb f m pc M tc F/\Lg 4000 f m pc M tc/\bI pos qual H PS/\H l=some (.lst (ns.map V.int))/\Ans C CT PS pos qual tb f m pc M tc F H Q wd ns
theorem DD{C CT PS:Addr}{pos:Pos}{qual:Str}{tb l:Addr}{f m:Int}{pc:Nat}{M:MT}{tc:Int}{F:Addr->Prop}{wd:PySem.Str}{ns:List Int}{H:Hp}{Q:VK}{E:XK}(S:Tb C CT H tb f m pc M tc F)(g:Lg 4000 f m pc M tc)(L:bI pos qual H PS)(hl:H l=some (.lst (ns.map V.int)))(a:Ans C CT PS pos qual tb f m pc M tc F H Q wd ns):uy C CT PS pos qual ([.ref tb,.str wd,.ref l]++[]) H Q E:=⟨tb,l,f,m,pc,M,tc,F,wd,ns,rfl,S,g,L,hl,a⟩
inductive Say(C CT CD PS:Addr)(pos:Pos)(qual:Str)(q dq:Addr)(tv:V)(H:Hp)(Q:VK):PySem.Str->List Int->Prop
 | table {a b p:Int} (h1:0<=a) (h2:a<=65535) (h3:0<=b) (h4:b<=65535) (h5:1<=p) (h6:p<=8) (k:∀ tb H' F',Tb C CT H' tb a b p.toNat M0 0 F'->(∀ x,F' x->H x=none)->H' q=some (.ins CD dq [("table",.ref tb)])->ak q H H'->Q (.str "ok") H'):Say C CT CD PS pos qual q dq tv H Q "table" [a,b,p]
 | ans {tb:Addr}{f m:Int}{pc:Nat}{M:MT}{tc:Int}{F:Addr->Prop}{wd:PySem.Str}{ns:List Int} (e:tv=.ref tb) (S:Tb C CT H tb f m pc M tc F) (g:Lg 4000 f m pc M tc) (L:bI pos qual H PS) (a:Ans C CT PS pos qual tb f m pc M tc F H Q wd ns):Say C CT CD PS pos qual q dq tv H Q wd ns
def kn(C CT CD PS:Addr)(pos:Pos)(qual:Str):Sp:=fun vs H Q _=>∃(q dq:Addr) (tv:V) (wd:PySem.Str) (ns:List Int),vs=[.ref q,.str (rO wd ns)]/\H q=some (.ins CD dq [("table",tv)])/\Say C CT CD PS pos qual q dq tv H Q wd ns
theorem rZ{C CT CD PS:Addr}{pos:Pos}{qual:Str}{q dq:Addr}{tv:V}{wd:PySem.Str}{ns:List Int}{H:Hp}{Q:VK}{E:XK}{x:PySem.Str}(e:x=rO wd ns)(h:H q=some (.ins CD dq [("table",tv)]))(s:Say C CT CD PS pos qual q dq tv H Q wd ns):kn C CT CD PS pos qual (V.ref q::([.str x]++[])) H Q E:=⟨q,dq,tv,wd,ns,by rw[e];rfl,h,s⟩
section
variable{X:Cx}{tg:Expr}
end
def mE(CD:Addr):Sp:=fun vs H Q _=>∃(x dx:Addr),vs=[.ref x]/\H x=some (.ins CD dx [])/\Q .non (upd H x (.ins CD dx [("table",.non)]))
theorem AT{CD:Addr}{H:Hp}{Qf:Addr->Hp->Prop}{E:XK}(q:∀ x dx H',H x=none->H' x=some (.ins CD dx [("table",.non)])->ao H H'->Qf x H') :
 ∀ x dx,H x=none->H dx=none->dx≠x->mE CD [V.ref x] (upd (upd H dx (.own x)) x (.ins CD dx [])) (fun v H2=>v=.non/\Qf x H2) E:=fun x dx hx hdx hne=>
 ⟨x,dx,rfl,aa,rfl,q x dx _ hx aa fun b o e=>by rw[af (ah e hx),af (ah e hx),af (ah e hdx)];exact e⟩
section
variable{prog:Program}{w:World}{A:Around}{E:Value->Shared->Prop}
theorem jl{h h':Heap}{it l:Addr}{items:Array Value}(hl:h.IsList l items)(e:Heap.ExtBut it h h')(hne:l≠it):h'.IsList l items:=by
 obtain⟨o,ho,z⟩:=hl;exact⟨o,e _ _ hne ho,z⟩
theorem lD{it t:Addr}{items:Array Value}(hne:t≠it):∀(n i:Nat) (s:Shared) (Q:List Value->Shared->Prop),s.heap.IsListIter it t i->s.heap.IsList t items->i+n<=items.size ->
 (∀ h',Heap.IsListIter h' it t (i+n)->Heap.SameBut it s.heap h'->Q ((items.toList.drop i).take n) { s with heap:=h' })->wpAny (model prog w) A (draw (.ref it) n) Q E s
 | 0,i,s,Q,hit,_,_,hQ=>by
   show wpAny _ _ (pure []) Q E s;exact wpAny_pure (by simpa using hQ s.heap hit (Heap.SameBut.refl ..))
 | n+1,i,s,Q,hit,ht,hle,hQ=>by
   have hlt:i < items.size:=by omega
   show wpAny _ _ (pyNext (.ref it) >>= _) Q E s;refine wpAny_bind (wpAny_pyNext_list_item hit ht (x:=items[i]) (by simp[hlt]) fun h₁ hit₁ hs₁=>?_)
   refine wpAny_bind (wpAny_holding (lD hne n (i+1) _ _ hit₁ (jl ht hs₁.extBut hne) (by omega) fun h₂ hit₂ hs₂=>wpAny_pure ?_))
   have hd:items.toList.drop i=items[i]::items.toList.drop (i+1):=by simp[List.drop_eq_getElem_cons,hlt]
   have:=hQ h₂ (by rw[show i+(n+1)=i+1+n by omega];exact hit₂) (hs₁.trans hs₂)
   rw[hd,List.take_succ_cons]at this;exact this
theorem gW{s:Shared}{t:Addr}{items:Array Value}{Q:List Value->Shared->Prop}(hh:A.handled=none)(ht:s.heap.IsList t items)
 (hQ:∀ h',Heap.ExtBut s.heap.objs.size s.heap h'->Q items.toList { s with heap:=h' }):wpAny (model prog w) A (unpackItems (.ref t) items.size none) Q E s:=by
 have hlt:t≠s.heap.objs.size:=by obtain⟨o,ho,_⟩:=ht;exact Nat.ne_of_lt (Heap.lt_size ho)
 unfold unpackItems;refine wpAny_bind ?_;unfold notIterableAtAll;refine wpAny_bind (wpAny_specialOf ht.typeIs slot_list_iter.lookup ?_);refine wpAny_pure ?_;simp only[Bool.false_eq_true,if_false];refine wpAny_bind (wpAny_holding (wpAny_pyIter_list ht ?_));have ht0:(s.heap.push { cls:=.type "list_iterator",data:=.fields #[.ref t,.int 0 0] }).IsList t items:=by
  obtain⟨o,ho,z⟩:=ht;exact⟨o,Heap.get?_push_of_some _ ho,z⟩
 refine wpAny_bind (wpAny_holding (lD hlt items.size 0 _ _ ⟨_,Heap.get?_push_size _ rfl,rfl,rfl⟩ ht0 (by omega) fun h₁ hit₁ hs₁=>?_))
 have hall:List.take items.size (List.drop 0 items.toList)=items.toList:=by
  rw[List.drop_zero];exact List.take_of_length_le (by simp)
 rw[hall];rw[if_neg (by simp)]
 refine wpAny_bind (wpAny_holding (wpAny_pyNext_list_end hh hit₁ (jl ht0 hs₁.extBut hlt) (by simp) fun h₂ he₂=>?_))
 simp only[Option.isSome_none,Bool.false_eq_true,if_false];refine wpAny_pure (hQ h₂ fun b o hb e=>he₂ b o hb (hs₁.extBut b o hb (Heap.get?_push_of_some _ e)))
theorem gF{s:Shared}{env:Env}{elts:List Expr}{x1}{pos:Pos}{t:Addr}{items:Array Value}{Q:Unit->Shared->Prop}(hh:A.handled=none)(ht:s.heap.IsList t items)
 (hn:(assignEach elts env).length=items.size) (hstar:(assignEach elts env).findIdx? (·.1)=none)
 (h:∀ h',Heap.ExtBut s.heap.objs.size s.heap h'->wpAny (model prog w) A (assignInOrder ((assignEach elts env).map (·.2)) items.toList) Q E { s with heap:=h' }) :
 wpAny (model prog w) A (assign (.Tuple elts x1 pos) env (.ref t)) Q E s:=by
 rw[assign_Tuple];refine wpAny_bind (wpAny_standAt ?_);unfold unpack;rw[hn,hstar];exact wpAny_bind (wpAny_holding (gW hh ht h))
end
def yi(K:W.Frag)(n:Nat)(t:TGs):TG:=fun v U H Q=>∃ a xs,v=.ref a/\SqL K H a xs/\xs.length=n/\t xs U H Q
theorem vA{X:Cx}{pos:Pos}{es:List Expr}{k:Nat}{t:TGs}{n:Nat}(hc:X.calm=true)(h:PGs X es t)
 (hn:(assignEach es X.env).length=n:=by rfl) (hst:(assignEach es X.env).findIdx? (·.1)=none:=by rfl):PG X (.Tuple es k pos) (yi X.K n t):=by
 intro pins s U H v u Q I r hw;obtain⟨a,xs,e1,hq,hl,hw⟩:=hw;subst e1;cases r;obtain⟨its,rv,ht,hz⟩:=I.list hq;refine gF (I.ok.hd hc) ht.isList (by simp[hn,← hl,rv.length]) hst fun h' hx=>?_
 have I1:L2.Inv X pins U H { s with heap:=h' }:=I.kept (t':=s.toks) fun b o e=>hx b o (Nat.ne_of_lt (Heap.lt_size e)) e;exact h pins _ U H xs _ Q I1 (by simpa using rv) hw
theorem B.glst{X:Cx}{pos:Pos}{es:List Expr}{kk n:Nat}{u:TGs}(h:Bx (PGs X es u))(hc:X.calm=true:=by rfl)(hn:(assignEach es X.env).length=n:=by rfl)(hst:(assignEach es X.env).findIdx? (·.1)=none:=by rfl):Bx (PG X (.Tuple es kk pos) (yi X.K n u)):=⟨vA hc h.out hn hst⟩
structure Wkd where
 c:Int
 stay:List Int
 seen:List Int
 still:Bool
 pl:PySem.Str
 mn:Int
def szM(M:MT):PySem.Str:=pj (M.el.map List.length) M.nw.length
abbrev pnt(f m k:Int):Int:=pt (mrk f m k) 16
structure Q46(f m:Int)(M:MT)(r:av)(W:Wkd):Prop where
 c0:0<=W.c
 c1:W.c<=65535
 st:W.c≠0 -> ∀ k∈W.stay,k∈r.map (·.1)
 tl:W.c≠0 -> ∀ k∈W.stay,pnt f m k < W.c->k∈W.seen
 ai:W.still=true->W.c≠0->W.pl=szM M->M.el=none->W.c % (65536 / (M.nw.length:Nat))=0 /\ ∀ k∈W.seen,pnt f m k < W.c
structure P46(f m:Int)(M:MT)(r:av)(W:Wkd):Prop where
 q:Q46 f m M r W
 pl:W.pl=szM M
 el:W.still=true->W.c≠0->M.el=none
structure B46(f m:Int)(M:MT)(r:av)(W:Wkd):Prop where
 c0:0<=W.c
 c1:W.c<=65535
 st:∀ k∈W.stay,k∈r.map (·.1)
 tl:∀ k∈W.stay,pnt f m k < W.c->k∈W.seen
 ai:W.still=true->(W.c=0/\W.seen=[])∨(M.el=none/\W.c % (65536 / (M.nw.length:Nat))=0 /\ ∀ k∈W.seen,pnt f m k < W.c)
 pl:W.pl=szM M
section
variable{f m:Int}{pc:Nat}{M:MT}{r:av}{W:Wkd}
theorem P46.zero{mn:Int}{a b:List Int}{s:Bool}:P46 f m M0 [] ⟨0,a,b,s,tx 4,mn⟩:=
 ⟨⟨Int.le_refl 0,show(0:Int)<=65535 by decide,fun h=>absurd rfl h,fun h=>absurd rfl h,fun _ h=>absurd rfl h⟩,rfl,fun _ h=>absurd rfl h⟩
theorem P46.begin0{ks:List Int}(P:P46 f m M r W)(h:W.c=0)(hk:ks.Perm (r.map (·.1))):B46 f m M r { W with stay:=ks,seen:=[],still:=true }:=
 ⟨P.q.c0,P.q.c1,fun k hk'=>hk.mem_iff.mp hk',fun k _ hp=>by
  have:=(tN (mrk f m k)).1;have hp:pnt f m k < W.c:=hp;unfold pnt at hp
  omega,fun _=>.inl ⟨h,rfl⟩,P.pl⟩
theorem P46.begin1(P:P46 f m M r W)(h:W.c≠0):B46 f m M r W:=
 ⟨P.q.c0,P.q.c1,P.q.st h,P.q.tl h,fun hs=>.inr ⟨P.el hs h,P.q.ai hs h P.pl (P.el hs h)⟩,P.pl⟩
theorem xG{k:Int}(h:k∈r.map (·.1)):∃ v,ax r k=some v:=by
 cases e:ax r k with
 | some v=>exact⟨v,rfl⟩
 | none=>exact absurd h ((bh k).mp e)
theorem B46.in_(B:B46 f m M r W)(T:TOk f m M)(R:Rat M)(lk:∀ k,ax r k=aA f m M k):∀ p∈bt M W.c,ax r p.1=some p.2:=fun p hp=>by
 rw[lk];exact T.tell (iR T R B.c0 (Int.lt_add_one_of_le B.c1) hp).1
theorem ib(h:M.el=none):aq M=M.nw:=by
 unfold aq;rw[h]
theorem B46.first(B:B46 f m M r W)(T:TOk f m M)(hs:W.still=true):W.seen=[]∨pt (aD (aq M).length W.c) 16=W.c:=by
 rcases B.ai hs with z | ⟨z,a,_⟩
 . exact .inl z.2
 refine .inr ?_;have BB:=oy.of (dY T) B.c0 (Int.lt_add_one_of_le B.c1);rw[BB.p4,ib z,a,Int.sub_zero]
theorem B46.again(B:B46 f m M r W)(T:TOk f m M)(R:Rat M)(hs:W.still=true):∀ p∈bt M W.c,p.1∉W.seen:=fun p hp hin=>by
 rcases B.first T hs with z | z
 . rw[z]at hin;cases hin
 rcases B.ai hs with y | ⟨_,_,y⟩
 . rw[y.2]at hin;cases hin
 have h1:=y p.1 hin;have h2:=(iR T R B.c0 (Int.lt_add_one_of_le B.c1) hp).2.1;unfold pnt at h1;omega
theorem t8(M:MT)(c:Int):bhA M c=bhd M c:=rfl
theorem B46.up(B:B46 f m M r W)(T:TOk f m M)(h:bhA M W.c≠0):W.c < bhA M W.c/\bhA M W.c=cH M W.c+1:=by
 have S:=Stp.of T B.c0 (Int.lt_add_one_of_le B.c1);have e:=S.eq;have l2:=S.le2;have l3:=S.le3;rw[t8]at *;have c0:=B.c0;by_cases z:cH M W.c=65535
 . rw[z]at e;exact absurd e h
 have:(cH M W.c+1) % 65536=cH M W.c+1:=Int.emod_eq_of_lt (by omega) (by omega)
 rw[this]at e;rw[e];omega
theorem B46.all(B:B46 f m M r W)(T:TOk f m M)(R:Rat M)(lk:∀ k,ax r k=aA f m M k){k:Int}(hk:k∈W.stay)(h:pnt f m k<=cH M W.c):k∈W.seen++(bt M W.c).map (·.1):=by
 by_cases z:pnt f m k < W.c
 . exact List.mem_append_left _ (B.tl k hk z)
 obtain⟨v,hv⟩:=xG (B.st k hk);rw[lk]at hv;rcases Stp.told T R B.c0 (Int.lt_add_one_of_le B.c1) (rH hv) (show W.c<=pt (mrk f m k) 16 by unfold pnt at z;omega)with y | y
 . exact List.mem_append_right _ (List.mem_map.mpr ⟨_,y,rfl⟩)
 unfold pnt at h;omega
theorem B46.end_(B:B46 f m M r W)(T:TOk f m M)(R:Rat M)(lk:∀ k,ax r k=aA f m M k)(h:bhA M W.c=0):∀ k∈W.stay,k∈W.seen++(bt M W.c).map (·.1):=fun k hk=>by
 refine B.all T R lk hk ?_;have S:=Stp.of T B.c0 (Int.lt_add_one_of_le B.c1);have e:=S.eq;have l2:=S.le2;have l3:=S.le3;have c0:=B.c0;rw[← t8,h]at e;have:=(tN (mrk f m k)).2;unfold pnt;omega
theorem B46.next(B:B46 f m M r W)(T:TOk f m M)(R:Rat M)(lk:∀ k,ax r k=aA f m M k):Q46 f m M r { W with c:=bhA M W.c,seen:=W.seen++(bt M W.c).map (·.1) }:=by
 have hr:0<=bhA M W.c/\bhA M W.c<=65535:=by
  unfold bhA cX;have h0:=Int.emod_nonneg (pt (aD (aq M).length W.c) 16+65536 / ((aq M).length:Nat) - 1+1) (show(65536:Int)≠0 by decide)
  have h1:=Int.emod_lt_of_pos (pt (aD (aq M).length W.c) 16+65536 / ((aq M).length:Nat) - 1+1) (show(0:Int) < 65536 by decide)
  omega
 refine⟨hr.1,hr.2,fun _=>B.st,fun h k hk hp=>?_,fun hs h hpl hel=>?_⟩
 . have hp:pnt f m k < bhA M W.c:=hp
   rw[(B.up T h).2]at hp;exact B.all T R lk hk (by omega)
 have eU:=(B.up T h).2;have S:=Stp.of T B.c0 (Int.lt_add_one_of_le B.c1);have l2:=S.le2;show bhA M W.c % (65536 / (M.nw.length:Nat))=0 /\ ∀ k∈W.seen++(bt M W.c).map (·.1),pnt f m k < bhA M W.c;rw[eU];have ep:pt (aD (aq M).length W.c) 16=W.c/\W.c % (65536 / (M.nw.length:Nat))=0:=by
  have BB:=oy.of (dY T) B.c0 (Int.lt_add_one_of_le B.c1);have az:W.c % (65536 / (M.nw.length:Nat))=0:=by
   rcases B.ai hs with z | z
   . rw[z.1];exact Int.zero_emod _
   exact z.2.1
  refine⟨?_,az⟩;rw[BB.p4,ib hel,az,Int.sub_zero]
 refine⟨?_,fun k hk=>?_⟩
 . rw[S.wd,ep.1,ib hel,Int.add_emod_right]
   exact ep.2
 rcases List.mem_append.mp hk with z | z
 . rcases B.ai hs with y | y
   . rw[y.2]at z;cases z
   have:=y.2.2 k z;omega
 obtain⟨p,hp,rfl⟩:=List.mem_map.mp z;have:=(iR T R B.c0 (Int.lt_add_one_of_le B.c1) hp).2.2;unfold pnt cH;omega
def og(x:PySem.Str):Bool:=!(Builtin.Str.occurrences x (PySem.Str.ofString ">") 0 x.length 1).isEmpty
theorem qL(h:og (szM M)=false):M.el=none:=by
 cases e:M.el with
 | none=>rfl
 | some E=>
   exfalso
   unfold og at h;rw[qB,PySem.StrLaws.found_one]at h;refine of_decide_eq_false h ?_;unfold szM pj;rw[e];show 62∈(Str.join (Str.ofString ">") [tx (E.length:Int),tx (M.nw.length:Int)]).cps.toList;rw[show Str.join (Str.ofString ">") [tx (E.length:Int),tx (M.nw.length:Int)]=tx (E.length:Int)++Str.ofString ">" ++ tx (M.nw.length:Int)from rfl,bT,bT];exact List.mem_append_left _ (List.mem_append_right _ (by decide))
theorem Q46.bound{s:Bool}(q:Q46 f m M r W)(hs:s=true->W.still=true/\W.pl=szM M/\og (szM M)=false):P46 f m M r { W with still:=s,pl:=szM M }:=
 ⟨⟨q.c0,q.c1,q.st,q.tl,fun h hc _ he=>q.ai (hs h).1 hc (hs h).2.1 he⟩,rfl,fun h _=>qL (hs h).2.2⟩
theorem wI{M M':MT}(h:M.el=none)(h':M'.el=none)(b:M.nw.length<=4096)(b':M'.nw.length<=4096)(e:szM M=szM M'):M.nw.length=M'.nw.length:=by
 unfold szM at e;rw[h,h']at e;have:=yI (i:=(M.nw.length:Int)) (j:=(M'.nw.length:Int)) (by rw[Int.natAbs_natCast];exact Nat.lt_of_le_of_lt b (by decide)) (by rw[Int.natAbs_natCast];exact Nat.lt_of_le_of_lt b' (by decide)) e
 omega
theorem P46.deed{M':MT}{r':av}{st:List Int}(P:P46 f m M r W)(b:M.nw.length<=4096)(b':M'.nw.length<=4096)(h1:∀ k∈st,k∈W.stay)(h2:∀ k∈st,k∈r'.map (·.1)):Q46 f m M' r' { W with stay:=st }:=
 ⟨P.q.c0,P.q.c1,fun _=>h2,fun h k hk hp=>P.q.tl h k (h1 k hk) hp,fun hs hc hp he=>by
  have e:=P.el hs hc;have z:=P.q.ai hs hc P.pl e;have hp:W.pl=szM M':=hp;rw[← wI e he b b' (P.pl.symm.trans hp)];exact z⟩
structure X46(pc:Nat)(M:MT)(tc:Int):Prop where
 p1:1<=pc
 t:tc<=3*(pc:Int)+2
 ok:3<=pc->OkS pc false (cnt M) (shp M)
theorem X46.zero(h:1<=pc):X46 pc M0 0:=⟨h,by omega,fun h3=>by
 show OkS pc false 0 (none,0,4);exact⟨rfl,by decide,fun z=>by cases z⟩⟩
theorem X46.deed{n:Nat}{tc:Int}{d:cK}(X:X46 pc M tc)(g:Lg n f m pc M tc)(hn:n < 4000):X46 pc (bM f m pc M d) (tch f m pc M (bF d):Nat):=by
 have h3:=vE (pc:=pc) (k:=bF d) g.T g.R;have h1:=kN (pc:=pc) g.T d;have h2:=g.le;refine⟨X.p1,by omega,fun h=>?_⟩
 rw[kO g.T d];refine OkS.deed (X.ok h) g.T.sz X.p1 h1 (by omega) (.inl h) fun z=>by cases z
theorem X46.late{tc:Int}(X:X46 pc M tc)(h:3<=pc):cnt M<=M.nw.length+1:=OkS.late X.p1 (X.ok h)
end
theorem vQ{X:Cx}(hu:X.A.units < cLine):OpR X (compareOp .NotEq) (fun x y H Q=>∃ a b kv,x=.ref a/\y=.ref b/\H a=some (.dK kv)/\H b=some (.dK [])/\Q (.bl (!kv.isEmpty)) H):=by
 intro pins s U H x y v u Q I rx ry h;obtain⟨a,b,kv,rfl,rfl,ha,hb,q⟩:=h;cases rx;cases ry;obtain⟨_,sa,va,ra,da⟩:=kW I.hok ha;obtain⟨_,sb,vb,rb,db⟩:=kW I.hok hb;have eb:vb=[]:=by cases rb;rfl
 subst eb;cases ra with
 | nil=>exact W.keq_ne (r:=true) sa sb da db hu (fun _=>.nil) ⟨.bl false,H,I,rfl,q⟩
 | cons r t=>exact W.keq_ne (r:=true) sa sb da db hu (fun e=>by simp at e) ⟨.bl true,H,I,rfl,q⟩
theorem B.glstK(K:W.Frag){X:Cx}{pos:Pos}{es:List Expr}{kk n:Nat}{u:TGs}(h:Bx (PGs X es u))(hK:X.K=K:=by rfl)(hc:X.calm=true:=by rfl)(hn:(assignEach es X.env).length=n:=by rfl)(hst:(assignEach es X.env).findIdx? (·.1)=none:=by rfl):Bx (PG X (.Tuple es kk pos) (yi K n u)):=by
 subst hK;exact⟨vA hc h.out hn hst⟩
theorem B.mK(K:W.Frag){X:Cx}{o e:Expr}{es:List Expr}{to:TE}{t:TA}{T name id:_}{r:V->List V->Hp->VK->Prop}{apos cpos:Pos}(pa:PlainAttrs T)(slot:Slot T name id)(hty:typeOf (.builtin id)=pure (.type "method_descriptor"))(hm:MtR X id r)(ho:Bx (PE X o to))(ha:Bx (PA X (e::es) t))(hK:X.K=K:=by rfl)
 (hbase:attributeBase o name X.env (eval o X.env)=eval o X.env:=by rfl) (hl:decide ((e::es).length+([]:List Keyword).length+(if([]:List Keyword).isEmpty then 0 else 1) < 30)=true:=by rfl)
 (hline:(apos.endLine == cpos.line)=true:=by rfl) (h1:aW e=true:=by rfl) (h2:es.all aW=true:=by rfl) :
 Bx (PE X (.Call (.Attribute o name apos) (e::es) [] cpos) (tBM K T r to t)):=by
 subst hK;exact⟨AB pa slot hty hm ho.out ha.out hbase hl hline h1 h2⟩
def wkv(c:Int)(sl el:Addr)(st:Bool)(pl:PySem.Str)(mn:Int):List (Key×V):=[(Sum.inr "cursor",.int c),(Sum.inr "stay",.ref sl),(Sum.inr "seen",.ref el),(Sum.inr "still",.bl st),(Sum.inr "places",.str pl),(Sum.inr "many",.int mn)]
section
variable{c:Int}{sl el:Addr}{st:Bool}{pl:PySem.Str}{mn:Int}
theorem fU:bO (wkv c sl el st pl mn) (Sum.inr "cursor")=some (.int c):=by kernel_rfl
theorem jD:bO (wkv c sl el st pl mn) (Sum.inr "stay")=some (.ref sl):=by kernel_rfl
theorem jU:bO (wkv c sl el st pl mn) (Sum.inr "seen")=some (.ref el):=by kernel_rfl
theorem kU:bO (wkv c sl el st pl mn) (Sum.inr "still")=some (.bl st):=by kernel_rfl
theorem pG:bO (wkv c sl el st pl mn) (Sum.inr "places")=some (.str pl):=by kernel_rfl
theorem j5:bO (wkv c sl el st pl mn) (Sum.inr "many")=some (.int mn):=by kernel_rfl
theorem nU{x:Int}:cP (wkv c sl el st pl mn) (Sum.inr "cursor") (.int x)=wkv x sl el st pl mn:=by kernel_rfl
theorem kZ{x:Addr}:cP (wkv c sl el st pl mn) (Sum.inr "stay") (.ref x)=wkv c x el st pl mn:=by kernel_rfl
theorem lg{x:Addr}:cP (wkv c sl el st pl mn) (Sum.inr "seen") (.ref x)=wkv c sl x st pl mn:=by kernel_rfl
theorem d8{x:Bool}:cP (wkv c sl el st pl mn) (Sum.inr "still") (.bl x)=wkv c sl el x pl mn:=by kernel_rfl
theorem nr{x:PySem.Str}:cP (wkv c sl el st pl mn) (Sum.inr "places") (.str x)=wkv c sl el st x mn:=by kernel_rfl
theorem rf{x:Int}:cP (wkv c sl el st pl mn) (Sum.inr "many") (.int x)=wkv c sl el st pl x:=by kernel_rfl
theorem rc:gn [] (wkv c sl el st pl mn)=wkv c sl el st pl mn:=by kernel_rfl
theorem cv:(wkv c sl el st pl mn).length < sizeLine:=by show(6:Nat) < sizeLine;decide
end
end SW
namespace K
open PySem PySem.Spec PyProof.Rows L2 SW
end K
namespace SW
open PySem PySem.Spec PyProof.Rows L2
theorem wVarA{U:L2.St}{H:Hp}{Q:VK}{v:V}{i:Nat}(h:Q v H)(e:U[i]?=some (some v):=by with_unfolding_all exact rfl):d_ i U H Q:=⟨v,e,h⟩
theorem wModA{H:Hp}{Q:VK}{g:Int->Int->V}{i j:Int}(h:Q (g i j) H)(c:0 < j:=by with_unfolding_all omega):rI (fun _ j=>0 < j) g (.int i) (.int j) H Q:=Cz c h
theorem wDivLA{H:Hp}{Q:VK}{g:Int->Int->V}{i j:Int}(h:Q (g i j) H)(c:0 < j/\j < 18446744073709551616:=by with_unfolding_all omega):rI tL g (.int i) (.int j) H Q:=Cp c h
theorem wMulA{H:Hp}{Q:VK}{g:Int->Int->V}{i j:Int}(h:Q (g i j) H)(c:(-18446744073709551616 < i/\i < 18446744073709551616)∨(-18446744073709551616 < j/\j < 18446744073709551616):=by with_unfolding_all omega):rI tQ g (.int i) (.int j) H Q:=Dr c h
theorem wShrA{H:Hp}{Q:VK}{g:Int->Int->V}{i j:Int}(h:Q (g i j) H)(c:0<=j:=by with_unfolding_all omega):rI (fun _ j=>0<=j) g (.int i) (.int j) H Q:=CU c h
theorem wPowA{H:Hp}{Q:VK}{g:Int->Int->V}{i j:Int}(h:Q (g i j) H)(c:0<=j/\j<=1000000/\i.natAbs < 2 ^ 64:=by with_unfolding_all decide):rI zC g (.int i) (.int j) H Q:=CI c h
theorem wIxLA{K:W.Frag}{H:Hp}{Q:VK}{v:V}{p:Addr}{xs:List V}{i:Int}(h:Q v H)(e:H p=some (.lst xs):=by first | with_reducible assumption | exact aa)(a:atI xs i=some v:=by with_unfolding_all exact rfl):gm K (.ref p) (.int i) H Q:=fK e a h
theorem wIxTA{K:W.Frag}{H:Hp}{Q:VK}{v:V}{p:Addr}{xs:List V}{i:Int}(h:Q v H)(e:H p=some (.tup xs):=by first | with_reducible assumption | exact aa)(a:atI xs i=some v:=by with_unfolding_all exact rfl):eY K (.ref p) (.int i) H Q:=Dx e a h
theorem wSetLA{H:Hp}{v:V}{p:Addr}{xs:List V}{i:Int}{j:Nat}{Q:Hp->Prop}(h:Q (upd H p (.lst (xs.set j v))))(e:H p=some (.lst xs):=by first | with_reducible assumption | exact aa)(hj:ixN xs.length i=some j:=by with_unfolding_all exact rfl):c7 (.ref p) (.int i) v H Q:=xL e hj h
theorem wGoA{N N':L2.St->Hp->Prop}{U:L2.St}{H:Hp}(h:N' U H)(e:N=N':=by with_reducible assumption):N U H:=wGo e h
end SW
namespace K
noncomputable section
open PySem PySem.Spec PyProof.Rows L2 SW
local macro_rules | `(tactic| walk_at "W0")=>do
 let h ← `(?_)
 let l ← `(fun _ _=>?_)
 let t ← ("wCons wNil wVarA".splitOn " ").foldrM (fun r t=>do
  let b ← `(tactic| with_reducible refine $(Lean.mkIdent (Lean.Name.mkStr `SW r)) $(if r == "wSeqC" || r == "wCut" then l else h))
  if r == "wIxLA" then `(tactic| first | (with_reducible show gm _ (V.ref _) (V.int _) _ _;$b:tactic) | $t:tactic)else if r == "wIxTA" then `(tactic| first | (with_reducible show eY _ (V.ref _) (V.int _) _ _;$b:tactic) | $t:tactic)else if r == "wSetLA" then `(tactic| first | (with_reducible show c7 (V.ref _) (V.int _) _ _ _;$b:tactic) | $t:tactic)else `(tactic| first | $b:tactic | $t:tactic)) (← `(tactic| fail))
 `(tactic| repeat $t:tactic)
local macro_rules | `(tactic| walk_at "W1")=>do
 let h ← `(?_)
 let l ← `(fun _ _=>?_)
 let t ← ("wC wName wGoA".splitOn " ").foldrM (fun r t=>do
  let b ← `(tactic| with_reducible refine $(Lean.mkIdent (Lean.Name.mkStr `SW r)) $(if r == "wSeqC" || r == "wCut" then l else h))
  if r == "wIxLA" then `(tactic| first | (with_reducible show gm _ (V.ref _) (V.int _) _ _;$b:tactic) | $t:tactic)else if r == "wIxTA" then `(tactic| first | (with_reducible show eY _ (V.ref _) (V.int _) _ _;$b:tactic) | $t:tactic)else if r == "wSetLA" then `(tactic| first | (with_reducible show c7 (V.ref _) (V.int _) _ _ _;$b:tactic) | $t:tactic)else `(tactic| first | $b:tactic | $t:tactic)) (← `(tactic| fail))
 `(tactic| repeat $t:tactic)
local macro_rules | `(tactic| walk_at "W2")=>do
 let h ← `(?_)
 let l ← `(fun _ _=>?_)
 let t ← ("wSeqC wCut wAsg wName wOp wC wVarA wIfS wTest wB wBl wNot wNil wCons wTup wCall wCB wRet wDrop wNext wOr wComp wRng1 wSl wNoPart wPart wFor wIList wLst wI0 wUn wU wAnd wAndV wNotV wPowA wGoA".splitOn " ").foldrM (fun r t=>do
  let b ← `(tactic| with_reducible refine $(Lean.mkIdent (Lean.Name.mkStr `SW r)) $(if r == "wSeqC" || r == "wCut" then l else h))
  if r == "wIxLA" then `(tactic| first | (with_reducible show gm _ (V.ref _) (V.int _) _ _;$b:tactic) | $t:tactic)else if r == "wIxTA" then `(tactic| first | (with_reducible show eY _ (V.ref _) (V.int _) _ _;$b:tactic) | $t:tactic)else if r == "wSetLA" then `(tactic| first | (with_reducible show c7 (V.ref _) (V.int _) _ _ _;$b:tactic) | $t:tactic)else `(tactic| first | $b:tactic | $t:tactic)) (← `(tactic| fail))
 `(tactic| repeat $t:tactic)
local macro_rules | `(tactic| walk_at "S")=>do
 let h ← `(?_)
 let l ← `(fun _ _=>?_)
 let t ← ("wCompN wDGet wDNotIn wPairs wPairs0 wGoA".splitOn " ").foldrM (fun r t=>do
  let b ← `(tactic| with_reducible refine $(Lean.mkIdent (Lean.Name.mkStr `SW r)) $(if r == "wSeqC" || r == "wCut" then l else h))
  if r == "wIxLA" then `(tactic| first | (with_reducible show gm _ (V.ref _) (V.int _) _ _;$b:tactic) | $t:tactic)else if r == "wIxTA" then `(tactic| first | (with_reducible show eY _ (V.ref _) (V.int _) _ _;$b:tactic) | $t:tactic)else if r == "wSetLA" then `(tactic| first | (with_reducible show c7 (V.ref _) (V.int _) _ _ _;$b:tactic) | $t:tactic)else `(tactic| first | $b:tactic | $t:tactic)) (← `(tactic| fail))
 return t
local macro_rules | `(tactic| walk_at "S")=>do
 let h ← `(?_)
 let l ← `(fun _ _=>?_)
 let t ← ("wCompSet wSl wNoPart wPart wITup wDPop1 wDIn wU".splitOn " ").foldrM (fun r t=>do
  let b ← `(tactic| with_reducible refine $(Lean.mkIdent (Lean.Name.mkStr `SW r)) $(if r == "wSeqC" || r == "wCut" then l else h))
  if r == "wIxLA" then `(tactic| first | (with_reducible show gm _ (V.ref _) (V.int _) _ _;$b:tactic) | $t:tactic)else if r == "wIxTA" then `(tactic| first | (with_reducible show eY _ (V.ref _) (V.int _) _ _;$b:tactic) | $t:tactic)else if r == "wSetLA" then `(tactic| first | (with_reducible show c7 (V.ref _) (V.int _) _ _ _;$b:tactic) | $t:tactic)else `(tactic| first | $b:tactic | $t:tactic)) (← `(tactic| fail))
 return t
local macro_rules | `(tactic| walk_at "S")=>do
 let h ← `(?_)
 let l ← `(fun _ _=>?_)
 let t ← ("wMeth wMake wIf wDGet1 wDPop2 wItems wDPut wFAug".splitOn " ").foldrM (fun r t=>do
  let b ← `(tactic| with_reducible refine $(Lean.mkIdent (Lean.Name.mkStr `SW r)) $(if r == "wSeqC" || r == "wCut" then l else h))
  if r == "wIxLA" then `(tactic| first | (with_reducible show gm _ (V.ref _) (V.int _) _ _;$b:tactic) | $t:tactic)else if r == "wIxTA" then `(tactic| first | (with_reducible show eY _ (V.ref _) (V.int _) _ _;$b:tactic) | $t:tactic)else if r == "wSetLA" then `(tactic| first | (with_reducible show c7 (V.ref _) (V.int _) _ _ _;$b:tactic) | $t:tactic)else `(tactic| first | $b:tactic | $t:tactic)) (← `(tactic| fail))
 return t
local macro_rules | `(tactic| walk_at "S")=>do
 let h ← `(?_)
 let l ← `(fun _ _=>?_)
 let t ← ("wAnd wOr wChain wComp wInt1 wUn wFld wSFld".splitOn " ").foldrM (fun r t=>do
  let b ← `(tactic| with_reducible refine $(Lean.mkIdent (Lean.Name.mkStr `SW r)) $(if r == "wSeqC" || r == "wCut" then l else h))
  if r == "wIxLA" then `(tactic| first | (with_reducible show gm _ (V.ref _) (V.int _) _ _;$b:tactic) | $t:tactic)else if r == "wIxTA" then `(tactic| first | (with_reducible show eY _ (V.ref _) (V.int _) _ _;$b:tactic) | $t:tactic)else if r == "wSetLA" then `(tactic| first | (with_reducible show c7 (V.ref _) (V.int _) _ _ _;$b:tactic) | $t:tactic)else `(tactic| first | $b:tactic | $t:tactic)) (← `(tactic| fail))
 return t
local macro_rules | `(tactic| walk_at "S")=>do
 let h ← `(?_)
 let l ← `(fun _ _=>?_)
 let t ← ("wCB wRet wRetN wDrop wNext wFor wIList wRng1".splitOn " ").foldrM (fun r t=>do
  let b ← `(tactic| with_reducible refine $(Lean.mkIdent (Lean.Name.mkStr `SW r)) $(if r == "wSeqC" || r == "wCut" then l else h))
  if r == "wIxLA" then `(tactic| first | (with_reducible show gm _ (V.ref _) (V.int _) _ _;$b:tactic) | $t:tactic)else if r == "wIxTA" then `(tactic| first | (with_reducible show eY _ (V.ref _) (V.int _) _ _;$b:tactic) | $t:tactic)else if r == "wSetLA" then `(tactic| first | (with_reducible show c7 (V.ref _) (V.int _) _ _ _;$b:tactic) | $t:tactic)else `(tactic| first | $b:tactic | $t:tactic)) (← `(tactic| fail))
 return t
local macro_rules | `(tactic| walk_at "S")=>do
 let h ← `(?_)
 let l ← `(fun _ _=>?_)
 let t ← ("wIxTA wSub wSetLA wNil wCons wLst wTup wCall".splitOn " ").foldrM (fun r t=>do
  let b ← `(tactic| with_reducible refine $(Lean.mkIdent (Lean.Name.mkStr `SW r)) $(if r == "wSeqC" || r == "wCut" then l else h))
  if r == "wIxLA" then `(tactic| first | (with_reducible show gm _ (V.ref _) (V.int _) _ _;$b:tactic) | $t:tactic)else if r == "wIxTA" then `(tactic| first | (with_reducible show eY _ (V.ref _) (V.int _) _ _;$b:tactic) | $t:tactic)else if r == "wSetLA" then `(tactic| first | (with_reducible show c7 (V.ref _) (V.int _) _ _ _;$b:tactic) | $t:tactic)else `(tactic| first | $b:tactic | $t:tactic)) (← `(tactic| fail))
 return t
local macro_rules | `(tactic| walk_at "S")=>do
 let h ← `(?_)
 let l ← `(fun _ _=>?_)
 let t ← ("wTest wB wNot wNotV wAndV wOrV wBl wIxLA".splitOn " ").foldrM (fun r t=>do
  let b ← `(tactic| with_reducible refine $(Lean.mkIdent (Lean.Name.mkStr `SW r)) $(if r == "wSeqC" || r == "wCut" then l else h))
  if r == "wIxLA" then `(tactic| first | (with_reducible show gm _ (V.ref _) (V.int _) _ _;$b:tactic) | $t:tactic)else if r == "wIxTA" then `(tactic| first | (with_reducible show eY _ (V.ref _) (V.int _) _ _;$b:tactic) | $t:tactic)else if r == "wSetLA" then `(tactic| first | (with_reducible show c7 (V.ref _) (V.int _) _ _ _;$b:tactic) | $t:tactic)else `(tactic| first | $b:tactic | $t:tactic)) (← `(tactic| fail))
 return t
local macro_rules | `(tactic| walk_at "S")=>do
 let h ← `(?_)
 let l ← `(fun _ _=>?_)
 let t ← ("wModA wDivLA wMulA wShrA wPowA wEqI wNeI wIfS".splitOn " ").foldrM (fun r t=>do
  let b ← `(tactic| with_reducible refine $(Lean.mkIdent (Lean.Name.mkStr `SW r)) $(if r == "wSeqC" || r == "wCut" then l else h))
  if r == "wIxLA" then `(tactic| first | (with_reducible show gm _ (V.ref _) (V.int _) _ _;$b:tactic) | $t:tactic)else if r == "wIxTA" then `(tactic| first | (with_reducible show eY _ (V.ref _) (V.int _) _ _;$b:tactic) | $t:tactic)else if r == "wSetLA" then `(tactic| first | (with_reducible show c7 (V.ref _) (V.int _) _ _ _;$b:tactic) | $t:tactic)else `(tactic| first | $b:tactic | $t:tactic)) (← `(tactic| fail))
 return t
local macro_rules | `(tactic| walk_at "S")=>do
 let h ← `(?_)
 let l ← `(fun _ _=>?_)
 let t ← ("wSeqC wCut wAsg wName wOp wC wVarA wI0".splitOn " ").foldrM (fun r t=>do
  let b ← `(tactic| with_reducible refine $(Lean.mkIdent (Lean.Name.mkStr `SW r)) $(if r == "wSeqC" || r == "wCut" then l else h))
  if r == "wIxLA" then `(tactic| first | (with_reducible show gm _ (V.ref _) (V.int _) _ _;$b:tactic) | $t:tactic)else if r == "wIxTA" then `(tactic| first | (with_reducible show eY _ (V.ref _) (V.int _) _ _;$b:tactic) | $t:tactic)else if r == "wSetLA" then `(tactic| first | (with_reducible show c7 (V.ref _) (V.int _) _ _ _;$b:tactic) | $t:tactic)else `(tactic| first | $b:tactic | $t:tactic)) (← `(tactic| fail))
 return t
local macro_rules | `(tactic| walk_at "W")=>`(tactic| repeat walk_at "S")
def top(i:Nat):Stmt:=PySem.Challenge.pw_slowshift_k46_whole_by_the_desk.main.body.getD i (.Pass ⟨0,0,0,0⟩)
abbrev Ag:Stmt:=(top 1)
theorem Dj:am ["table","deed"] ["table","deed"] (ae Ag):=SW.fs
abbrev zG:Stmt:=(top 13)
theorem BS:am ["thing"] ["thing"] (ae zG):=SW.fs
abbrev zL:Stmt:=(top 14)
theorem Cc:am ["thing"] ["thing"] (ae zL):=SW.fs
abbrev yN:Stmt:=(top 15)
theorem C_:am ["thing"] ["thing"] (ae yN):=SW.fs
abbrev zh:Stmt:=(top 16)
theorem Cj:am ["thing"] ["thing"] (ae zh):=SW.fs
abbrev ze:Stmt:=(top 17)
theorem A0:am ["thing"] ["thing"] (ae ze):=SW.fs
abbrev yz:Stmt:=(top 18)
theorem Ck:am ["thing"] ["thing"] (ae yz):=SW.fs
abbrev Ac:Stmt:=(top 19)
theorem BW:am ["thing"] ["thing"] (ae Ac):=SW.fs
abbrev yc:Stmt:=(top 23)
theorem A9:am ["key","mixer"] ["key","mixer"] (ae yc):=SW.fs
abbrev Aj:Stmt:=(top 24)
theorem AI:am ["mark","size"] ["mark","size"] (ae Aj):=SW.fs
abbrev zb:Stmt:=(top 25)
theorem qC:am ["mark","point","bit"] ["mark"] (ae zb):=SW.fs
abbrev yC:Stmt:=(top 26)
theorem xB:am ["place","size","first"] ["place","size"] (ae yC):=SW.fs
abbrev z2_:Stmt:=(aM (top 28) 0)
theorem Dd:am ["self","size","mixer"] ["self","size","mixer"] (ae z2_):=SW.fs
abbrev z9_:Stmt:=(aM (top 28) 1)
theorem zg:am ["self","key","worth","row","before"] ["self","key","worth"] (ae z9_):=SW.fs
abbrev z4_:Stmt:=(aM (top 28) 2)
theorem BL:am ["self","key","worth"] ["self","key"] (ae z4_):=SW.fs
abbrev z6_:Stmt:=(aM (top 28) 3)
theorem C3:am ["self","key"] ["self","key"] (ae z6_):=SW.fs
abbrev z4:Stmt:=(aM (top 28) 4)
theorem Dh:am ["self","place"] ["self","place"] (ae z4):=SW.fs
abbrev z5_:Stmt:=(aM (top 28) 5)
theorem AV:am ["self","place","told"] ["self","place"] (ae z5_):=SW.fs
abbrev yD:Stmt:=(aM (top 28) 6)
theorem CW:am ["self"] ["self"] (ae yD):=SW.fs
abbrev z7_:Stmt:=(aM (top 28) 7)
theorem Dw:am ["self"] ["self"] (ae z7_):=SW.fs
abbrev z8_:Stmt:=(aM (top 28) 8)
theorem Dy:am ["self","key"] ["self","key"] (ae z8_):=SW.fs
abbrev yS:Stmt:=(aM (top 28) 9)
theorem Dq:am ["self","key"] ["self","key"] (ae yS):=SW.fs
abbrev z3_:Stmt:=(aM (top 28) 10)
theorem Du:am ["self","place"] ["self","place"] (ae z3_):=SW.fs
abbrev yF:Stmt:=(aM (top 31) 0)
theorem Bq:am ["self","mixer","pace","state","laid"] ["self","mixer","pace","state"] (ae yF):=SW.fs
abbrev zT:Stmt:=(aM (top 31) 1)
theorem AR:am ["self","key","worth","told"] ["self","key","worth"] (ae zT):=SW.fs
abbrev yL:Stmt:=(aM (top 31) 2)
theorem AD:am ["self","key","told"] ["self","key"] (ae yL):=SW.fs
abbrev yj:Stmt:=(aM (top 31) 3)
theorem Bg:am ["self","key","told"] ["self","key"] (ae yj):=SW.fs
abbrev C6:Stmt:=(aM (top 31) 4)
theorem DH:am ["self","elder"] ["self"] (ae C6):=SW.fs
abbrev ym:Stmt:=(aM (top 31) 5)
theorem CG:am ["self"] ["self"] (ae ym):=SW.fs
abbrev x_:Stmt:=(aM (top 31) 6)
theorem CM:am ["self"] ["self"] (ae x_):=SW.fs
abbrev zS:Stmt:=(aM (top 31) 7)
theorem CB:am ["self"] ["self"] (ae zS):=SW.fs
abbrev zu:Stmt:=(aM (top 31) 8)
theorem CV:am ["self"] ["self"] (ae zu):=SW.fs
abbrev xX:Stmt:=(aM (top 31) 9)
theorem tu:am ["self","key","due","reached","place","asked_elder"] ["self","key"] (ae xX):=SW.fs
abbrev zx:Stmt:=(aM (top 31) 10)
theorem Dg:am ["self"] ["self"] (ae zx):=SW.fs
abbrev yM:Stmt:=(aM (top 31) 11)
theorem we:am ["self","place","pairs","key","worth"] ["self","place"] (ae yM):=SW.fs
abbrev Ar:Stmt:=(aM (top 31) 12)
theorem CK:am ["self"] ["self"] (ae Ar):=SW.fs
abbrev Ae:Stmt:=(aM (top 31) 13)
theorem C7:am ["self","key"] ["self","key"] (ae Ae):=SW.fs
abbrev Ai:Stmt:=(aM (top 31) 14)
theorem Ct:am ["self","key"] ["self","key"] (ae Ai):=SW.fs
abbrev yW:Stmt:=(aM (top 31) 15)
theorem BP:am ["self","size"] ["self"] (ae yW):=SW.fs
abbrev zJ:Stmt:=(aM (top 31) 16)
theorem AN:am ["self","size"] ["self"] (ae zJ):=SW.fs
abbrev yZ:Stmt:=(top 32)
theorem nJ:am ["rows","mixer","shelf","row","key","worth"] ["rows","mixer"] (ae yZ):=SW.fs
abbrev CF:Stmt:=(top 33)
theorem DG:am ["shelf"] ["shelf"] (ae CF):=SW.fs
abbrev uG:Stmt:=(top 35)
theorem jJ:am ["table","cursor","shelves","size","place","pairs","greater","part"] ["table","cursor"] (ae uG):=SW.fs
abbrev yt:Stmt:=(top 36)
theorem Bu:am ["cursor","size"] ["cursor","size"] (ae yt):=SW.fs
abbrev Ab:Stmt:=(top 37)
theorem AU:am ["place","size","cursor"] ["place","size","cursor"] (ae Ab):=SW.fs
abbrev y8:Stmt:=(top 38)
theorem Bs:am ["place","size"] ["place","size"] (ae y8):=SW.fs
abbrev z0_:Stmt:=(aM (top 42) 0)
theorem CZ:am ["self"] ["self"] (ae z0_):=SW.fs
abbrev z1_:Stmt:=(aM (top 42) 1)
theorem zV:am ["self","row","words","numbers"] ["self","row"] (ae z1_):=SW.fs
abbrev zj:Stmt:=(top 43)
theorem xO:am ["word","figures"] ["word"] (ae zj):=SW.fs
abbrev Af:Stmt:=(top 44)
theorem CQ:am ["text"] ["text"] (ae Af):=SW.fs
abbrev yH:Stmt:=(top 45)
theorem Cm:am ["word","numbers"] ["word","numbers"] (ae yH):=SW.fs
abbrev yg:Stmt:=(top 46)
theorem Dp:am ["table","word","numbers"] ["table","word","numbers"] (ae yg):=SW.fs
abbrev yY:Stmt:=(top 47)
theorem Bp:am ["sizes"] ["sizes"] (ae yY):=SW.fs
abbrev zK:Stmt:=(top 48)
theorem Cf:am ["told"] ["told"] (ae zK):=SW.fs
abbrev x9:Stmt:=(top 49)
theorem Br:am ["worth"] ["worth"] (ae x9):=SW.fs
abbrev yA:Stmt:=(top 51)
theorem A5:am ["script","k"] ["script","k"] (ae yA):=SW.fs
abbrev zR:Stmt:=(top 52)
theorem B_:am ["cell"] ["cell"] (ae zR):=SW.fs
abbrev yu:Stmt:=(top 53)
theorem xR:am ["row","many","told"] ["row","many"] (ae yu):=SW.fs
abbrev zX:Stmt:=(top 54)
theorem xJ:am ["row","some"] ["row"] (ae zX):=SW.fs
abbrev y3:Stmt:=(top 55)
theorem xH:am ["row","model","many","some"] ["row","model","many"] (ae y3):=SW.fs
abbrev zA:Stmt:=(top 56)
theorem vg:am ["way","key","worth","model","due"] ["way","key","worth","model"] (ae zA):=SW.fs
abbrev zO:Stmt:=(top 57)
theorem B4:am ["walk","model"] ["walk","model"] (ae zO):=SW.fs
abbrev x6:Stmt:=(top 58)
theorem im:am ["desk","model","walk","words","pairs","key","worth","keys","behind","again"] ["desk","model","walk"] (ae x6):=SW.fs
abbrev yy:Stmt:=(top 59)
theorem xV:am ["desk","model","pace","walk","places"] ["desk","model","pace","walk"] (ae yy):=SW.fs
abbrev zk:Stmt:=(top 60)
theorem iz:am ["row","desk","model","pace","walk","steady","k","way","key","worth","text"] ["row","desk","model","pace","walk"] (ae zk):=SW.fs
abbrev qR:Stmt:=(top 61)
theorem iA:am ["script","row","mixer","pace","desk","model","walk","cell"] ["script"] (ae qR):=SW.fs
structure Gs(K:W.Frag)(mg:Str->Option Value)(C CT CD cS PS:Addr):Prop where
 c_MARK_BITS:∃ t,mg "MARK_BITS"=some (.int 16 t)
 c_MARKS:∃ t,mg "MARKS"=some (.int 65536 t)
 c_SIZES:∃ a,mg "SIZES"=some (.ref a) /\ ∀ H,SqT K H a [.int 4,.int 8,.int 16,.int 32,.int 64,.int 128,.int 256,.int 512,.int 1024,.int 2048,.int 4096]
 c_EMPTY:∃ a b,mg "EMPTY"=some (.ref a)/\(∀ H,SqT K H a [.non,.int 0,.ref b]) /\ ∀ H,iu K H b [[],[],[],[]]
 cl_Shelf:Cls K C
 n_Shelf_mixer:bz K C "mixer"
 n_Shelf_rows:bz K C "rows"
 n_Shelf_held:bz K C "held"
 cl_Table:Cls K CT
 n_Table_mixer:bz K CT "mixer"
 n_Table_pace:bz K CT "pace"
 n_Table_elder:bz K CT "elder"
 n_Table_moved:bz K CT "moved"
 n_Table_newer:bz K CT "newer"
 n_Table_touches:bz K CT "touches"
 cl_Desk:Cls K CD
 n_Desk_table:bz K CD "table"
 b_int:mg "int"=none
 b_bool:mg "bool"=none
 b_isinstance:mg "isinstance"=none
 b_range:mg "range"=none
 b_len:mg "len"=none
 b_list:mg "list"=none
 b_tuple:mg "tuple"=none
 b_sum:mg "sum"=none
 b_min:mg "min"=none
 b_max:mg "max"=none
 b_set:mg "set"=none
 b_str:mg "str"=none
 b_sorted:mg "sorted"=none
 b_all:mg "all"=none
 c_GREATEST:∃ t,mg "GREATEST"=some (.int 1000000000 t)
 c_LAST_POINT:∃ t,mg "LAST_POINT"=some (.int 65535 t)
 c_GREATEST_MIXER_PART:∃ t,mg "GREATEST_MIXER_PART"=some (.int 65535 t)
 c_GREATEST_PACE:∃ t,mg "GREATEST_PACE"=some (.int 8 t)
 c_FIGURES:∃ t,mg "FIGURES"=some (.str "0123456789" t)
 c_MOST_FIGURES:∃ t,mg "MOST_FIGURES"=some (.int 10 t)
 lam:sH K mg cS PS
theorem ot{A:Around}{k:Nat}(hr:bp k A):A.units < cLine:=Nat.lt_of_le_of_lt (Nat.le_add_right _ 1) (bj hr)
section
variable{P:Program}{w:World}{K:W.Frag}{mg:Str->Option Value}{base:Heap}{C CT CD cS PS:Addr}
theorem CA(d:Dfn K mg "mark_of" yc ["key","mixer"])(g:Gs K mg C CT CD cS PS):Fn P w K mg base "mark_of" 1 ["key","mixer"] o7:=by
 refine d.fn A9 (fun vs H Q E h=>?_) (fun f cdv A outer s H vs Q E hr h=>?_)
 . obtain⟨k,t,f,m,rfl,_⟩:=h
   rfl
 obtain⟨k,t,f,m,rfl,ht,hf,q⟩:=h;refine⟨_,(B.sone (B.ret (B.op dH (B.op bX (B.op eB (B.v 0) (B.ix bJ (B.v 1) B.int)) (B.ix bJ (B.v 1) B.int)) (B.gint g.c_MARKS)))),?_⟩;walk_at "W";exact q
theorem C1(d:Dfn K mg "place_of" Aj ["mark","size"]):Fn P w K mg base "place_of" 1 ["mark","size"] iL:=by
 refine d.fn AI (fun vs H Q E h=>?_) (fun f cdv A outer s H vs Q E hr h=>?_)
 . obtain⟨k,t,rfl,_⟩:=h
   rfl
 obtain⟨m,z,rfl,hz,q⟩:=h;refine⟨_,(B.sone (B.ret (B.op dH (B.v 0) (B.v 1)))),?_⟩;walk_at "W";exact q
theorem C8(d:Dfn K mg "point_of" zb ["mark"])(g:Gs K mg C CT CD cS PS):Fn P w K mg base "point_of" 1 ["mark"] iV:=by
 refine d.fn qC (fun vs H Q E h=>?_) (fun f cdv A outer s H vs Q E hr h=>?_)
 . obtain⟨k,rfl,_⟩:=h
   rfl
 obtain⟨m,rfl,q⟩:=h;refine⟨_,(B.scons (B.set 1 qC.nd B.int)
  (B.scons (B.fors (B.irange g.b_range (B.cons (B.gint g.c_MARK_BITS) B.nil)) (B.gname (i:=2) qC.nd) (B.sone (B.set 1 qC.nd (B.op bX (B.op eB (B.v 1) B.int) (B.op dH (B.op zU (B.v 0) (B.v 2)) B.int)))))
  (B.sone (B.ret (B.v 1))))),?_⟩
 walk_at "W";refine⟨16,rfl,by decide,by decide,lI (n:=16) (fun i U H'=>∃ v,U=[some (.int m),some (.int (pt m i)),v]/\H'=H) ⟨none,rfl,rfl⟩ ?_ ?_⟩
 . rintro i U H' hi ⟨v,rfl,rfl⟩
   have e:(0+(i:Int)).toNat=i:=by omega
   walk_at "W";exact⟨_,by rw[e];rfl,rfl⟩
 rintro U H' ⟨v,rfl,rfl⟩;walk_at "W";exact q
theorem Cu(d:Dfn K mg "stretch_of" yC ["place","size"])(g:Gs K mg C CT CD cS PS)(q45_:Fn P w K mg base "point_of" 1 ["mark"] iV):Fn P w K mg base "stretch_of" 2 ["place","size"] fE:=by
 refine d.fn xB (fun vs H Q E h=>?_) (fun f cdv A outer s H vs Q E hr h=>?_)
 . obtain⟨p,z,rfl,_⟩:=h
   rfl
 obtain⟨p,z,rfl,hz,q⟩:=h;refine⟨_,(B.scons (B.set 2 xB.nd (B.fn q45_ hr.up (B.cons (B.v 0) B.nil)))
  (B.sone (B.ret (B.tup (B.cons (B.v 2) (B.cons (B.op lZ (B.op bX (B.v 2) (B.op eT (B.gint g.c_MARKS) (B.v 1))) B.int) B.nil)))))),?_⟩
 walk_at "W";refine uX ?_;walk_at "W";exact⟨by show(2:Nat)<=sizeLine;decide,fun t ht=>q t ht⟩
theorem Dt(d:Dfn K mg "is_whole" zG ["thing"])(g:Gs K mg C CT CD cS PS):Fn P w K mg base "is_whole" 1 ["thing"] dC:=by
 refine d.fn BS (fun vs H Q E h=>?_) (fun f cdv A outer s H vs Q E hr h=>?_)
 . obtain⟨n,rfl,_⟩:=h
   rfl
 obtain⟨n,rfl,q⟩:=h;refine⟨_,(B.sone (B.ret (B.and (B.cB SW.jq g.b_isinstance SW.b_isinstance (B.cons (B.v 0) (B.cons (B.ty g.b_int SW.b_int) B.nil))) (B.one (B.not (B.cB SW.jq g.b_isinstance SW.b_isinstance (B.cons (B.v 0) (B.cons (B.ty g.b_bool SW.b_bool) B.nil)))))))),?_⟩;walk_at "W";refine SW.yb (.int n) nv ?_;walk_at "W";refine bL ?_;walk_at "W";refine SW.yb (.int n) lU ?_;walk_at "W";exact q
theorem Do(d:Dfn K mg "is_size" zL ["thing"])(g:Gs K mg C CT CD cS PS)(q15_:Fn P w K mg base "is_whole" 1 ["thing"] dC):Fn P w K mg base "is_size" 2 ["thing"] mN:=by
 refine d.fn Cc (fun vs H Q E h=>?_) (fun f cdv A outer s H vs Q E hr h=>?_)
 . obtain⟨n,rfl,_⟩:=h
   rfl
 obtain⟨n,rfl,hn,q⟩:=h;obtain⟨aS,hS,tS⟩:=g.c_SIZES;refine⟨_,(B.sone (B.ret (B.and (B.fn q15_ hr.up (B.cons (B.v 0) B.nil)) (B.one (B.cmpI fD (B.v 0) (B.gref hS)))))),?_⟩;walk_at "W";refine⟨_,rfl,?_⟩;walk_at "W";refine bL ?_;walk_at "W";refine⟨aS,_,rfl,.inr (tS _),rfl,by decide,?_⟩
 rw[if_neg Bool.false_ne_true,wr hn];exact q
theorem C9(d:Dk K mg C "Shelf" "Shelf.__init__" z2_ ["self","size","mixer"])(g:Gs K mg C CT CD cS PS)(q13_:Fn P w K mg base "is_size" 2 ["thing"] mN):Mkr P w K mg base C "Shelf" 3 ["self","size","mixer"] (iH C):=by
 refine d.mk' Dd (fun vs H Q E h=>?_) (fun f cdv A outer s H vs Q E hr h=>?_)
 . obtain⟨x,t,dx,n,f,m,rfl,_⟩:=h
   rfl
 obtain⟨x,t,dx,n,f,m,rfl,hx,ht,bf,hn,q⟩:=h;have bn:=hn.bounds;refine⟨_,(B.scons (B.ifs (B.tnot (B.tval (B.fn q13_ hr.up (B.cons (B.v 1) B.nil)))) (B.sone B.never) B.snil)
  (B.scons (B.sfld (B.v 0) (B.v 2))
  (B.scons (B.sfld (B.v 0) (SW.B.comp [] ["place"] (SW.aC.of rfl rfl (by decide +kernel) (by decide +kernel) rfl trivial rfl rfl rfl) (by decide +kernel) (B.irange g.b_range (B.cons (B.v 1) B.nil)) (fun _ _ _ _=>B.dnew)))
  (B.sone (B.sfld (B.v 0) B.int))))),?_⟩
 walk_at "W";refine⟨n,rfl,hn,?_⟩;walk_at "W";refine bB ?_;walk_at "W";refine SW.dD hx g.cl_Shelf g.n_Shelf_mixer (by show 0 < 1000;decide) ?_
 walk_at "W";refine⟨n,rfl,by omega,by omega,fun D hD=>?_⟩
 have nxt:x≠t:=aR hx ht (by intro z;cases z)
 have hD0:H D=none:=by
  by_cases e:D=x
  . subst e;rw[aa]at hD;cases hD
  rw[af e]at hD;exact hD
 have nxD:x≠D:=ah hx hD0;refine oi (fun i U' H'=>∃(ds:List Addr) (v:Option V),U'=[v]/\ds.length=i/\H' D=some (.lst (ds.map V.ref))/\ds.Nodup/\(∀ y∈ds,H' y=some (.dK [])/\H y=none/\y≠D)/\H' x=some (.ins C dx (aX "mixer" (.ref t) [])) /\ ∀ b o,b≠x->H b=some o->H' b=some o)
  ?_ ?_ ?_
 . exact⟨[],none,rfl,rfl,aa,List.nodup_nil,fun y hy=>(List.not_mem_nil hy).elim,by rw[af nxD,aa],fun b o nb e=>by rw[af (ah e hD0),af nb];exact e⟩
 . rintro i U' H' hi ⟨ds,v,rfl,hl,h1,nd,h2,h3,h4⟩
   intro y hy;have nyD:D≠y:=ah h1 hy;have nin:y∉ds:=fun z=>by
    have:=(h2 y z).1;rw[hy]at this;cases this
   have hy0:H y=none:=by
    by_cases e:y=x
    . subst e;rw[h3]at hy;cases hy
    cases e2:H y with
    | none=>rfl
    | some o=>rw[h4 y o e e2]at hy;cases hy
   refine CN.mk hi (ys:=ds.map V.ref) (by rw[af nyD];exact h1) (by rw[List.length_map];exact Nat.lt_of_le_of_lt (show ds.length<=4096 by omega) (by decide)) ⟨ds++[y],_,rfl,by rw[List.length_append,hl];rfl,?_,ml nd nin,?_,?_,?_⟩
   . rw[aa,List.map_append];rfl
   . intro z hz
     rcases List.mem_append.mp hz with hz | hz
     . obtain⟨a1,a2,a3⟩:=h2 z hz
       refine⟨?_,a2,a3⟩;rw[af a3,af (fun e:z=y=>nin (e ▸ hz))];exact a1
     rw[List.mem_singleton.mp hz];exact⟨by rw[af nyD.symm,aa],hy0,nyD.symm⟩
   . rw[af nxD,af (ah h3 hy)];exact h3
   intro b o nb e;rw[af (ah e hD0),af (ah (h4 b o nb e) hy)];exact h4 b o nb e
 rintro U' H' ⟨ds,v,rfl,hl,h1,nd,h2,h3,h4⟩;walk_at "W";refine SW.dD h3 g.cl_Shelf g.n_Shelf_rows (by show 1 < 1000;decide) ?_
 walk_at "W";refine⟨x,C,dx,_,rfl,aa,g.cl_Shelf,g.n_Shelf_held,?_,?_⟩
 . have e1:=cL "rows" (V.ref D) (aX "mixer" (V.ref t) [])
   have e2:=cL "mixer" (V.ref t) [];have e3:([]:List (Str×V)).length=0:=rfl;omega
 have up:∀ b o o1 o2,b≠x->H' b=some o->upd (upd H' x o1) x o2 b=some o:=fun b o o1 o2 nb e=>by rw[af nb,af nb];exact e
 refine q _ (fun b=>b=x∨b=D∨b∈ds) ⟨t,D,ds,⟨⟨dx,?_⟩,up _ _ _ _ nxt.symm (h4 _ _ nxt.symm ht),bf,up _ _ _ _ nxD.symm h1,by rw[hl,List.length_replicate];rfl,nd,?_,?_,?_,?_⟩,fun b=>Iff.rfl⟩ ?_ ?_
 . rw[aa,jp,mq];rfl
 . intro i y r e1 e2
   have hm:=List.mem_of_getElem? e1;have er:r=[]:=List.eq_of_mem_replicate (List.mem_of_getElem? e2);subst er;obtain⟨a1,a2,a3⟩:=h2 y hm;exact up _ _ _ _ (fun e=>by rw[e,hx]at a2;cases a2) a1
 . intro r hr
   rw[List.eq_of_mem_replicate hr];exact List.nodup_nil
 . rw[List.length_replicate];omega
 . rw[List.length_replicate];omega
 . intro b hb
   rcases hb with rfl | rfl | hb
   . exact .inl rfl
   . exact .inr hD0
   exact .inr (h2 b hb).2.1
 intro b o nb e;exact up _ _ _ _ nb (h4 b o nb e)
theorem CL(d:Dm K C "place_with" "Shelf.place_with" z8_ ["self","key"])(g:Gs K mg C CT CD cS PS)(q31_:Fn P w K mg base "mark_of" 1 ["key","mixer"] o7)(q41_:Fn P w K mg base "place_of" 1 ["mark","size"] iL):Mt P w K mg base C "place_with" 2 ["self","key"] (dP C):=by
 refine d.mt Dy (fun vs H Q E h=>?_) (fun f cdv A outer s H vs Q E hr h=>?_)
 . obtain⟨p,k,f,m,R,F,rfl,_⟩:=h
   rfl
 obtain⟨p,k,f,m,R,F,rfl,⟨t,L,ds,X,hF⟩,q⟩:=h;obtain⟨dx,hp⟩:=X.ob;have hb:=X.pos;refine⟨_,(B.sone (B.ret (B.fn q41_ hr.up (B.cons (B.fn q31_ hr.up (B.cons (B.v 1) (B.cons (B.fld (B.v 0)) B.nil))) (B.cons (B.cB aP g.b_len SW.b_len (B.cons (B.fld (B.v 0)) B.nil)) B.nil))))),?_⟩;walk_at "W";refine SW.bA hp g.cl_Shelf g.n_Shelf_mixer (qE _ _ _) ?_;walk_at "W";refine BI X.mx X.bm ?_;walk_at "W";refine SW.bA hp g.cl_Shelf g.n_Shelf_rows (dQ _ _ _) ?_;walk_at "W";refine SW.eS (.inl (SqL.of X.rw)) ?_;walk_at "W";rw[List.length_map,X.len];refine uO (by omega) ?_
 rw[← mi hb];exact q
theorem BC(d:Dm K C "row_with" "Shelf.row_with" yS ["self","key"])(g:Gs K mg C CT CD cS PS)(q73_:Mt P w K mg base C "place_with" 2 ["self","key"] (dP C)):Mt P w K mg base C "row_with" 3 ["self","key"] (gK C):=by
 refine d.mt Dq (fun vs H Q E h=>?_) (fun f cdv A outer s H vs Q E hr h=>?_)
 . obtain⟨p,k,f,m,R,t,L,ds,rfl,_⟩:=h
   rfl
 obtain⟨p,k,f,m,R,t,L,ds,rfl,X,q⟩:=h;obtain⟨dx,hp⟩:=X.ob;have hb:=X.pos;have S:Sh C H p f m R (fun b=>b=p∨b=L∨b∈ds):=⟨t,L,ds,X,fun b=>Iff.rfl⟩;obtain⟨y,hy,_⟩:=X.place k;refine⟨_,(B.sone (B.ret (B.ix aG (B.fld (B.v 0)) (B.meth (B.v 0) g.cl_Shelf q73_ hr.up (B.cons (B.v 1) B.nil))))),?_⟩;walk_at "W";refine SW.bA hp g.cl_Shelf g.n_Shelf_rows (dQ _ _ _) ?_;walk_at "W";refine wS S ⟨by decide +kernel,by decide +kernel,by decide +kernel⟩ ?_
 walk_at "W";refine iM S ?_;refine fK X.rw (v:=.ref y) ?_ (q y hy);refine mJ ?_;rw[List.getElem?_map,hy]
 rfl
theorem B8(d:Dm K C "put" "Shelf.put" z9_ ["self","key","worth"])(g:Gs K mg C CT CD cS PS)(q76_:Mt P w K mg base C "row_with" 3 ["self","key"] (gK C)):Mt P w K mg base C "put" 4 ["self","key","worth"] (jt C):=by
 refine d.mt zg (fun vs H Q E h=>?_) (fun f cdv A outer s H vs Q E hr h=>?_)
 . obtain⟨p,k,v,f,m,R,F,rfl,_⟩:=h
   rfl
 obtain⟨p,k,v,f,m,R,F,rfl,S,hl,q⟩:=h;obtain⟨t,L,ds,X,hF⟩:=id S;obtain⟨dx,hp⟩:=X.ob;obtain⟨y,hy,hr0⟩:=X.place k;have npy:p≠y:=aR hp hr0 (by intro z;cases z)
 have Fp:F p:=(hF p).mpr (.inl rfl);have Fy:F y:=(hF y).mpr (.inr (.inr (List.mem_of_getElem? hy)));have hlen:(kvs (dn f m R k)).length < sizeLine:=by
  rw[dB];exact Nat.lt_of_le_of_lt (Nat.le_trans (ck R _) hl) (by decide)
 have hok:ROk (dO (dn f m R k) k v):=lN (X.ok _ (List.mem_of_getElem? (bu (cy X.pos))));have ht:=dS (f:=f) (m:=m) (k:=k) (v:=v) X.pos;refine⟨_,(B.scons (B.set 3 zg.nd (B.meth (B.v 0) g.cl_Shelf q76_ hr.up (B.cons (B.v 1) B.nil)))
  (B.scons (B.set 4 zg.nd (B.dget1 (bj hr) (B.v 3) (B.v 1) (m:=B.m1)))
  (B.scons (B.ifs (B.tcmp fh (B.v 4) B.non) (B.sone (B.faug sj (B.v 0) B.int)) B.snil)
  (B.scons (B.dput (bj hr) (B.v 3) (B.v 1) (B.v 2))
  (B.sone (B.ret (B.v 4))))))),?_⟩
 walk_at "W";refine wS S ⟨by decide +kernel,by decide +kernel,by decide +kernel⟩ ?_
 walk_at "W";refine SW.oG X fun y' hy'=>?_;obtain rfl:y=y':=Option.some.inj (hy.symm.trans hy');walk_at "W";refine⟨y,rfl,.inl ⟨_,.inl hr0⟩,?_⟩;walk_at "W";refine⟨_,cR.k (k:=Sum.inl k) hr0,?_⟩;rw[p6];walk_at "W";refine⟨rfl,?_⟩;walk_at "W";refine lR (fun hc=>?_) (fun hc=>?_)
 . have e:au f m R k=none:=by
    unfold au;cases e:ax (dn f m R k) k with
    | none=>rfl
    | some z=>rw[e]at hc;exact absurd (of_decide_eq_true hc) (by intro z;cases z)
   rw[e,if_pos rfl]at ht;walk_at "W";refine SW.bA hp g.cl_Shelf g.n_Shelf_held (gO _ _ _) ?_;walk_at "W";refine⟨_,_,rfl,rfl,dx,_,hp,by show 3 < 1000;decide,?_⟩
   rw[l6];walk_at "W";refine⟨y,_,rfl,ke.k (k:=Sum.inl k) (by rw[af npy.symm];exact hr0) hlen,?_⟩
   walk_at "W";rw[gH];refine q _ ⟨t,L,ds,X.set hy hok ⟨dx,?_⟩ aa fun b o n1 n2 e=>?_,hF⟩ fun b o nb e=>?_
   . rw[af npy,aa]
     show _=some (HO.ins C dx (sfl t L (tot (b_ f m R k v))));rw[ht]
     rfl
   . rw[af n2,af n1];exact e
   rw[af (fun z:b=y=>nb (z ▸ Fy)),af (fun z:b=p=>nb (z ▸ Fp))];exact e
 have e:¬ au f m R k=none:=fun e=>hc (by
  unfold au at e;rw[e];exact decide_eq_true rfl)
 rw[if_neg e]at ht;walk_at "W";refine⟨y,_,rfl,ke.k (k:=Sum.inl k) hr0 hlen,?_⟩;walk_at "W";rw[gH];refine q _ ⟨t,L,ds,X.set hy hok ⟨dx,?_⟩ aa fun b o n1 n2 e=>?_,hF⟩ fun b o nb e=>?_
 . rw[af npy]
   show _=some (HO.ins C dx (sfl t L (tot (b_ f m R k v))));rw[ht];exact hp
 . rw[af n2];exact e
 rw[af (fun z:b=y=>nb (z ▸ Fy))];exact e
theorem CH(d:Dm K C "cut" "Shelf.cut" z4_ ["self","key"])(g:Gs K mg C CT CD cS PS)(q76_:Mt P w K mg base C "row_with" 3 ["self","key"] (gK C)):Mt P w K mg base C "cut" 4 ["self","key"] (ou C):=by
 refine d.mt BL (fun vs H Q E h=>?_) (fun f cdv A outer s H vs Q E hr h=>?_)
 . obtain⟨p,k,f,m,R,F,rfl,_⟩:=h
   rfl
 obtain⟨p,k,f,m,R,F,rfl,S,q⟩:=h;obtain⟨t,L,ds,X,hF⟩:=id S;obtain⟨dx,hp⟩:=X.ob;obtain⟨y,hy,hr0⟩:=X.place k;have npy:p≠y:=aR hp hr0 (by intro z;cases z)
 have Fp:F p:=(hF p).mpr (.inl rfl);have Fy:F y:=(hF y).mpr (.inr (.inr (List.mem_of_getElem? hy)));have hok0:ROk (dn f m R k):=X.ok _ (List.mem_of_getElem? (bu (cy X.pos)));have ht:=gR (f:=f) (m:=m) (k:=k) X.pos X.ok;refine⟨_,(B.scons (B.set 2 BL.nd (B.dpop2 (B.meth (B.v 0) g.cl_Shelf q76_ hr.up (B.cons (B.v 1) B.nil)) (B.v 1) B.non (m:=B.m2)))
  (B.scons (B.ifs (B.tcmp en (B.v 2) B.non) (B.sone (B.faug tU (B.v 0) B.int)) B.snil)
  (B.sone (B.ret (B.v 2))))),?_⟩
 walk_at "W";refine wS S ⟨by decide +kernel,by decide +kernel,by decide +kernel⟩ ?_
 walk_at "W";refine SW.oG X fun y' hy'=>?_;obtain rfl:y=y':=Option.some.inj (hy.symm.trans hy');refine⟨y,rfl,.inl ⟨_,.inl hr0⟩,?_⟩;walk_at "W";refine⟨_,Sum.inl k,hr0,rfl,fun v hv=>?_,fun hv=>?_⟩
 . rw[bC]at hv
   obtain⟨z,e,rfl⟩:=Option.map_eq_some_iff.mp hv;have e':au f m R k=some z:=e;rw[e',if_neg (by simp)]at ht
   rw[e']at q;rw[fH];walk_at "W";refine⟨rfl,?_⟩;walk_at "W";refine bL ?_;walk_at "W";refine⟨p,C,dx,_,_,rfl,by rw[af npy];exact hp,g.cl_Shelf,g.n_Shelf_held,gO _ _ _,?_⟩
   walk_at "W";refine⟨_,_,rfl,rfl,dx,_,by rw[af npy];exact hp,by show 3 < 1000;decide,?_⟩
   rw[l6];walk_at "W";refine q _ ⟨t,L,ds,X.set hy (mF hok0) ⟨dx,?_⟩ (by rw[af npy.symm,aa]) fun b o n1 n2 e=>?_,hF⟩ fun b o nb e=>?_
   . rw[aa]
     show _=some (HO.ins C dx (sfl t L (tot (cU f m R k))));rw[← ht]
     congr 3
     omega
   . rw[af n1,af n2];exact e
   rw[af (fun z:b=p=>nb (z ▸ Fp)),af (fun z:b=y=>nb (z ▸ Fy))];exact e
 rw[bC]at hv;have e:ax (dn f m R k) k=none:=by
  cases e:ax (dn f m R k) k with
  | none=>rfl
  | some z=>rw[e]at hv;cases hv
 have e':au f m R k=none:=e;rw[e']at q;have es:cU f m R k=R:=by
  unfold cU;rw[iI ((bh k).mp e)];unfold dn;have lt:=cy (f:=f) (m:=m) (k:=k) X.pos;rw[List.getD_eq_getElem?_getD,List.getElem?_eq_getElem lt];exact List.set_getElem_self lt
 rw[es]at q;walk_at "W";refine⟨rfl,?_⟩;walk_at "W";refine bB ?_;walk_at "W";exact q H S (Fr.refl F H)
theorem Cv(d:Dm K C "look" "Shelf.look" z6_ ["self","key"])(q76_:Mt P w K mg base C "row_with" 3 ["self","key"] (gK C))(g:Gs K mg C CT CD cS PS):Mt P w K mg base C "look" 4 ["self","key"] (iN C):=by
 refine d.mt C3 (fun vs H Q E h=>?_) (fun f cdv A outer s H vs Q E hr h=>?_)
 . obtain⟨p,k,f,m,R,F,rfl,_⟩:=h
   rfl
 obtain⟨p,k,f,m,R,F,rfl,S,q⟩:=h;obtain⟨t,L,ds,X,hF⟩:=id S;obtain⟨y,hy,hr0⟩:=X.place k;refine⟨_,(B.sone (B.ret (B.dget1 (bj hr) (B.meth (B.v 0) g.cl_Shelf q76_ hr.up (B.cons (B.v 1) B.nil)) (B.v 1) (m:=B.m1)))),?_⟩;walk_at "W";refine wS S ⟨by decide +kernel,by decide +kernel,by decide +kernel⟩ ?_
 walk_at "W";refine SW.oG X fun y' hy'=>?_;obtain rfl:y=y':=Option.some.inj (hy.symm.trans hy');refine⟨y,rfl,.inl ⟨_,.inl hr0⟩,?_⟩;walk_at "W";refine⟨_,cR.k (k:=Sum.inl k) hr0,?_⟩;rw[p6];exact q
theorem Bh(d:Dm K C "size" "Shelf.size" yD ["self"])(g:Gs K mg C CT CD cS PS):Mt P w K mg base C "size" 1 ["self"] (dy C):=by
 refine d.mt CW (fun vs H Q E h=>?_) (fun f cdv A outer s H vs Q E hr h=>?_)
 . obtain⟨p,f,m,R,F,rfl,_⟩:=h
   rfl
 obtain⟨p,f,m,R,F,rfl,⟨t,L,ds,X,hF⟩,q⟩:=h;obtain⟨dx,hp⟩:=X.ob;refine⟨_,(B.sone (B.ret (B.cB aP g.b_len SW.b_len (B.cons (B.fld (B.v 0)) B.nil)))),?_⟩;walk_at "W";refine SW.bA hp g.cl_Shelf g.n_Shelf_rows (dQ _ _ _) ?_;walk_at "W";refine SW.eS (.inl (SqL.of X.rw)) ?_;rw[List.length_map,X.len];exact q
theorem C2(d:Dm K C "many" "Shelf.many" z7_ ["self"])(g:Gs K mg C CT CD cS PS):Mt P w K mg base C "many" 1 ["self"] (iK C):=by
 refine d.mt Dw (fun vs H Q E h=>?_) (fun f cdv A outer s H vs Q E hr h=>?_)
 . obtain⟨p,f,m,R,F,rfl,_⟩:=h
   rfl
 obtain⟨p,f,m,R,F,rfl,⟨t,L,ds,X,hF⟩,q⟩:=h;obtain⟨dx,hp⟩:=X.ob;refine⟨_,(B.sone (B.ret (B.fld (B.v 0)))),?_⟩;walk_at "W";exact⟨p,C,dx,_,_,rfl,hp,g.cl_Shelf,g.n_Shelf_held,gO _ _ _,q⟩
theorem Dv(d:Dm K C "check_place" "Shelf.check_place" z3_ ["self","place"])(g:Gs K mg C CT CD cS PS)(q15_:Fn P w K mg base "is_whole" 1 ["thing"] dC):Mt P w K mg base C "check_place" 2 ["self","place"] (ng C):=by
 refine d.mt Du (fun vs H Q E h=>?_) (fun f cdv A outer s H vs Q E hr h=>?_)
 . obtain⟨p,i,f,m,R,F,rfl,_⟩:=h
   rfl
 obtain⟨p,i,f,m,R,F,rfl,⟨t,L,ds,X,hF⟩,i0,i1,q⟩:=h;obtain⟨dx,hp⟩:=X.ob;refine⟨_,(B.sone (B.ifs (B.tw (B.wor (B.tnot (B.tval (B.fn q15_ hr.up (B.cons (B.v 1) B.nil)))) (B.wor1 (B.tnot (B.tchain cF mY B.int (B.v 1) (B.cB aP g.b_len SW.b_len (B.cons (B.fld (B.v 0)) B.nil))))))) (B.sone B.never) B.snil)),?_⟩;walk_at "W";refine⟨i,rfl,?_⟩;walk_at "W";refine bB ?_;walk_at "W";refine ce i0 ?_;walk_at "W";refine SW.bA hp g.cl_Shelf g.n_Shelf_rows (dQ _ _ _) ?_;walk_at "W";refine SW.eS (.inl (SqL.of X.rw)) ?_;walk_at "W";rw[List.length_map,X.len];refine eR i1 ?_;walk_at "W";exact q
theorem AG(d:Dm K C "row" "Shelf.row" z4 ["self","place"])(g:Gs K mg C CT CD cS PS)(q68_:Mt P w K mg base C "check_place" 2 ["self","place"] (ng C)):Mt P w K mg base C "row" 3 ["self","place"] (mD C):=by
 refine d.mt Dh (fun vs H Q E h=>?_) (fun f cdv A outer s H vs Q E hr h=>?_)
 . obtain⟨p,i,f,m,R,F,rfl,_⟩:=h
   rfl
 obtain⟨p,i,f,m,R,F,rfl,S,hi,q⟩:=h;obtain⟨t,L,ds,X,hF⟩:=id S;obtain⟨dx,hp⟩:=X.ob;have hi':i < ds.length:=by rw[X.len];exact hi
 have hy:ds[i]?=some ds[i]:=List.getElem?_eq_getElem hi';have hr0:=X.at_ _ _ _ hy (bu hi);generalize ds[i]=y at hy hr0;refine⟨_,(B.scons (B.expr (B.meth (B.v 0) g.cl_Shelf q68_ hr.up (B.cons (B.v 1) B.nil)))
  (B.sone (B.ret (B.cT SW.iC g.b_list SW.b_list (B.cons (B.items (B.ix aG (B.fld (B.v 0)) (B.v 1))) B.nil))))),?_⟩
 walk_at "W";refine wS S ⟨by decide +kernel,by decide +kernel,by decide +kernel⟩ ?_
 walk_at "W";refine⟨p,i,f,m,R,F,rfl,S,by omega,by omega,?_⟩
 walk_at "W";refine SW.bA hp g.cl_Shelf g.n_Shelf_rows (dQ _ _ _) ?_;walk_at "W";refine fK X.rw (v:=.ref y) ?_ ?_
 . refine mJ ?_
   rw[List.getElem?_map,hy]
   rfl
 refine⟨y,_,rfl,hr0,fun v hv=>?_⟩;walk_at "W";have s1:ao H (upd H v (ku v y)):=ao.new hv;refine⟨v,y,_,rfl,aa,s1 _ _ hr0,rfl,fun l as H' s2 hl hl' hlen hall=>?_⟩;refine q l _ H' (s1.trans s2) (s1.free hl) hl' (ul (by rw[hlen,dB]) fun j a e=>?_)
 obtain⟨_,k,x,e1,e2⟩:=hall j a e;exact⟨k,x,e1,e2⟩
theorem Dl(d:Dm K C "empty" "Shelf.empty" z5_ ["self","place"])(g:Gs K mg C CT CD cS PS)(q75_:Mt P w K mg base C "row" 3 ["self","place"] (mD C)):Mt P w K mg base C "empty" 4 ["self","place"] (jd C):=by
 refine d.mt AV (fun vs H Q E h=>?_) (fun f cdv A outer s H vs Q E hr h=>?_)
 . obtain⟨p,i,f,m,R,F,rfl,_⟩:=h
   rfl
 obtain⟨p,i,f,m,R,F,rfl,S,hi,q⟩:=h;refine⟨_,(B.scons (B.set 2 AV.nd (B.meth (B.v 0) g.cl_Shelf q75_ hr.up (B.cons (B.v 1) B.nil)))
  (B.scons (B.asg B.dnew (B.gsub (B.fld (B.v 0)) (B.v 1) jX))
  (B.scons (B.faug tU (B.v 0) (B.cB aP g.b_len SW.b_len (B.cons (B.v 2) B.nil)))
  (B.sone (B.ret (B.v 2)))))),?_⟩
 walk_at "W";refine wS S ⟨by decide +kernel,by decide +kernel,by decide +kernel⟩ ?_
 walk_at "W";refine uI S (by omega) (by omega) fun l xs H1 s1 nl hl pr=>?_
 have S1:=S.same s1;obtain⟨t,L,ds,X,hF⟩:=id S1;obtain⟨dx,hp⟩:=X.ob;have pr:Prs H1 xs (R.getD i []):=pr;walk_at "W";intro y hy;walk_at "W";have npy:p≠y:=ah hp hy;have nLy:L≠y:=ah X.rw hy;have nlp:l≠p:=aR hl hp (by intro z;cases z)
 have nlL:l≠L:=fun z=>S.fresh nl ((hF l).mpr (.inr (.inl z)));have nLp:L≠p:=aR X.rw hp (by intro z;cases z)
 have hlen:xs.length=(R.getD i []).length:=pr.len;have ht:=fz R i [] hi;have hpy:upd H1 y (.dK []) p=some (.ins C dx (sfl t L (tot R))):=by rw[af npy];exact hp
 refine SW.bA hpy g.cl_Shelf g.n_Shelf_rows (dQ _ _ _) ?_;walk_at "W";refine xL (j:=i) (by rw[af nLy];exact X.rw) (by
  unfold ixN;rw[List.length_map,X.len,if_pos (by omega),if_pos (by omega)]
  rfl) ?_
 rw[← List.map_set];have hp2:upd (upd H1 y (.dK [])) L (.lst ((ds.set i y).map V.ref)) p=some (.ins C dx (sfl t L (tot R))):=by rw[af nLp.symm];exact hpy
 have nly:l≠y:=ah hl hy;have hl2:upd (upd H1 y (.dK [])) L (.lst ((ds.set i y).map V.ref)) l=some (.lst xs):=by rw[af nlL,af nly];exact hl
 walk_at "W";refine SW.bA hp2 g.cl_Shelf g.n_Shelf_held (gO _ _ _) ?_;walk_at "W";refine SW.eS (.inl (SqL.of hl2)) ?_;refine⟨_,_,rfl,rfl,dx,_,hp2,by show 3 < 1000;decide,?_⟩
 rw[l6];walk_at "W";have keep:∀ b o,b≠p->b≠L->H1 b=some o->upd (upd (upd H1 y (.dK [])) L (.lst ((ds.set i y).map V.ref))) p (.ins C dx (sfl t L ((tot R:Nat) - (xs.length:Nat)))) b=some o:=fun b o n1 n2 e=>by
  rw[af n1,af n2,af (ah e hy)];exact e
 refine q l xs _ (fun b=>b=p∨b=L∨b∈ds.set i y) (fun b o nb e=>keep b o (fun z=>nb ((hF b).mpr (.inl z))) (fun z=>nb ((hF b).mpr (.inr (.inl z)))) (s1 _ _ e)) nl (fun z=>?_) (by rw[af nlp];exact hl2) (pr.keep fun a ys e=>keep a _ (aR e hp (by intro z;cases z)) (aR e X.rw (by intro z;cases z)) e) ⟨t,L,ds.set i y,X.emptied hi hy ⟨dx,?_⟩ ?_ ?_ keep,fun b=>Iff.rfl⟩ (fun b hb=>?_) fun b hb=>?_
 . rcases z with z | z | z
   . exact nlp z
   . exact nlL z
   rcases List.mem_or_eq_of_mem_set z with z | z
   . exact S.fresh nl ((hF l).mpr (.inr (.inr z)))
   exact nly z
 . rw[aa]
   have e0:([]:av).length=0:=rfl
   congr 3
   omega
 . rw[af npy.symm,af nLy.symm,aa]
 . rw[af nLp,aa]
 . rcases hb with z | z | z
   . exact .inl ((hF b).mpr (.inl z))
   . exact .inl ((hF b).mpr (.inr (.inl z)))
   rcases List.mem_or_eq_of_mem_set z with z | z
   . exact .inl ((hF b).mpr (.inr (.inr z)))
   exact .inr (by rw[z];exact s1.free hy)
 refine s1.free ?_;by_cases z1:b=p
 . rw[z1,aa]at hb;cases hb
 rw[af z1]at hb;by_cases z2:b=L
 . rw[z2,aa]at hb;cases hb
 rw[af z2]at hb;by_cases z3:b=y
 . rw[z3,aa]at hb;cases hb
 rw[af z3]at hb;exact hb
-- ThV bI S64 MdX
theorem BM{mv d:Nat}(h1:mv<=9000)(h2:d<=5000):(-(2 ^ 62)<=(mv:Int)/\(mv:Int) < 2 ^ 62 /\ -(2 ^ 62)<=(mv:Int)+(d:Int)/\(mv:Int)+(d:Int) < 2 ^ 62)/\(mv:Int)<=(mv:Int)+(d:Int)/\(mv:Int)+(d:Int) - (mv:Int)<=1000000:=by omega
theorem AM(d:Dm K CT "due_places" "Table.due_places" zx ["self"])(g:Gs K mg C CT CD cS PS)(q77_:Mt P w K mg base C "size" 1 ["self"] (dy C)):Mt P w K mg base CT "due_places" 2 ["self"] (ol C CT):=by
 refine d.mt Dg (fun vs H Q E h=>?_) (fun f cdv A outer s H vs Q E hr h=>?_)
 . obtain⟨p,f,m,pc,M,tc,F,rfl,_⟩:=h
   rfl
 obtain⟨p,f,m,pc,M,tc,F,rfl,S,T,hpc,q⟩:=h;obtain⟨t,n,v,FN,FE,X,hF⟩:=id S;obtain⟨dx,hp⟩:=X.ob;have hel:=X.el;refine⟨_,(B.scons (B.ifs (B.tcmp fh (B.fld (B.v 0)) B.non) (B.sone (B.ret (B.lst B.nil))) B.snil)
  (B.sone (B.ret (B.cT SW.kg g.b_list SW.b_list (B.cons (B.cT SW.lX g.b_range SW.b_range (B.cons (B.fld (B.v 0)) (B.cons (B.cB (kj rfl) g.b_min SW.b_min (B.cons (B.op bX (B.fld (B.v 0)) (B.fld (B.v 0))) (B.cons (B.meth0 (B.fld (B.v 0)) g.cl_Shelf q77_ hr.up) B.nil))) B.nil))) B.nil))))),?_⟩
 walk_at "W";refine SW.bA hp g.cl_Table g.n_Table_elder (bb ..) ?_;walk_at "W";refine⟨rfl,?_⟩;walk_at "W";cases e:M.el with
 | none=>
   rw[e]at hel;obtain⟨rfl,_⟩:=hel;refine bL ?_;walk_at "W";refine⟨by show(0:Nat)<=sizeLine;decide,fun l hl=>q l _ (ao.new hl) hl ?_⟩
   have:due pc M=0:=by unfold due;rw[e]
   rw[this];exact aa
 | some EE=>
   rw[e]at hel;obtain⟨ea,rfl,SE⟩:=hel;obtain⟨PE',sE,hm,_,_⟩:=T.el EE e;have bE:=sE.bounds;refine bB ?_;walk_at "W";refine SW.bA hp g.cl_Table g.n_Table_moved (dM ..) ?_;walk_at "W";refine SW.bA hp g.cl_Table g.n_Table_moved (dM ..) ?_;walk_at "W";refine SW.bA hp g.cl_Table g.n_Table_pace (sv ..) ?_;walk_at "W";refine SW.bA hp g.cl_Table g.n_Table_elder (bb ..) ?_;walk_at "W";refine wS SE ⟨by decide +kernel,by decide +kernel,by decide +kernel⟩ ?_
   walk_at "W";refine de SE ?_;walk_at "W";refine⟨_,_,rfl,?_⟩;walk_at "W";refine⟨_,_,rfl,fun r hr'=>?_⟩;walk_at "W";have hj:(if((EE.length:Nat):Int) < ((M.mv:Nat):Int)+((pc:Nat):Int)then((EE.length:Nat):Int)else((M.mv:Nat):Int)+((pc:Nat):Int))=(M.mv:Int)+(due pc M:Nat):=by
    unfold due;rw[e];show _=(M.mv:Int)+((min (M.mv+pc) EE.length - M.mv:Nat):Int);split <;> omega
   have hd:due pc M<=5000:=by
    have:=gZ (pc:=pc) e hm;omega
   rw[hj];have hz:=BM (show M.mv<=9000 by omega) hd
   refine⟨r,_,_,rfl,aa,hz.1,hz.2.1,hz.2.2,rfl,fun l hl=>?_⟩;have s1:ao H (upd H r (.rng (M.mv:Int) ((M.mv:Int)+(due pc M:Nat)))):=ao.new hr';refine q l _ (s1.trans (ao.new hl)) (s1.free hl) ?_;rw[aa,show((M.mv:Int)+(due pc M:Nat) - (M.mv:Int)).toNat=due pc M by omega]
theorem Cr(d:Dm K CT "end_move" "Table.end_move" Ar ["self"])(g:Gs K mg C CT CD cS PS)(q77_:Mt P w K mg base C "size" 1 ["self"] (dy C)):Mt P w K mg base CT "end_move" 2 ["self"] (oU C CT):=by
 refine d.mt CK (fun vs H Q E h=>?_) (fun f cdv A outer s H vs Q E hr h=>?_)
 . obtain⟨p,f,m,pc,M,tc,F,rfl,_⟩:=h
   rfl
 obtain⟨p,f,m,pc,M,tc,F,rfl,S,q⟩:=h;obtain⟨t,n,v,FN,FE,X,hF⟩:=id S;obtain⟨dx,hp⟩:=X.ob;have hel:=X.el;refine⟨_,(B.sone (B.ifs (B.tw (B.wand (B.tcmp en (B.fld (B.v 0)) B.non) (B.wand1 (B.tcmp bN (B.fld (B.v 0)) (B.meth0 (B.fld (B.v 0)) g.cl_Shelf q77_ hr.up))))) (B.scons (B.sfld (B.v 0) B.non)
  (B.sone (B.sfld (B.v 0) B.int))) B.snil)),?_⟩
 walk_at "W";refine SW.bA hp g.cl_Table g.n_Table_elder (bb ..) ?_;walk_at "W";refine⟨rfl,?_⟩;walk_at "W";cases e:M.el with
 | none=>
   rw[e]at hel;obtain⟨rfl,_⟩:=hel;refine bB ?_;refine bB ?_;walk_at "W";have:j9 M=M:=by unfold j9;rw[e]
   rw[this]at q;exact q H F S (fun b hb=>.inl hb) (Fr.refl F H)
 | some EE=>
   rw[e]at hel;obtain⟨ea,rfl,SE⟩:=hel;refine bL ?_;walk_at "W";refine SW.bA hp g.cl_Table g.n_Table_moved (dM ..) ?_;walk_at "W";refine SW.bA hp g.cl_Table g.n_Table_elder (bb ..) ?_;walk_at "W";refine wS SE ⟨by decide +kernel,by decide +kernel,by decide +kernel⟩ ?_
   walk_at "W";refine de SE ?_;walk_at "W";refine lR (fun hc=>?_) (fun hc=>?_)
   . have hc:M.mv=EE.length:=by
      have:=vi.mp (of_decide_eq_true hc);omega
     walk_at "W";refine SW.dD hp g.cl_Table g.n_Table_elder (by show 6 < 1000;decide) ?_
     rw[kJ];walk_at "W";refine SW.dD aa g.cl_Table g.n_Table_moved (by show 6 < 1000;decide) ?_
     rw[k_,iW];have:j9 M=⟨none,0,M.nw⟩:=by unfold j9;rw[e];exact if_pos hc
     rw[this]at q;have fr:SW.Fr (fun b=>b=p) H (upd H p (.ins CT dx (tfl t pc .non 0 n tc))):=fun b o nb e=>by rw[af nb];exact e
     have nt:∀ b xs,H b=some (.tup xs) -> ¬ b=p:=fun b xs e=>aR e hp (by intro z;cases z)
     refine q _ (fun b=>b=p∨FN b) ⟨t,n,.non,FN,fun _=>False,⟨⟨dx,aa⟩,fr _ _ (nt _ _ X.mx) X.mx,X.bm,X.nw.keep fr (fun b hb z=>X.np.1 (z ▸ hb)) nt,⟨rfl,fun _ z=>z⟩,fun _ z=>z.elim,⟨X.np.1,fun z=>z⟩⟩,fun b=>by simp⟩ (fun b hb=>.inl ((hF b).mpr (hb.elim .inl fun z=>.inr (.inl z)))) (fun b o nb e=>fr b o (fun z=>nb ((hF b).mpr (.inl z))) e)
   have hc:¬ M.mv=EE.length:=fun z=>hc (decide_eq_true (vi.mpr (by rw[z])))
   walk_at "W";have:j9 M=M:=by unfold j9;rw[e];exact if_neg hc
   rw[this]at q;exact q H F S (fun b hb=>.inl hb) (Fr.refl F H)
theorem Bb(d:Dm K CT "stands_on_elder" "Table.stands_on_elder" Ae ["self","key"])(g:Gs K mg C CT CD cS PS)(q73_:Mt P w K mg base C "place_with" 2 ["self","key"] (dP C)):Mt P w K mg base CT "stands_on_elder" 3 ["self","key"] (g_ C CT):=by
 refine d.mt C7 (fun vs H Q E h=>?_) (fun f cdv A outer s H vs Q E hr h=>?_)
 . obtain⟨p,k,f,m,pc,M,tc,F,rfl,_⟩:=h
   rfl
 obtain⟨p,k,f,m,pc,M,tc,F,rfl,S,q⟩:=h;obtain⟨t,n,v,FN,FE,X,hF⟩:=id S;obtain⟨dx,hp⟩:=X.ob;have hel:=X.el;refine⟨_,(B.sone (B.ret (B.and (B.cmp en (B.fld (B.v 0)) B.non) (B.one (B.cmp xQ (B.meth (B.fld (B.v 0)) g.cl_Shelf q73_ hr.up (B.cons (B.v 1) B.nil)) (B.fld (B.v 0))))))),?_⟩;walk_at "W";refine SW.bA hp g.cl_Table g.n_Table_elder (bb ..) ?_;walk_at "W";refine⟨rfl,?_⟩;walk_at "W";cases e:M.el with
 | none=>
   rw[e]at hel;obtain⟨rfl,_⟩:=hel;refine bB ?_;have:ci f m M k=false:=by unfold ci;rw[e]
   rw[this]at q;exact q
 | some EE=>
   rw[e]at hel;obtain⟨ea,rfl,SE⟩:=hel;refine bL ?_;walk_at "W";refine SW.bA hp g.cl_Table g.n_Table_elder (bb ..) ?_;walk_at "W";refine wS SE ⟨by decide +kernel,by decide +kernel,by decide +kernel⟩ ?_
   walk_at "W";refine iM SE ?_;walk_at "W";refine SW.bA hp g.cl_Table g.n_Table_moved (dM ..) ?_;walk_at "W";have:ci f m M k=decide (((M.mv:Nat):Int)<=((plc f m EE.length k:Nat):Int)):=by
    unfold ci;rw[e];show decide (M.mv<=plc f m EE.length k)=_;by_cases z:M.mv<=plc f m EE.length k
    . rw[decide_eq_true z,decide_eq_true (by omega)]
    rw[decide_eq_false z,decide_eq_false (by omega)]
   rw[this]at q;exact q
theorem A7(d:Dm K CT "shelf_with" "Table.shelf_with" Ai ["self","key"])(g:Gs K mg C CT CD cS PS)(q71_:Mt P w K mg base C "look" 4 ["self","key"] (iN C)):Mt P w K mg base CT "shelf_with" 5 ["self","key"] (gC C CT):=by
 refine d.mt Ct (fun vs H Q E h=>?_) (fun f cdv A outer s H vs Q E hr h=>?_)
 . obtain⟨p,k,f,m,pc,M,tc,t,n,v,FN,FE,rfl,_⟩:=h
   rfl
 obtain⟨p,k,f,m,pc,M,tc,t,n,v,FN,FE,rfl,X,q1,q2⟩:=h;obtain⟨dx,hp⟩:=X.ob;have hel:=X.el;refine⟨_,(B.scons (B.ifs (B.tw (B.wand (B.tcmp en (B.fld (B.v 0)) B.non) (B.wand1 (B.tcmp en (B.meth (B.fld (B.v 0)) g.cl_Shelf q71_ hr.up (B.cons (B.v 1) B.nil)) B.non)))) (B.sone (B.ret (B.fld (B.v 0)))) B.snil)
  (B.sone (B.ret (B.fld (B.v 0))))),?_⟩
 walk_at "W";refine SW.bA hp g.cl_Table g.n_Table_elder (bb ..) ?_;walk_at "W";refine⟨rfl,?_⟩;walk_at "W";cases e:M.el with
 | none=>
   rw[e]at hel;obtain⟨rfl,_⟩:=hel;refine bB ?_;refine bB ?_;walk_at "W";refine SW.bA hp g.cl_Table g.n_Table_newer (br ..) ?_;exact q2 (by unfold onE;rw[e])
 | some EE=>
   rw[e]at hel;obtain⟨ea,rfl,SE⟩:=hel;refine bL ?_;walk_at "W";refine SW.bA hp g.cl_Table g.n_Table_elder (bb ..) ?_;walk_at "W";refine wS SE ⟨by decide +kernel,by decide +kernel,by decide +kernel⟩ ?_
   walk_at "W";refine pB SE ?_;walk_at "W";refine⟨rfl,?_⟩;walk_at "W";cases z:au f m EE k with
   | none=>
     refine bB ?_;walk_at "W";refine SW.bA hp g.cl_Table g.n_Table_newer (br ..) ?_;exact q2 (by unfold onE;rw[e];exact z)
   | some y=>
     refine bL ?_;walk_at "W";refine SW.bA hp g.cl_Table g.n_Table_elder (bb ..) ?_;exact q1 EE e (by rw[z];exact fun h=>by cases h)
theorem BU(d:Dm K CT "wanted_size" "Table.wanted_size" zJ ["self"])(g:Gs K mg C CT CD cS PS)(q77_:Mt P w K mg base C "size" 1 ["self"] (dy C))(q72_:Mt P w K mg base C "many" 1 ["self"] (iK C)):Mt P w K mg base CT "wanted_size" 2 ["self"] (l_ C CT):=by
 refine d.mt AN (fun vs H Q E h=>?_) (fun f cdv A outer s H vs Q E hr h=>?_)
 . obtain⟨p,f,m,pc,M,tc,F,rfl,_⟩:=h
   rfl
 obtain⟨p,f,m,pc,M,tc,F,rfl,S,q⟩:=h;obtain⟨t,n,v,FN,FE,X,hF⟩:=id S;obtain⟨dx,hp⟩:=X.ob;obtain⟨aS,hS,tS⟩:=g.c_SIZES;have htop:=X.nw.top;refine⟨_,(B.scons (B.set 1 AN.nd (B.meth0 (B.fld (B.v 0)) g.cl_Shelf q77_ hr.up))
  (B.scons (B.ifs (B.tcmp xM (B.meth0 (B.fld (B.v 0)) g.cl_Shelf q72_ hr.up) (B.v 1)) (B.sone (B.ret (B.cB (kj rfl) g.b_min SW.b_min (B.cons (B.op eB (B.v 1) B.int) (B.cons (B.ix bJ (B.gref hS) (B.un oF B.int)) B.nil))))) B.snil)
  (B.scons (B.ifs (B.tcmp mY (B.op eB (B.meth0 (B.fld (B.v 0)) g.cl_Shelf q72_ hr.up) B.int) (B.v 1)) (B.sone (B.ret (B.cB (rK rfl) g.b_max SW.b_max (B.cons (B.op eT (B.v 1) B.int) (B.cons (B.ix bJ (B.gref hS) B.int) B.nil))))) B.snil)
  (B.sone (B.ret (B.v 1)))))),?_⟩
 walk_at "W";refine SW.bA hp g.cl_Table g.n_Table_newer (br ..) ?_;walk_at "W";refine wS X.nw ⟨by decide +kernel,by decide +kernel,by decide +kernel⟩ ?_
 walk_at "W";refine de X.nw ?_;walk_at "W";refine SW.bA hp g.cl_Table g.n_Table_newer (br ..) ?_;walk_at "W";refine wS X.nw ⟨by decide +kernel,by decide +kernel,by decide +kernel⟩ ?_
 walk_at "W";refine o5 X.nw ?_;walk_at "W";refine lR (fun hc=>?_) (fun hc=>?_)
 . have hc:((M.nw.length:Nat):Int) < ((tot M.nw:Nat):Int):=of_decide_eq_true hc
   walk_at "W";refine⟨aS,_,_,_,rfl,rfl,tS _,rfl,?_⟩;walk_at "W";refine⟨_,_,rfl,?_⟩;have ew:(if(4096:Int) < ((M.nw.length:Nat):Int)*2 then(4096:Int)else((M.nw.length:Nat):Int)*2)=((cA M.nw:Nat):Int):=by
    unfold cA;rw[if_pos (show M.nw.length < tot M.nw by omega)]
    split <;> omega
   rw[ew];exact q
 have hc:¬ ((M.nw.length:Nat):Int) < ((tot M.nw:Nat):Int):=fun z=>hc (decide_eq_true z);walk_at "W";refine SW.bA hp g.cl_Table g.n_Table_newer (br ..) ?_;walk_at "W";refine wS X.nw ⟨by decide +kernel,by decide +kernel,by decide +kernel⟩ ?_
 walk_at "W";refine o5 X.nw ?_;walk_at "W";refine lR (fun hc2=>?_) (fun hc2=>?_)
 . have hc2:((tot M.nw:Nat):Int)*8 < ((M.nw.length:Nat):Int):=of_decide_eq_true hc2
   walk_at "W";refine⟨aS,_,_,_,rfl,rfl,tS _,rfl,?_⟩;walk_at "W";refine⟨_,_,rfl,?_⟩;have ew:(if(4:Int) > ((M.nw.length:Nat):Int) / 2 then(4:Int)else((M.nw.length:Nat):Int) / 2)=((cA M.nw:Nat):Int):=by
    unfold cA;rw[if_neg (show ¬ M.nw.length < tot M.nw by omega),if_pos (show tot M.nw*8 < M.nw.length by omega)]
    split <;> omega
   rw[ew];exact q
 have hc2:¬ ((tot M.nw:Nat):Int)*8 < ((M.nw.length:Nat):Int):=fun z=>hc2 (decide_eq_true z);walk_at "W";have ew:cA M.nw=M.nw.length:=by
  unfold cA;rw[if_neg (show ¬ M.nw.length < tot M.nw by omega),if_neg (show ¬ tot M.nw*8 < M.nw.length by omega)]
 rw[ew]at q;exact q
theorem BR(d:Dm K CT "begin_move" "Table.begin_move" yW ["self"])(g:Gs K mg C CT CD cS PS)(q92_:Mt P w K mg base CT "wanted_size" 2 ["self"] (l_ C CT))(q77_:Mt P w K mg base C "size" 1 ["self"] (dy C))(q65_:Mkr P w K mg base C "Shelf" 3 ["self","size","mixer"] (iH C)):Mt P w K mg base CT "begin_move" 5 ["self"] (cJ C CT):=by
 refine d.mt BP (fun vs H Q E h=>?_) (fun f cdv A outer s H vs Q E hr h=>?_)
 . obtain⟨p,f,m,pc,M,tc,F,rfl,_⟩:=h
   rfl
 obtain⟨p,f,m,pc,M,tc,F,rfl,S,hsz,q⟩:=h;obtain⟨t,n,v,FN,FE,X,hF⟩:=id S;obtain⟨dx,hp⟩:=X.ob;have hel:=X.el;refine⟨_,(B.scons (B.ifs (B.tcmp en (B.fld (B.v 0)) B.non) (B.sone B.retN) B.snil)
  (B.scons (B.set 1 BP.nd (B.meth0 (B.v 0) g.cl_Table q92_ hr.up))
  (B.sone (B.ifs (B.tcmp gL (B.v 1) (B.meth0 (B.fld (B.v 0)) g.cl_Shelf q77_ hr.up)) (B.scons (B.sfld (B.v 0) (B.fld (B.v 0)))
  (B.sone (B.sfld (B.v 0) (B.make q65_ hr.up (B.cons (B.v 1) (B.cons (B.fld (B.v 0)) B.nil)))))) B.snil)))),?_⟩
 walk_at "W";refine SW.bA hp g.cl_Table g.n_Table_elder (bb ..) ?_;walk_at "W";refine⟨rfl,?_⟩;walk_at "W";cases e:M.el with
 | some EE=>
   rw[e]at hel;obtain⟨ea,rfl,SE⟩:=hel;refine bL ?_;walk_at "W";have:beg M=M:=by unfold beg;rw[e]
   rw[this]at q;exact q H F S (fun b hb=>.inl hb) (Fr.refl F H)
 | none=>
   rw[e]at hel;obtain⟨rfl,nFE⟩:=hel;refine bB ?_;walk_at "W";refine wT S jB ?_;walk_at "W";refine SW.ye S ?_;walk_at "W";refine SW.bA hp g.cl_Table g.n_Table_newer (br ..) ?_;walk_at "W";refine wS X.nw ⟨by decide +kernel,by decide +kernel,by decide +kernel⟩ ?_
   walk_at "W";refine de X.nw ?_;walk_at "W";rw[Di];refine Da (fun hc=>?_) (fun hc=>?_)
   . have hc:¬ cA M.nw=M.nw.length:=fun z=>by
      rw[decide_eq_true (by rw[z])]at hc
      cases hc
     have hw:=lu hsz;walk_at "W";refine SW.bA hp g.cl_Table g.n_Table_newer (br ..) ?_;walk_at "W";refine SW.dD hp g.cl_Table g.n_Table_elder (by show 6 < 1000;decide) ?_
     rw[kJ];have fr:∀ o,SW.Fr (fun b=>b=p) H (upd H p o):=fun o b u nb e=>by rw[af nb];exact e
     have nt:∀ b xs,H b=some (.tup xs) -> ¬ b=p:=fun b xs e=>aR e hp (by intro z;cases z)
     walk_at "W";refine SW.bA aa g.cl_Table g.n_Table_mixer (qJ ..) ?_;walk_at "W";refine tW (n:=((cA M.nw:Nat):Int)) (fr _ _ _ (nt _ _ X.mx) X.mx) X.bm (by omega) (by simpa using hw) fun sn H2 FS S2 nS s2=>?_
     have S2:Sh C H2 sn f m (List.replicate (cA M.nw) []) FS:=S2;walk_at "W";refine⟨p,CT,dx,_,rfl,s2 _ _ aa,g.cl_Table,g.n_Table_newer,by show 6 < 1000;decide,?_⟩
     rw[si];have eg:beg M=⟨some M.nw,M.mv,List.replicate (cA M.nw) []⟩:=by unfold beg;rw[e];exact if_neg hc
     rw[eg]at q;have fr2:∀ o,SW.Fr (fun b=>b=p) H (upd H2 p o):=fun o b u nb e=>by rw[af nb];exact s2 _ _ (fr _ b u nb e)
     have nS':∀ b,FS b->H b=none:=fun b hb=>by
      have h1:=nS b hb;by_cases z:b=p
      . subst z;rw[aa]at h1;cases h1
      rw[af z]at h1;exact h1
     have fr3:SW.Fr (fun b=>b=p) H2 (upd H2 p (.ins CT dx (tfl t pc (.ref n) M.mv sn tc))):=fun b u nb e=>by rw[af nb];exact e
     have nFp:¬ FS p:=fun z=>by rw[nS' p z]at hp;cases hp
     have nt2:∀ b xs,H2 b=some (.tup xs) -> ¬ b=p:=fun b xs e z=>by
      have h1:=s2 _ _ (aa (H:=H) (a:=p) (o:=.ins CT dx (tfl t pc (.ref n) M.mv n tc)));rw[z,h1]at e;cases e
     refine q _ (fun b=>b=p∨FS b∨FN b) ⟨t,sn,.ref n,FS,FN,⟨⟨dx,aa⟩,fr2 _ _ _ (nt _ _ X.mx) X.mx,X.bm,S2.keep fr3 (fun b hb z=>nFp (z ▸ hb)) nt2,⟨n,rfl,X.nw.keep (fr2 _) (fun b hb z=>X.np.1 (z ▸ hb)) nt⟩,fun b hb hz=>X.nw.fresh (nS' b hz) hb,⟨nFp,X.np.1⟩⟩,fun b=>Iff.rfl⟩ (fun b hb=>?_) (fun b o nb e=>fr2 _ b o (fun z=>nb ((hF b).mpr (.inl z))) e);rcases hb with z | z | z
     . exact .inl ((hF b).mpr (.inl z))
     . exact .inr (nS' b z)
     exact .inl ((hF b).mpr (.inr (.inl z)))
   have hc:cA M.nw=M.nw.length:=by
    have:decide (((cA M.nw:Nat):Int)=((M.nw.length:Nat):Int))=true:=by
     cases z:decide (((cA M.nw:Nat):Int)=((M.nw.length:Nat):Int))with
     | true=>rfl
     | false=>rw[z]at hc;cases hc
    have:=of_decide_eq_true this;omega
   walk_at "W";have eg:beg M=M:=by unfold beg;rw[e];exact if_pos hc
   rw[eg]at q;exact q H F S (fun b hb=>.inl hb) (Fr.refl F H)
theorem Ci(d:Dm K CT "move_place" "Table.move_place" yM ["self","place"])(g:Gs K mg C CT CD cS PS)(q70_:Mt P w K mg base C "empty" 4 ["self","place"] (jd C))(q74_:Mt P w K mg base C "put" 4 ["self","key","worth"] (jt C))(q73_:Mt P w K mg base C "place_with" 2 ["self","key"] (dP C)):Mt P w K mg base CT "move_place" 5 ["self","place"] (qz C CT):=by
 refine d.mt we (fun vs H Q E h=>?_) (fun f cdv A outer s H vs Q E hr h=>?_)
 . obtain⟨p,i,f,m,pc,E,N,mv,tc,F,rfl,_⟩:=h
   rfl
 obtain⟨p,i,f,m,pc,EE,N,mv,tc,F,rfl,S,hi,PP,htot,q⟩:=h;obtain⟨t,n,v,FN,FE,X,hF⟩:=id S;obtain⟨dx,hp⟩:=X.ob;have hel:∃ e,v=.ref e/\Sh C H e f m EE FE:=X.el;obtain⟨ea,rfl,SE⟩:=hel;have SN:Sh C H n f m N FN:=X.nw;refine⟨_,(B.scons (B.set 2 we.nd (B.meth (B.fld (B.v 0)) g.cl_Shelf q70_ hr.up (B.cons (B.v 1) B.nil)))
  (B.scons (B.fors (B.ilist (B.v 2)) (B.gtup (B.gcons (B.gname (i:=3) we.nd) (B.gcons (B.gname (i:=4) we.nd) B.gnil))) (B.sone (B.expr (B.meth (B.fld (B.v 0)) g.cl_Shelf q74_ hr.up (B.cons (B.v 3) (B.cons (B.v 4) B.nil))))))
  (B.sone (B.ret (SW.B.comp [0] ["pair","self"] (SW.aC.of rfl rfl (by decide +kernel) (by decide +kernel) rfl ⟨rfl,trivial⟩ rfl rfl rfl) (by decide +kernel) (B.ilist (B.v 2)) (fun _ _ _ _=>(B.meth (B.fldK K (B.v 1)) g.cl_Shelf q73_ hr.up (B.cons (B.ix (SW.pO K) (B.v 0) B.int) B.nil)))))))),?_⟩
 walk_at "W";refine SW.bA hp g.cl_Table g.n_Table_elder (bb ..) ?_;walk_at "W";refine wS SE ⟨by decide +kernel,by decide +kernel,by decide +kernel⟩ ?_
 walk_at "W";refine vN SE (by omega) (by omega) fun l xs H1 FE' K1 nl nFl hl pr SE1 gr lv=>?_
 have pr:Prs H1 xs (EE.getD i []):=pr;have SE1:Sh C H1 ea f m (EE.set i []) FE':=SE1;have hp1:=K1 _ _ X.np.2 hp;have SN1:=SN.keep K1 (fun b hb z=>X.ne b z hb) fun b xs e=>SE.notup e;have mx1:=K1 _ _ (SE.notup X.mx) X.mx;have nEN:∀ b,FE' b -> ¬ FN b:=fun b hb hn=>by
  rcases gr b hb with z | z
  . exact X.ne b z hn
  exact SN.fresh z hn
 have nEp:¬ FE' p:=fun z=>by
  rcases gr p z with z | z
  . exact X.np.2 z
  rw[z]at hp;cases hp
 have nlN:¬ FN l:=SN.fresh nl;have lx:=pr.len;walk_at "W";refine⟨l,rfl,⟨_,SqL.of hl⟩,?_⟩;refine L2.nR (xs:=xs) (fun j U H'=>∃ v3 v4,U=[some (.ref p),some (.int i),some (.ref l),v3,v4]/\Sh C H' n f m (aI f m N ((EE.getD i []).take j)) FN/\SW.Fr FN H1 H') ⟨none,none,rfl,SN1,Fr.refl _ _⟩ (fun j U H' _ ⟨_,_,_,_,k'⟩=>SqL.of (k' _ _ nlN hl)) ?_ ?_
 . rintro j x U H' hx ⟨v3,v4,rfl,S',k'⟩
   have hj:j < (EE.getD i []).length:=by
    have:=(List.getElem?_eq_some_iff.mp hx).1;omega
   obtain⟨a,e1,e2⟩:=pr.get (List.getElem?_eq_getElem hj);obtain rfl:V.ref a=x:=Option.some.inj (e1.symm.trans hx);have e2':=k' _ _ (SN1.notup e2) e2;have hp':=k' _ _ X.np.1 hp1;refine⟨a,_,rfl,SqT.of e2',rfl,_,_,rfl,_,_,rfl,rfl,?_⟩;walk_at "W";refine SW.bA hp' g.cl_Table g.n_Table_newer (br ..) ?_;walk_at "W";refine wS S' ⟨by decide +kernel,by decide +kernel,by decide +kernel⟩ ?_
   walk_at "W";refine qr S' ?_ fun H2 S2 K2=>?_
   . have h1:=cE (f:=f) (m:=m) (r:=(EE.getD i []).take j) SN.pos
     have h2:((EE.getD i []).take j).length<=(EE.getD i []).length:=by rw[List.length_take];exact Nat.min_le_right _ _
     have h3:=ck EE i;omega
   walk_at "W";refine⟨_,_,rfl,?_,k'.trans K2⟩;rw[ip (List.getElem?_eq_getElem hj)];exact S2
 rintro U H2 ⟨v3,v4,rfl,S2,k2⟩;rw[List.take_of_length_le (by omega)]at S2
 have hl2:=k2 _ _ nlN hl;have hp2:=k2 _ _ X.np.1 hp1;have pr2:=pr.keep fun a ys e=>k2 _ _ (SN1.notup e) e;walk_at "W";refine⟨l,rfl,⟨_,SqL.of hl2⟩,fun D hD=>?_⟩;refine dj (xs:=xs) (fun j U' H'=>ao H2 H'/\(∃ v,U'=[v,some (.ref p)])/\H' D=some (.lst ((((EE.getD i []).take j).map fun q=>((plc f m N.length q.1:Nat):Int)).map V.int))) ⟨ao.new hD,⟨none,rfl⟩,aa⟩ (fun j U' H' _ ⟨s',_⟩=>SqL.of (s' _ _ hl2)) ?_ ?_
 . rintro j x U' H' hx hjx ⟨s',⟨v,rfl⟩,hD'⟩
   have hj:j < (EE.getD i []).length:=by omega
   obtain⟨a,e1,e2⟩:=pr2.get (List.getElem?_eq_getElem hj);obtain rfl:V.ref a=x:=Option.some.inj (e1.symm.trans hx);have e2':=s' _ _ e2;have S3:=S2.same s';walk_at "W";refine⟨p,CT,dx,_,_,rfl,s' _ _ hp2,g.cl_Table,g.n_Table_newer,br ..,?_⟩;walk_at "W";refine wS S3 ⟨by decide +kernel,by decide +kernel,by decide +kernel⟩ ?_
   walk_at "W";refine iM S3 ?_;rw[dh];have hr90:(EE.getD i []).length<=90000:=Nat.le_trans (ck EE i) (by omega)
   refine CN.mk hjx hD' (by
    rw[List.length_map,List.length_map,List.length_take];have:sizeLine=16777216:=sizeLine_eq
    omega) ⟨fun b o e=>?_,⟨_,rfl⟩,?_⟩
   . rw[af (ah e hD)];exact s' _ _ e
   rw[aa,List.take_add_one,List.getElem?_eq_getElem hj,List.map_append,List.map_append]
   rfl
 rintro U' H3 ⟨s3,⟨v,rfl⟩,hD3⟩;rw[List.take_of_length_le (by omega)]at hD3
 have X3:TbX C CT H3 p f m pc ⟨some (EE.set i []),mv,aI f m N (EE.getD i [])⟩ tc t n (.ref ea) FN FE':=
  ⟨⟨dx,s3 _ _ hp2⟩,s3 _ _ (k2 _ _ (SN1.notup mx1) mx1),X.bm,S2.same s3,⟨ea,rfl,(SE1.keep k2 nEN fun b xs e=>SN1.notup e).same s3⟩,nEN,⟨X.np.1,nEp⟩⟩
 have fr:SW.Fr F H H3:=fun b o nb e=>s3 _ _ (k2 _ _ (fun z=>nb ((hF b).mpr (.inr (.inl z)))) (K1 _ _ (fun z=>nb ((hF b).mpr (.inr (.inr z)))) e));have nD:H D=none:=lv D (by
  cases e:H1 D with
  | none=>rfl
  | some o=>
    exfalso
    by_cases zN:FN D
    . obtain⟨o',e',_⟩:=S2.live zN
      rw[hD]at e';cases e'
    rw[k2 _ _ zN e]at hD;cases hD)
 refine q D H3 _ X3.tb (fun b hb=>?_) fr nD (fun z=>?_) hD3
 . rcases hb with z | z | z
   . exact .inl ((hF b).mpr (.inl z))
   . exact .inl ((hF b).mpr (.inr (.inl z)))
   rcases gr b z with z | z
   . exact .inl ((hF b).mpr (.inr (.inr z)))
   exact .inr z
 rcases z with z | z | z
 . rw[z,hp2]at hD;cases hD
 . obtain⟨o',e',_⟩:=S2.live z
   rw[hD]at e';cases e'
 obtain⟨o',e',_⟩:=(SE1.keep k2 nEN fun b xs e=>SN1.notup e).live z;rw[hD]at e';cases e'
theorem CC(d:Dm K CT "go_on" "Table.go_on" xX ["self","key"])(g:Gs K mg C CT CD cS PS)(q80_:Mt P w K mg base CT "due_places" 2 ["self"] (ol C CT))(q85_:Mt P w K mg base CT "move_place" 5 ["self","place"] (qz C CT))(q81_:Mt P w K mg base CT "end_move" 2 ["self"] (oU C CT))
 (q90_:Mt P w K mg base CT "stands_on_elder" 3 ["self","key"] (g_ C CT)) (q73_:Mt P w K mg base C "place_with" 2 ["self","key"] (dP C)):Mt P w K mg base CT "go_on" 6 ["self","key"] (nB C CT):=by
 refine d.mt tu (fun vs H Q E h=>?_) (fun f cdv A outer s H vs Q E hr h=>?_)
 . obtain⟨p,k,f,m,pc,M,tc,F,rfl,_⟩:=h
   rfl
 obtain⟨p,k,f,m,pc,M,tc,F,rfl,S,T,hpc,hcnt,q⟩:=h;have hdue:due pc M<=5000:=by
  unfold due;cases e:M.el with
  | none=>exact Nat.zero_le _
  | some EE=>
    have:=(T.el EE e).2.1.bounds;show min (M.mv+pc) EE.length - M.mv<=5000;omega
 refine⟨_,(B.scons (B.set 2 tu.nd (B.meth0 (B.v 0) g.cl_Table q80_ hr.up))
  (B.scons (B.set 3 tu.nd (B.lst (B.cons (B.meth (B.fld (B.v 0)) g.cl_Shelf q73_ hr.up (B.cons (B.v 1) B.nil)) B.nil)))
  (B.scons (B.fors (B.ilist (B.v 2)) (B.gname (i:=4) tu.nd) (B.sone (B.expr (B.m PySem.F.plainAttrs_list PySem.F.slot_list_extend PySem.F.type_list_extend kM (B.v 3) (B.cons (B.meth (B.v 0) g.cl_Table q85_ hr.up (B.cons (B.v 4) B.nil)) B.nil)))))
  (B.scons (B.faug sj (B.v 0) (B.cB aP g.b_len SW.b_len (B.cons (B.v 2) B.nil)))
  (B.scons (B.expr (B.meth0 (B.v 0) g.cl_Table q81_ hr.up))
  (B.scons (B.set 5 tu.nd (B.ifx (B.tval (B.meth (B.v 0) g.cl_Table q90_ hr.up (B.cons (B.v 1) B.nil))) B.int B.int))
  (B.sone (B.sfld (B.v 0) (B.op bX (B.op bX (B.cB aP g.b_len SW.b_len (B.cons (B.v 2) B.nil)) (B.cB SW.kI g.b_len SW.b_len (B.cons (B.cT SW.lJ g.b_set SW.b_set (B.cons (B.v 3) B.nil)) B.nil))) (B.v 5)))))))))),?_⟩
 walk_at "W";refine wT S kc ?_;walk_at "W";refine SW.AW S T hpc fun ld H1 s1 nld hld=>?_;have S1:=S.same s1;obtain⟨t,n,v,FN,FE,X,hF⟩:=id S1;obtain⟨dx,hp⟩:=X.ob;walk_at "W";refine SW.bA hp g.cl_Table g.n_Table_newer (br ..) ?_;walk_at "W";refine wS X.nw ⟨by decide +kernel,by decide +kernel,by decide +kernel⟩ ?_
 walk_at "W";refine iM X.nw ?_;walk_at "W";refine⟨by show(1:Nat)<=sizeLine;decide,fun lr hlr=>?_⟩
 have s2:ao H1 (upd H1 lr (.lst [.int (plc f m M.nw.length k:Nat)])):=ao.new hlr;have S2:=S1.same s2;have hld2:=s2 _ _ hld;have hlr2:upd H1 lr (.lst [.int (plc f m M.nw.length k:Nat)]) lr=some (.lst [.int (plc f m M.nw.length k:Nat)]):=aa;have nrd:lr≠ld:=(ah hld hlr).symm;have nFd:¬ F ld:=S.fresh nld;have nFr:¬ F lr:=S1.fresh hlr;generalize upd H1 lr (.lst [.int (plc f m M.nw.length k:Nat)])=H2 at *;have lrn:H lr=none:=s1.free hlr;walk_at "W";refine⟨ld,rfl,⟨_,SqL.of hld2⟩,?_⟩;have lseq:((ic M.mv (due pc M)).map V.int).length=due pc M:=by unfold ic;simp
 refine SW.fj (xs:=(ic M.mv (due pc M)).map V.int) (fun j U H'=>∃ F' v4,U=[some (.ref p),some (.int k),some (.ref ld),some (.ref lr),v4,none]/\Tb C CT H' p f m pc (mid f m M j) tc F'/\Gr H2 F F'/\SW.Fr (fun b=>F b∨b=lr) H2 H' /\ ¬ F' lr /\ ¬ F' ld /\
  H' lr=some (.lst ((((plc f m M.nw.length k:Nat):Int)::rch f m M j).map V.int))) ?_ (fun j U H' _ z=>z.elim fun _ z=>z.elim fun _ z=>SqL.of (z.2.2.2.1 _ _ (fun z=>z.elim nFd fun z=>nrd z.symm) hld2)) ?_ ?_
 . refine⟨F,none,rfl,?_,fun b hb=>.inl hb,fun b o _ e=>e,nFr,nFd,?_⟩
   . have:mid f m M 0=M:=by
      unfold mid;cases e:M.el with
      | none=>rfl
      | some EE=>cases M;simp at e;subst e;rfl
     rw[this];exact S2
   have:rch f m M 0=[]:=by unfold rch;cases M.el <;> rfl
   rw[this];exact hlr2
 . rintro j x U H' hx ⟨F',v4,rfl,S',g',k',nlr,nld',hlr'⟩
   have hj:j < due pc M:=by
    have:=(List.getElem?_eq_some_iff.mp hx).1;omega
   obtain rfl:V.int ((M.mv:Int)+(j:Int))=x:=by
    unfold ic at hx;rw[List.getElem?_map,List.getElem?_map,List.getElem?_range hj]at hx;exact Option.some.inj hx
   cases e:M.el with
   | none=>
     have:due pc M=0:=by unfold due;rw[e]
     omega
   | some EE=>
     obtain⟨PE',sE,hm,_,_⟩:=T.el EE e;have hdl:=gZ (pc:=pc) e hm;obtain⟨PJ,l1,l2,_,tj⟩:=iX j (T.pair e) (by omega)
     have em:mid f m M j=⟨some (aN f m EE M.nw M.mv j).1,M.mv,(aN f m EE M.nw M.mv j).2⟩:=by unfold mid;rw[e]
     have em1:mid f m M (j+1)=⟨some ((aN f m EE M.nw M.mv j).1.set (M.mv+j) []),M.mv,aI f m (aN f m EE M.nw M.mv j).2 ((aN f m EE M.nw M.mv j).1.getD (M.mv+j) [])⟩:=by unfold mid;rw[e];simp only[dg]
     have er:rch f m M (j+1)=rch f m M j++(EE.getD (M.mv+j) []).map fun p=>((plc f m M.nw.length p.1:Nat):Int):=by unfold rch;rw[e];simp only[fX]
     have ec:cnt M=tot EE+tot M.nw:=by unfold SW.cnt;rw[e]
     have hcnt:=hcnt.resolve_right (fun z=>by rw[e]at z;cases z)
     have hrl:(rch f m M j).length<=4000:=by
      have:=ik (f:=f) (m:=m) (n:=M.nw.length) j EE M.nw M.mv (by omega)
      have e2:rch f m M j=du f m M.nw.length EE M.mv j:=by unfold rch;rw[e]
      rw[e2];omega
     rw[em]at S';walk_at "W";refine wBM ?_;walk_at "W";refine⟨.inl ⟨rfl,_,SqL.of hlr'⟩,?_⟩;walk_at "W";refine wT S' kh ?_;walk_at "W";refine⟨p,M.mv+j,f,m,pc,_,_,M.mv,tc,F',rfl,S',by rw[l1];omega,PJ,by omega,fun l3 H3 F3 S3 g3 k3 nl3 nF3 hl3=>?_⟩
     have hlr3:=k3 _ _ nlr hlr';rw[fW j EE M.nw M.mv (M.mv+j) (Nat.le_refl _) (by omega),l2]at hl3
     walk_at "W";refine⟨lr,l3,_,_,rfl,rfl,hlr3,hl3,?_,?_⟩
     . rw[List.length_map,List.length_map,List.length_map,List.length_cons]
       have h1:=ck EE (M.mv+j);have:sizeLine=16777216:=sizeLine_eq;omega
     have fr4:∀ o,SW.Fr (fun b=>b=lr) H3 (upd H3 lr o):=fun o b u nb e=>by rw[af nb];exact e
     have nlr3:¬ F3 lr:=fun z=>by
      rcases g3 lr z with z | z
      . exact nlr z
      rw[z]at hlr';cases hlr'
     have nld3:¬ F3 ld:=fun z=>by
      rcases g3 ld z with z | z
      . exact nld' z
      rw[k' _ _ (fun z=>z.elim nFd fun z=>nrd z.symm) hld2]at z;cases z
     walk_at "W";refine⟨F3,_,rfl,?_,?_,?_,nlr3,nld3,?_⟩
     . rw[em1]
       exact S3.keep (fr4 _) (fun b hb z=>nlr3 (z ▸ hb)) fun b xs e z=>by rw[z,hlr3]at e;cases e
     . intro b hb
       rcases g3 b hb with z | z
       . exact g' b z
       by_cases hFb:F b
       . exact .inl hFb
       by_cases hb2:b=lr
       . rw[hb2,hlr']at z;cases z
       cases eb:H2 b with
       | none=>exact .inr rfl
       | some o=>rw[k' _ _ (fun y=>y.elim hFb hb2) eb]at z;cases z
     . intro b o nb eb
       have h1:=k' b o nb eb;have nF'b:¬ F' b:=fun z=>by
        rcases g' b z with z | z
        . exact nb (.inl z)
        rw[z]at eb;cases eb
       rw[af (fun z=>nb (.inr z))];exact k3 b o nF'b h1
     rw[aa,er];rw[← List.map_append]
     rfl
 rintro U H' ⟨F',v4,rfl,S',g',k',nlr,nld',hlr'⟩;rw[lseq]at S' hlr';have hld':=k' _ _ (fun z=>z.elim nFd fun z=>nrd z.symm) hld2;obtain⟨t',n',v',FN',FE',X',hF'⟩:=id S';obtain⟨dx',hp'⟩:=X'.ob;walk_at "W";refine SW.bA hp' g.cl_Table g.n_Table_moved (dM ..) ?_;walk_at "W";refine SW.eS (.inl (SqL.of hld')) ?_;rw[lseq];refine⟨_,_,rfl,rfl,dx',_,hp',by show 6 < 1000;decide,?_⟩
 rw[k_];have emv:(mid f m M (due pc M)).mv=M.mv:=by unfold mid;cases M.el <;> rfl
 have fr5:∀ o,SW.Fr (fun b=>b=p) H' (upd H' p o):=fun o b u nb e=>by rw[af nb];exact e
 have nt5:∀ b xs,H' b=some (.tup xs) -> ¬ b=p:=fun b xs e=>aR e hp' (by intro z;cases z)
 have X5:TbX C CT (upd H' p (.ins CT dx' (tfl t' pc v' (((mid f m M (due pc M)).mv:Int)+(due pc M:Nat)) n' tc))) p f m pc { mid f m M (due pc M)with mv:=M.mv+due pc M } tc t' n' v' FN' FE':=
  ⟨⟨dx',by rw[aa,emv];rfl⟩,fr5 _ _ _ (nt5 _ _ X'.mx) X'.mx,X'.bm,X'.nw.keep (fr5 _) (fun b hb z=>X'.np.1 (z ▸ hb)) nt5,X'.el.keep (fr5 _) (fun b hb z=>X'.np.2 (z ▸ hb)) nt5,X'.ne,X'.np⟩
 have S5:Tb C CT (upd H' p (.ins CT dx' (tfl t' pc v' (((mid f m M (due pc M)).mv:Int)+(due pc M:Nat)) n' tc))) p f m pc { mid f m M (due pc M)with mv:=M.mv+due pc M } tc F':=⟨t',n',v',FN',FE',X5,hF'⟩;have npl:lr≠p:=fun z=>nlr (z ▸ S'.self);have npd:ld≠p:=fun z=>nld' (z ▸ S'.self);have hlr5:=fr5 (.ins CT dx' (tfl t' pc v' (((mid f m M (due pc M)).mv:Int)+(due pc M:Nat)) n' tc)) _ _ npl hlr';have hld5:=fr5 (.ins CT dx' (tfl t' pc v' (((mid f m M (due pc M)).mv:Int)+(due pc M:Nat)) n' tc)) _ _ npd hld';have fr05:SW.Fr F' H' (upd H' p (.ins CT dx' (tfl t' pc v' (((mid f m M (due pc M)).mv:Int)+(due pc M:Nat)) n' tc))):=fun b o nb e=>fr5 _ b o (fun z=>nb (z ▸ S'.self)) e;generalize upd H' p (.ins CT dx' (tfl t' pc v' (((mid f m M (due pc M)).mv:Int)+(due pc M:Nat)) n' tc))=H5 at *;walk_at "W";refine wT S5 mU ?_;walk_at "W";refine SW.BQ S5 fun H6 F6 S6 g6 k6=>?_;rw[wH]at S6;have hlr6:=k6 _ _ nlr hlr5;have hld6:=k6 _ _ nld' hld5;walk_at "W";refine wT S6 fT ?_;walk_at "W";refine SW.sC S6 ?_;walk_at "W";have hrl:(rch f m M (due pc M)).length<=4000:=by
  unfold rch;cases e:M.el with
  | none=>exact Nat.zero_le _
  | some EE=>
    obtain⟨PE',sE,hm,_,_⟩:=T.el EE e;have hdl:=gZ (pc:=pc) e hm;have:=ik (f:=f) (m:=m) (n:=M.nw.length) (due pc M) EE M.nw M.mv hdl;have ec:cnt M=tot EE+tot M.nw:=by unfold SW.cnt;rw[e]
    have hcnt:=hcnt.resolve_right (fun z=>by rw[e]at z;cases z)
    show(du f m M.nw.length EE M.mv (due pc M)).length<=4000;omega
 -- the last row,whatever is asked
 have last:∀ z:Int,z=(if ci f m (a_ f m pc M) k=true then 1 else 0) ->
  xo K (d_ 0) (tOp (rI0 fun i j=>V.int (i+j)) (tOp (rI0 fun i j=>V.int (i+j)) (tCB (fun xs H Q=>∃ p ys,xs=[V.ref p]/\(SqL K H p ys∨SqT K H p ys)/\Q (.int ys.length) H) (fQ (d_ 2) fS))
   (tCB (fun xs H Q=>∃ a S n,xs=[V.ref a]/\H a=some (.set S n)/\Q (.int (n:Nat)) H) (fQ (tCB (fun xs H Q=>∃ l ns,xs=[V.ref l]/\SqL K H l (List.map V.int ns)/\List.length ns+1 < 4096/\true=true /\ ∀ a S,H a=none->Q (.ref a) (upd H a (.set S (cf ns)))) (fQ (d_ 3) fS)) fS))) (d_ 5)) "touches"
  { nx:=fun _ H'=>Q .non H',rt:=Q } [some (.ref p),some (.int k),some (.ref ld),some (.ref lr),v4,some (.int z)] H6:=fun z hz=>by
  walk_at "W";refine SW.eS (.inl (SqL.of hld6)) ?_;rw[lseq];walk_at "W";refine⟨lr,_,rfl,SqL.of hlr6,by rw[List.length_cons];omega,rfl,fun a SS ha=>?_⟩
  walk_at "W";refine⟨a,_,_,rfl,aa,?_⟩;walk_at "W";have s7:ao H6 (upd H6 a (.set SS (cf (((plc f m M.nw.length k:Nat):Int)::rch f m M (due pc M))))):=ao.new ha;have S7:=S6.same s7;obtain⟨t7,n7,v7,FN7,FE7,X7,hF7⟩:=id S7;obtain⟨dx7,hp7⟩:=X7.ob;refine SW.dD hp7 g.cl_Table g.n_Table_touches (by show 6 < 1000;decide) ?_
  rw[nH];have fr8:∀ o,SW.Fr (fun b=>b=p) (upd H6 a (.set SS (cf (((plc f m M.nw.length k:Nat):Int)::rch f m M (due pc M))))) (upd (upd H6 a (.set SS (cf (((plc f m M.nw.length k:Nat):Int)::rch f m M (due pc M))))) p o):=fun o b u nb e=>by rw[af nb];exact e
  have nt8:∀ b xs,upd H6 a (.set SS (cf (((plc f m M.nw.length k:Nat):Int)::rch f m M (due pc M)))) b=some (.tup xs) -> ¬ b=p:=fun b xs e=>aR e hp7 (by intro z;cases z)
  have e8:((due pc M:Nat):Int)+((cf (((plc f m M.nw.length k:Nat):Int)::rch f m M (due pc M)):Nat):Int)+z=((tch f m pc M k:Nat):Int):=by
   rw[tG,hz];split <;> simp <;> omega
  refine q _ F6 ⟨t7,n7,v7,FN7,FE7,⟨⟨dx7,by rw[aa];exact congrArg (fun w=>some (HO.ins CT dx7 (tfl t7 pc v7 (a_ f m pc M).mv n7 w))) e8⟩,fr8 _ _ _ (nt8 _ _ X7.mx) X7.mx,X7.bm,X7.nw.keep (fr8 _) (fun b hb z=>X7.np.1 (z ▸ hb)) nt8,X7.el.keep (fr8 _) (fun b hb z=>X7.np.2 (z ▸ hb)) nt8,X7.ne,X7.np⟩,hF7⟩ ?_ ?_
  . intro b hb
    have tr:∀ b,H2 b=none->H b=none:=fun b hb=>s1.free (s2.free hb);rcases g6 b hb with z | z
    . rcases g' b z with z | z
      . exact .inl z
      exact .inr (tr b z)
    by_cases hFb:F b
    . exact .inl hFb
    refine .inr (tr b ?_);by_cases hb2:b=lr
    . rw[hb2,hlr5]at z;cases z
    cases eb:H2 b with
    | none=>rfl
    | some o=>
      have nF'b:¬ F' b:=fun y=>by
       rcases g' b y with y | y
       . exact hFb y
       rw[y]at eb;cases eb
      rw[fr05 _ _ nF'b (k' _ _ (fun y=>y.elim hFb hb2) eb)]at z;cases z
  intro b o nb eb;have e2:=s2 _ _ (s1 _ _ eb);have nblr:b≠lr:=fun z=>by rw[z,lrn]at eb;cases eb
  have nF'b:¬ F' b:=fun y=>by
   rcases g' b y with y | y
   . exact nb y
   rw[y]at e2;cases e2
  have nF6b:¬ F6 b:=fun y=>by
   rcases g6 b y with y | y
   . exact nF'b y
   rw[fr05 _ _ nF'b (k' _ _ (fun y=>y.elim nb nblr) e2)]at y;cases y
  exact fr8 _ _ _ (fun z=>nF6b (z ▸ S6.self)) (s7 _ _ (k6 _ _ nF'b (fr05 _ _ nF'b (k' _ _ (fun y=>y.elim nb nblr) e2))))
 cases es:ci f m (a_ f m pc M) k with
 | true=>
   refine bL ?_;walk_at "W1";exact last 1 (by rw[es];rfl)
 | false=>
   refine bB ?_;walk_at "W1";exact last 0 (by rw[es];rfl)
theorem AQ(d:Dm K CT "put" "Table.put" zT ["self","key","worth"])(g:Gs K mg C CT CD cS PS)(q82_:Mt P w K mg base CT "go_on" 6 ["self","key"] (nB C CT))(q87_:Mt P w K mg base CT "shelf_with" 5 ["self","key"] (gC C CT))(q78_:Mt P w K mg base CT "begin_move" 5 ["self"] (cJ C CT))(q74_:Mt P w K mg base C "put" 4 ["self","key","worth"] (jt C)):Mt P w K mg base CT "put" 7 ["self","key","worth"] (ox C CT):=by
 refine d.mt AR (fun vs H Q E h=>?_) (fun f cdv A outer s H vs Q E hr h=>?_)
 . obtain⟨p,k,y,f,m,pc,M,tc,F,rfl,_⟩:=h
   rfl
 obtain⟨p,k,y,f,m,pc,M,tc,F,rfl,S,T,hpc,hcnt,hcN,q⟩:=h;obtain⟨T1,lk,ct⟩:=eh (pc:=pc) T;obtain⟨T2,_,_⟩:=eW (k:=k) (v:=y) T1;rw[← lk k]at q;refine⟨_,(B.scons (B.expr (B.meth (B.v 0) g.cl_Table q82_ hr.up (B.cons (B.v 1) B.nil)))
  (B.scons (B.set 3 AR.nd (B.meth (B.meth (B.v 0) g.cl_Table q87_ hr.up (B.cons (B.v 1) B.nil)) g.cl_Shelf q74_ hr.up (B.cons (B.v 1) (B.cons (B.v 2) B.nil))))
  (B.scons (B.expr (B.meth0 (B.v 0) g.cl_Table q78_ hr.up))
  (B.sone (B.ret (B.v 3)))))),?_⟩
 walk_at "W";refine wT S jE ?_;walk_at "W";refine SW.yw S T hpc hcN fun H1 F1 S1 g1 k1=>?_;obtain⟨t,n,v,FN,FE,X,hF⟩:=id S1;obtain⟨dx,hp⟩:=X.ob
 -- behind the put on either shelf
 have hcn:tot (a_ f m pc M).nw<=4900:=by
  have:SW.cnt (a_ f m pc M)<=4900:=by rw[ct];exact hcnt
  unfold SW.cnt at this;omega
 have fin:∀(o:Option Int) H2,Tb C CT H2 p f m pc (putAt f m (a_ f m pc M) k y) (tch f m pc M k) F1->SW.Fr F1 H1 H2->o=aA f m (a_ f m pc M) k ->
  rN (kK (iq CT "begin_move" (cJ C CT) [] E0 (d_ 0) fS)) (rW (d_ 3)) { nx:=fun _ H'=>Q .non H',rt:=Q } [some (.ref p),some (.int k),some (.int y),some (oV o)] H2:=fun o H2 S2 k2 ho=>by
  walk_at "W";refine wT S2 dI ?_;walk_at "W";refine SW.mh S2 T2.sz fun H3 F3 S3 g3 k3=>?_;walk_at "W";rw[ho];have fr2:SW.Fr F H H2:=fun b u nb e=>k2 _ _ (fun z=>(g1 b z).elim nb fun z=>by rw[z]at e;cases e) (k1 _ _ nb e)
  refine q H3 F3 S3 (Gr.trans g1 fr2 g3) fun b u nb e=>?_;have h2:=fr2 b u nb e;exact k3 _ _ (fun z=>by
   rcases g1 b z with z | z
   . exact nb z
   rw[z]at e;cases e) h2
 walk_at "W";refine wT S1 dJ ?_;walk_at "W";refine SW.oQ X (fun EE e hne=>?_) (fun hno=>?_)
 . have hel:=X.el
   rw[e]at hel;obtain⟨ea,rfl,SE⟩:=hel;have hcE:tot EE<=4900:=by
    have:SW.cnt (a_ f m pc M)<=4900:=by rw[ct];exact hcnt
    unfold SW.cnt at this;rw[e]at this;have h2:tot EE+tot (a_ f m pc M).nw<=4900:=this;omega
   refine wS SE ⟨by decide +kernel,by decide +kernel,by decide +kernel⟩ ?_
   walk_at "W0";refine qr SE (by omega) fun H2 SE2 K2=>?_
   walk_at "W1";have ep:=tZ (v:=y) e hne;refine fin _ H2 (by rw[ep];exact⟨t,n,_,FN,FE,X.setE e SE2 K2,hF⟩) (fun b u nb e=>K2 _ _ (fun z=>nb ((hF b).mpr (.inr (.inr z)))) e) ?_
   exact jz e hne
 refine wS X.nw ⟨by decide +kernel,by decide +kernel,by decide +kernel⟩ ?_
 walk_at "W0";refine qr X.nw (by omega) fun H2 SN2 K2=>?_
 walk_at "W1";have ep:=uv (v:=y) hno;refine fin _ H2 (by rw[ep];exact⟨t,n,_,FN,FE,X.setN SN2 K2,hF⟩) (fun b u nb e=>K2 _ _ (fun z=>nb ((hF b).mpr (.inr (.inl z)))) e) ?_
 exact jS hno
theorem AY(d:Dm K CT "cut" "Table.cut" yL ["self","key"])(g:Gs K mg C CT CD cS PS)(q82_:Mt P w K mg base CT "go_on" 6 ["self","key"] (nB C CT))(q87_:Mt P w K mg base CT "shelf_with" 5 ["self","key"] (gC C CT))(q78_:Mt P w K mg base CT "begin_move" 5 ["self"] (cJ C CT))(q69_:Mt P w K mg base C "cut" 4 ["self","key"] (ou C)):Mt P w K mg base CT "cut" 7 ["self","key"] (o8 C CT):=by
 refine d.mt AD (fun vs H Q E h=>?_) (fun f cdv A outer s H vs Q E hr h=>?_)
 . obtain⟨p,k,f,m,pc,M,tc,F,rfl,_⟩:=h
   rfl
 obtain⟨p,k,f,m,pc,M,tc,F,rfl,S,T,hpc,hcnt,q⟩:=h;obtain⟨T1,lk,ct⟩:=eh (pc:=pc) T;obtain⟨T2,_,_⟩:=fc (k:=k) T1;rw[← lk k]at q;refine⟨_,(B.scons (B.expr (B.meth (B.v 0) g.cl_Table q82_ hr.up (B.cons (B.v 1) B.nil)))
  (B.scons (B.set 2 AD.nd (B.meth (B.meth (B.v 0) g.cl_Table q87_ hr.up (B.cons (B.v 1) B.nil)) g.cl_Shelf q69_ hr.up (B.cons (B.v 1) B.nil)))
  (B.scons (B.expr (B.meth0 (B.v 0) g.cl_Table q78_ hr.up))
  (B.sone (B.ret (B.v 2)))))),?_⟩
 walk_at "W";refine wT S jE ?_;walk_at "W";refine SW.yw S T hpc (.inl hcnt) fun H1 F1 S1 g1 k1=>?_;obtain⟨t,n,v,FN,FE,X,hF⟩:=id S1;obtain⟨dx,hp⟩:=X.ob;have fin:∀(o:Option Int) H2,Tb C CT H2 p f m pc (bY f m (a_ f m pc M) k) (tch f m pc M k) F1->SW.Fr F1 H1 H2->o=aA f m (a_ f m pc M) k ->
  rN (kK (iq CT "begin_move" (cJ C CT) [] E0 (d_ 0) fS)) (rW (d_ 2)) { nx:=fun _ H'=>Q .non H',rt:=Q } [some (.ref p),some (.int k),some (oV o)] H2:=fun o H2 S2 k2 ho=>by
  walk_at "W";refine wT S2 dI ?_;walk_at "W";refine SW.mh S2 T2.sz fun H3 F3 S3 g3 k3=>?_;walk_at "W";rw[ho];have fr2:SW.Fr F H H2:=fun b u nb e=>k2 _ _ (fun z=>(g1 b z).elim nb fun z=>by rw[z]at e;cases e) (k1 _ _ nb e)
  refine q H3 F3 S3 (Gr.trans g1 fr2 g3) fun b u nb e=>?_;have h2:=fr2 b u nb e;exact k3 _ _ (fun z=>by
   rcases g1 b z with z | z
   . exact nb z
   rw[z]at e;cases e) h2
 walk_at "W";refine wT S1 dJ ?_;walk_at "W";refine SW.oQ X (fun EE e hne=>?_) (fun hno=>?_)
 . have hel:=X.el
   rw[e]at hel;obtain⟨ea,rfl,SE⟩:=hel;refine wS SE ⟨by decide +kernel,by decide +kernel,by decide +kernel⟩ ?_
   walk_at "W0";refine xK SE fun H2 SE2 K2=>?_;walk_at "W1";have ep:=ux e hne;refine fin _ H2 (by rw[ep];exact⟨t,n,_,FN,FE,X.setE e SE2 K2,hF⟩) (fun b u nb e=>K2 _ _ (fun z=>nb ((hF b).mpr (.inr (.inr z)))) e) ?_
   exact jz e hne
 refine wS X.nw ⟨by decide +kernel,by decide +kernel,by decide +kernel⟩ ?_
 walk_at "W0";refine xK X.nw fun H2 SN2 K2=>?_;walk_at "W1";have ep:=tz hno;refine fin _ H2 (by rw[ep];exact⟨t,n,_,FN,FE,X.setN SN2 K2,hF⟩) (fun b u nb e=>K2 _ _ (fun z=>nb ((hF b).mpr (.inr (.inl z)))) e) ?_
 exact jS hno
theorem Bk(d:Dm K CT "look" "Table.look" yj ["self","key"])(g:Gs K mg C CT CD cS PS)(q82_:Mt P w K mg base CT "go_on" 6 ["self","key"] (nB C CT))(q87_:Mt P w K mg base CT "shelf_with" 5 ["self","key"] (gC C CT))(q78_:Mt P w K mg base CT "begin_move" 5 ["self"] (cJ C CT))(q71_:Mt P w K mg base C "look" 4 ["self","key"] (iN C)):Mt P w K mg base CT "look" 7 ["self","key"] (mH C CT):=by
 refine d.mt Bg (fun vs H Q E h=>?_) (fun f cdv A outer s H vs Q E hr h=>?_)
 . obtain⟨p,k,f,m,pc,M,tc,F,rfl,_⟩:=h
   rfl
 obtain⟨p,k,f,m,pc,M,tc,F,rfl,S,T,hpc,hcnt,q⟩:=h;obtain⟨T1,lk,ct⟩:=eh (pc:=pc) T;rw[← lk k]at q;refine⟨_,(B.scons (B.expr (B.meth (B.v 0) g.cl_Table q82_ hr.up (B.cons (B.v 1) B.nil)))
  (B.scons (B.set 2 Bg.nd (B.meth (B.meth (B.v 0) g.cl_Table q87_ hr.up (B.cons (B.v 1) B.nil)) g.cl_Shelf q71_ hr.up (B.cons (B.v 1) B.nil)))
  (B.scons (B.expr (B.meth0 (B.v 0) g.cl_Table q78_ hr.up))
  (B.sone (B.ret (B.v 2)))))),?_⟩
 walk_at "W";refine wT S jE ?_;walk_at "W";refine SW.yw S T hpc (.inl hcnt) fun H1 F1 S1 g1 k1=>?_;obtain⟨t,n,v,FN,FE,X,hF⟩:=id S1;obtain⟨dx,hp⟩:=X.ob;have fin:∀(o:Option Int),o=aA f m (a_ f m pc M) k ->
  rN (kK (iq CT "begin_move" (cJ C CT) [] E0 (d_ 0) fS)) (rW (d_ 2)) { nx:=fun _ H'=>Q .non H',rt:=Q } [some (.ref p),some (.int k),some (oV o)] H1:=fun o ho=>by
  walk_at "W";refine wT S1 dI ?_;walk_at "W";refine SW.mh S1 T1.sz fun H3 F3 S3 g3 k3=>?_;walk_at "W";rw[ho];refine q H3 F3 S3 (Gr.trans g1 k1 g3) fun b u nb e=>?_;have h2:=k1 b u nb e;exact k3 _ _ (fun z=>by
   rcases g1 b z with z | z
   . exact nb z
   rw[z]at e;cases e) h2
 walk_at "W";refine wT S1 dJ ?_;walk_at "W";refine SW.oQ X (fun EE e hne=>?_) (fun hno=>?_)
 . have hel:=X.el
   rw[e]at hel;obtain⟨ea,rfl,SE⟩:=hel;refine wS SE ⟨by decide +kernel,by decide +kernel,by decide +kernel⟩ ?_
   walk_at "W0";refine pB SE ?_;walk_at "W1";refine fin _ ?_;exact jz e hne
 refine wS X.nw ⟨by decide +kernel,by decide +kernel,by decide +kernel⟩ ?_
 walk_at "W0";refine pB X.nw ?_;walk_at "W1";refine fin _ ?_;exact jS hno
theorem BK(d:Dm K CT "shelves" "Table.shelves" zu ["self"])(g:Gs K mg C CT CD cS PS):Mt P w K mg base CT "shelves" 1 ["self"] (eJ C CT):=by
 refine d.mt CV (fun vs H Q E h=>?_) (fun f cdv A outer s H vs Q E hr h=>?_)
 . obtain⟨p,f,m,pc,M,tc,t,n,v,FN,FE,rfl,_⟩:=h
   rfl
 obtain⟨p,f,m,pc,M,tc,t,n,v,FN,FE,rfl,X,q⟩:=h;obtain⟨dx,hp⟩:=X.ob;have hel:=X.el;refine⟨_,(B.sone (B.ret (B.ifx (B.tcmp fh (B.fld (B.v 0)) B.non) (B.lst (B.cons (B.fld (B.v 0)) B.nil)) (B.lst (B.cons (B.fld (B.v 0)) (B.cons (B.fld (B.v 0)) B.nil)))))),?_⟩;walk_at "W";refine SW.bA hp g.cl_Table g.n_Table_elder (bb ..) ?_;walk_at "W";refine⟨rfl,?_⟩;walk_at "W";cases e:M.el with
 | none=>
   rw[e]at hel q;obtain⟨rfl,_⟩:=hel;refine bL ?_;walk_at "W";refine SW.bA hp g.cl_Table g.n_Table_newer (br ..) ?_;walk_at "W";exact⟨by show(1:Nat)<=sizeLine;decide,fun l hl=>q l hl⟩
 | some EE=>
   rw[e]at hel q;obtain⟨ea,rfl,SE⟩:=hel;refine bB ?_;walk_at "W";refine SW.bA hp g.cl_Table g.n_Table_elder (bb ..) ?_;walk_at "W";refine SW.bA hp g.cl_Table g.n_Table_newer (br ..) ?_;walk_at "W";exact⟨by show(2:Nat)<=sizeLine;decide,fun l hl=>q l hl⟩
theorem Bv(d:Dm K CT "many" "Table.many" ym ["self"])(g:Gs K mg C CT CD cS PS)(q88_:Mt P w K mg base CT "shelves" 1 ["self"] (eJ C CT))(q72_:Mt P w K mg base C "many" 1 ["self"] (iK C)):Mt P w K mg base CT "many" 2 ["self"] (mC C CT):=by
 refine d.mt CG (fun vs H Q E h=>?_) (fun f cdv A outer s H vs Q E hr h=>?_)
 . obtain⟨p,f,m,pc,M,tc,F,rfl,_⟩:=h
   rfl
 obtain⟨p,f,m,pc,M,tc,F,rfl,S,q⟩:=h;obtain⟨t,n,v,FN,FE,X,hF⟩:=id S;have hel:=X.el;refine⟨_,(B.sone (B.ret (B.cB SW.tF g.b_sum SW.b_sum (B.cons (SW.B.comp [] ["shelf"] (SW.aC.of rfl rfl (by decide +kernel) (by decide +kernel) rfl trivial rfl rfl rfl) (by decide +kernel) (B.ilist (B.meth0 (B.v 0) g.cl_Table q88_ hr.up)) (fun _ _ _ _=>(B.meth0 (B.v 0) g.cl_Shelf q72_ hr.up))) B.nil)))),?_⟩
 walk_at "W";refine wT S iZ ?_;walk_at "W";refine SW.lE X fun l hl=>?_;have s1:ao H (upd H l (.lst (match M.el with | none=>[.ref n] | some _=>[v,.ref n]))):=ao.new hl;refine⟨l,rfl,⟨_,SqL.of aa⟩,fun D hD=>?_⟩;have nlD:l≠D:=ah aa hD;have SN1:=X.nw.same s1;have cntE:∀(ns:List Int),ns=(match M.el with | none=>[((tot M.nw:Nat):Int)] | some EE=>[((tot EE:Nat):Int),((tot M.nw:Nat):Int)])->ns.sum=((SW.cnt M:Nat):Int):=fun ns h=>by
  rw[h];unfold SW.cnt;cases M.el with
  | none=>simp
  | some EE=>simp
 refine dj (xs:=match M.el with | none=>[.ref n] | some _=>[v,.ref n]) (fun j U' H'=>ao (upd H l (.lst (match M.el with | none=>[.ref n] | some _=>[v,.ref n]))) H'/\(∃ v,U'=[v]) /\
  H' D=some (.lst (((match M.el with | none=>[((tot M.nw:Nat):Int)] | some EE=>[((tot EE:Nat):Int),((tot M.nw:Nat):Int)]).take j).map V.int))) ⟨ao.new hD,⟨none,rfl⟩,aa⟩ (fun j U' H' _ ⟨s',_⟩=>SqL.of (s' _ _ aa)) ?_ ?_
 . rintro j x U' H' hx hj ⟨s',⟨v0,rfl⟩,hD'⟩
   have key:∃ a f m R F',x=.ref a/\Sh C H' a f m R F'/\(match M.el with | none=>[((tot M.nw:Nat):Int)] | some EE=>[((tot EE:Nat):Int),((tot M.nw:Nat):Int)])[j]?=some ((tot R:Nat):Int):=by
    cases e:M.el with
    | none=>
      rw[e]at hx hj
      match j,hx with
      | 0,hx=>exact⟨n,f,m,M.nw,FN,(Option.some.inj hx).symm,SN1.same s',rfl⟩
      | j+1,hx=>simp at hx
    | some EE=>
      rw[e]at hx hj hel;obtain⟨ea,rfl,SE⟩:=hel
      match j,hx with
      | 0,hx=>exact⟨ea,f,m,EE,FE,(Option.some.inj hx).symm,(SE.same s1).same s',rfl⟩
      | 1,hx=>exact⟨n,f,m,M.nw,FN,(Option.some.inj hx).symm,SN1.same s',rfl⟩
      | j+2,hx=>simp at hx
   obtain⟨a,f',m',R,F',rfl,SR,hn⟩:=key;walk_at "W";refine wS SR ⟨by decide +kernel,by decide +kernel,by decide +kernel⟩ ?_
   walk_at "W";refine o5 SR ?_;refine CN.mk hj hD' (by
    rw[List.length_map,List.length_take];have:sizeLine=16777216:=sizeLine_eq;have h2:(match M.el with | none=>[((tot M.nw:Nat):Int)] | some EE=>[((tot EE:Nat):Int),((tot M.nw:Nat):Int)]).length<=2:=by cases M.el <;> simp
    omega) ⟨fun b o e=>?_,⟨_,rfl⟩,?_⟩
   . rw[af (ah e hD)];exact s' _ _ e
   rw[aa,List.take_add_one,hn,List.map_append]
   rfl
 rintro U' H' ⟨s',⟨v0,rfl⟩,hD'⟩;walk_at "W";rw[List.take_of_length_le (by cases M.el <;> simp)]at hD'
 refine⟨D,_,rfl,SqL.of hD',rfl,?_⟩;rw[cntE _ rfl];exact q H' (s1.trans s')
theorem q48_(d:Dfn K mg "shelf_of" yZ ["rows","mixer"])(g:Gs K mg C CT CD cS PS)(q65_:Mkr P w K mg base C "Shelf" 3 ["self","size","mixer"] (iH C))(q74_:Mt P w K mg base C "put" 4 ["self","key","worth"] (jt C)):Fn P w K mg base "shelf_of" 5 ["rows","mixer"] (h9 K C):=by
 refine d.fn nJ (fun vs H Q E h=>?_) (fun f cdv A outer s H vs Q E hr h=>?_)
 . obtain⟨a,t,f,m,R,rfl,_⟩:=h
   rfl
 obtain⟨a,t,f,m,R,rfl,⟨xs,hx,px⟩,hs,htot,ht,bf,q⟩:=h;have lx:xs.length=R.length:=Paired.length px;refine⟨_,(B.scons (B.set 2 nJ.nd (B.make q65_ hr.up (B.cons (B.cB aP g.b_len SW.b_len (B.cons (B.v 0) B.nil)) (B.cons (B.v 1) B.nil))))
  (B.scons (B.fors (B.itup (B.v 0)) (B.gname (i:=3) nJ.nd) (B.sone (B.fors (B.itup (B.v 3)) (B.gtup (B.gcons (B.gname (i:=4) nJ.nd) (B.gcons (B.gname (i:=5) nJ.nd) B.gnil))) (B.sone (B.expr (B.meth (B.v 2) g.cl_Shelf q74_ hr.up (B.cons (B.v 4) (B.cons (B.v 5) B.nil))))))))
  (B.sone (B.ret (B.v 2))))),?_⟩
 walk_at "W";refine SW.eS (.inr hx) ?_;walk_at "W";rw[lx];refine tW (n:=((R.length:Nat):Int)) ht bf (by omega) (by simpa using hs) fun p H1 F1 S1 n1 s1=>?_
 have S1:Sh C H1 p f m (List.replicate R.length []) F1:=S1;have keepT:∀{H':Hp}{b:Addr}{ys:List V},(∀ c o,H c=some o->H' c=some o)->SqT K H b ys->SqT K H' b ys:=fun k hb=>by
  rcases hb with (z | ⟨o,z⟩) | z
  . exact .inl (.inl (k _ _ z))
  . exact .inl (.inr ⟨o,k _ _ z⟩)
  exact .inr z
 have old:∀{H':Hp},SW.Fr F1 H1 H' -> ∀ c o,H c=some o->H' c=some o:=fun k c o e=>k c o (fun z=>by rw[n1 c z]at e;cases e) (s1 c o e)
 walk_at "W";refine⟨a,rfl,⟨_,keepT s1 hx⟩,?_⟩;refine pM (xs:=xs) (fun i U H'=>∃ v3 v4 v5,U=[some (.ref a),some (.ref t),some (.ref p),v3,v4,v5]/\Sh C H' p f m ((R.take i).foldl (fun N r=>aI f m N r) (List.replicate R.length [])) F1/\SW.Fr F1 H1 H'/\tot ((R.take i).foldl (fun N r=>aI f m N r) (List.replicate R.length []))<=tot (R.take i)) ?_ (fun i U H' _ z=>z.elim fun _ z=>z.elim fun _ z=>z.elim fun _ z=>keepT (old z.2.2.1) hx) ?_ ?_
 . exact⟨none,none,none,rfl,S1,Fr.refl _ _,by rw[List.take_zero];show tot (List.replicate R.length [])<=0;rw[mq];exact Nat.le_refl _⟩
 . rintro i x U H' hxi ⟨v3,v4,v5,rfl,S',k',ht'⟩
   have hi:i < R.length:=by
    have:=(List.getElem?_eq_some_iff.mp hxi).1;omega
   obtain⟨b,ys,rfl,hb,pb⟩:wO K H x R[i]:=by
    have key:∀{xs:List V}{R:aj}{i:Nat}{x:V} (hi:i < R.length),Paired (wO K H) xs R->xs[i]?=some x->wO K H x R[i]:=by
     intro xs R i x hi pp
     induction pp generalizing i with
     | nil=>intro h;simp at h
     | cons h t ih=>
       intro e;cases i with
       | zero=>simp at e;subst e;exact h
       | succ i=>exact ih (by simpa using hi) (by simpa using e)
    exact key hi px hxi
   have ly:ys.length=R[i].length:=Paired.length pb;have etk:R.take (i+1)=R.take i++[R[i]]:=by rw[List.take_add_one,List.getElem?_eq_getElem hi];rfl
   have ett:tot (R.take (i+1))=tot (R.take i)+R[i].length:=by
    rw[etk];unfold tot;rw[List.map_append,List.sum_append];simp
   have tle:tot (R.take (i+1))<=tot R:=by
    have:∀(l:aj) (j:Nat),tot (l.take j)<=tot l:=by
     intro l
     induction l with
     | nil=>intro j;rw[List.take_nil];exact Nat.le_refl _
     | cons a l ih=>
       intro j;cases j with
       | zero=>exact Nat.zero_le _
       | succ j=>
         show a.length+tot (l.take j)<=a.length+tot l;have:=ih j;omega
    exact this R (i+1)
   walk_at "W";refine⟨b,rfl,⟨_,keepT (old k') hb⟩,?_⟩;refine pM (xs:=ys) (fun j U H''=>∃ v4 v5,U=[some (.ref a),some (.ref t),some (.ref p),some (.ref b),v4,v5]/\Sh C H'' p f m (aI f m ((R.take i).foldl (fun N r=>aI f m N r) (List.replicate R.length [])) (R[i].take j)) F1/\SW.Fr F1 H1 H'') ⟨v4,v5,rfl,S',k'⟩ (fun j U H'' _ ⟨_,_,_,_,k''⟩=>keepT (old k'') hb) ?_ ?_
   . rintro j y U H'' hyj ⟨v4,v5,rfl,S'',k''⟩
     have hj:j < R[i].length:=by
      have:=(List.getElem?_eq_some_iff.mp hyj).1;omega
     obtain⟨c,rfl,hc⟩:PrT K H y R[i][j]:=by
      have key:∀{xs:List V}{R:av}{i:Nat}{x:V} (hi:i < R.length),Paired (PrT K H) xs R->xs[i]?=some x->PrT K H x R[i]:=by
       intro xs R i x hi pp
       induction pp generalizing i with
       | nil=>intro h;simp at h
       | cons h t ih=>
         intro e;cases i with
         | zero=>simp at e;subst e;exact h
         | succ i=>exact ih (by simpa using hi) (by simpa using e)
      exact key hj pb hyj
     refine⟨c,_,rfl,keepT (old k'') hc,rfl,_,_,rfl,_,_,rfl,rfl,?_⟩;walk_at "W";refine wS S'' ⟨by decide +kernel,by decide +kernel,by decide +kernel⟩ ?_
     walk_at "W";refine qr S'' ?_ fun H3 S3 K3=>?_
     . have h1:=cE (f:=f) (m:=m) (r:=R[i].take j) S'.pos
       have h2:(R[i].take j).length<=R[i].length:=by rw[List.length_take];exact Nat.min_le_right _ _
       omega
     walk_at "W";refine⟨_,_,rfl,?_,k''.trans K3⟩;rw[ip (List.getElem?_eq_getElem hj)];exact S3
   rintro U H'' ⟨v4,v5,rfl,S'',k''⟩;have e9:R[i].take ys.length=R[i]:=List.take_of_length_le (by omega)
   rw[e9]at S'';have ef:(R.take (i+1)).foldl (fun N r=>aI f m N r) (List.replicate R.length [])=aI f m ((R.take i).foldl (fun N r=>aI f m N r) (List.replicate R.length [])) R[i]:=by rw[etk,List.foldl_append];rfl
   refine⟨_,_,_,rfl,by rw[ef];exact S'',k'',?_⟩
   rw[ef];have h1:=cE (f:=f) (m:=m) (r:=R[i]) S'.pos;omega
 rintro U H' ⟨v3,v4,v5,rfl,S',k',_⟩;rw[List.take_of_length_le (by omega)]at S'
 walk_at "W";exact q p H' F1 S' n1 (old k')
theorem AH(d:Dk K mg CT "Table" "Table.__init__" yF ["self","mixer","pace","state"])(g:Gs K mg C CT CD cS PS)(q48_:Fn P w K mg base "shelf_of" 5 ["rows","mixer"] (h9 K C)):Mkr P w K mg base CT "Table" 6 ["self","mixer","pace","state"] (mB C CT):=by
 refine d.mk' Bq (fun vs H Q E h=>?_) (fun f cdv A outer s H vs Q E hr h=>?_)
 . obtain⟨x,t,dx,f,m,pc,v,M,rfl,_⟩:=h
   rfl
 obtain⟨x,t,dx,f,m,pc,v,M,rfl,hx,ht,bf,T,hcnt,hv,q⟩:=h;obtain⟨aE,bE,hE,tE,rE⟩:=g.c_EMPTY;have ntx:t≠x:=aR ht hx (by intro z;cases z)
 refine⟨_,(B.scons (B.set 4 Bq.nd (B.ifx (B.tcmp fh (B.v 3) B.non) (B.gref hE) (B.v 3)))
  (B.scons (B.sfld (B.v 0) (B.v 1))
  (B.scons (B.sfld (B.v 0) (B.v 2))
  (B.scons (B.sfld (B.v 0) (B.ifx (B.tcmp fh (B.ix bJ (B.v 4) B.int) B.non) B.non (B.fn q48_ hr.up (B.cons (B.ix bJ (B.v 4) B.int) (B.cons (B.v 1) B.nil)))))
  (B.scons (B.sfld (B.v 0) (B.ix bJ (B.v 4) B.int))
  (B.scons (B.sfld (B.v 0) (B.fn q48_ hr.up (B.cons (B.ix bJ (B.v 4) B.int) (B.cons (B.v 1) B.nil))))
  (B.sone (B.sfld (B.v 0) B.int)))))))),?_⟩
 walk_at "W";refine⟨rfl,?_⟩;walk_at "W";have key:∀ Q':VK,(∀(aL:Addr) (e:V) (b:Addr),SqT K H aL [e,.int (M.mv:Nat),.ref b]->ElT K H e M.el->iu K H b M.nw->Q' (.ref aL) H) ->
  (if decide (v=.non)=true then tC (.ref aE) [some (.ref x),some (.ref t),some (.int pc),some v,none] H Q' else d_ 3 [some (.ref x),some (.ref t),some (.int pc),some v,none] H Q'):=fun Q' h=>by
  rcases hv with ⟨rfl,rfl⟩ | ⟨a,e,w',rfl,ha,he,hw⟩
  . exact bL (h aE .non bE (tE _) rfl (rE _))
  obtain⟨b,rfl,hb⟩:=hw.rowsT (K:=K);exact bB (SW.C4 rfl (h a e b (SqT.of ha) he.elT hb))
 refine key _ fun aL e b hL hEl hN=>?_;clear key;have L0:(aX "mixer" (V.ref t) []).length<=1:=cL ..;have L1:(aX "pace" (V.int pc) (aX "mixer" (V.ref t) [])).length<=2:=Nat.le_trans (cL ..) (Nat.succ_le_succ L0);have L2:∀ ve,(aX "elder" ve (aX "pace" (V.int pc) (aX "mixer" (V.ref t) []))).length<=3:=fun ve=>Nat.le_trans (cL ..) (Nat.succ_le_succ L1);have L3:∀ ve z,(aX "moved" z (aX "elder" ve (aX "pace" (V.int pc) (aX "mixer" (V.ref t) [])))).length<=4:=fun ve z=>Nat.le_trans (cL ..) (Nat.succ_le_succ (L2 ve));have L4:∀ ve z y,(aX "newer" y (aX "moved" z (aX "elder" ve (aX "pace" (V.int pc) (aX "mixer" (V.ref t) []))))).length<=5:=fun ve z y=>Nat.le_trans (cL ..) (Nat.succ_le_succ (L3 ve z));walk_at "W";refine SW.dD hx g.cl_Table g.n_Table_mixer (by show 0 < 1000;decide) ?_
 walk_at "W";refine SW.dD aa g.cl_Table g.n_Table_pace (by omega) ?_
 rw[iW];have fr0:∀ o b u,b≠x->H b=some u->upd H x o b=some u:=fun o b u nb e=>by rw[af nb];exact e
 walk_at "W";refine⟨aL,_,_,_,rfl,rfl,hL.but hx (fr0 _),rfl,?_⟩;walk_at "W";refine⟨rfl,?_⟩;walk_at "W";have totN:tot M.nw<=5000:=by unfold SW.cnt at hcnt;omega
 have key2:∀ Q':VK,(∀(ve:V) (H1:Hp) (FE:Addr->Prop),oB C H1 f m ve M.el FE->(∀ b,FE b->H b=none/\b≠x)->H1 x=some (.ins CT dx (aX "pace" (.int pc) (aX "mixer" (.ref t) [])))->(∀ b o,b≠x->H b=some o->H1 b=some o)->Q' ve H1) ->
  (if decide (e=.non)=true then tC .non [some (.ref x),some (.ref t),some (.int pc),some v,some (.ref aL)] (upd H x (.ins CT dx (aX "pace" (.int pc) (aX "mixer" (.ref t) [])))) Q'
   else mQ (h9 K C) [] E0 (fQ (tOp (eY K) (d_ 4) (tC (.int 0))) (fQ (d_ 1) fS)) [some (.ref x),some (.ref t),some (.int pc),some v,some (.ref aL)] (upd H x (.ins CT dx (aX "pace" (.int pc) (aX "mixer" (.ref t) [])))) Q'):=fun Q' h=>by
  cases z:M.el with
  | none=>
    rw[z]at hEl h;obtain rfl:e=.non:=hEl;exact bL (h .non _ (fun _=>False) ⟨rfl,fun _ z=>z⟩ (fun _ z=>z.elim) aa (fr0 _))
  | some EE=>
    obtain⟨PE',sE,_,_,_⟩:=T.el EE z;have totE:tot EE<=5000:=by unfold SW.cnt at hcnt;rw[z]at hcnt;have h2:tot EE+tot M.nw<=5000:=hcnt;omega
    rw[z]at hEl h;obtain⟨ea,rfl,hr'⟩:=hEl;refine bB ?_;walk_at "W";refine⟨aL,_,_,_,rfl,rfl,hL.but hx (fr0 _),rfl,?_⟩;walk_at "W";refine⟨ea,t,f,m,EE,rfl,hr'.but hx (fr0 _),sE,totE,fr0 _ _ _ ntx ht,bf,fun sp H1 F1 S1 n1 s1=>?_⟩;rw[pX PE']at S1;refine h (.ref sp) H1 F1 ⟨sp,rfl,S1⟩ (fun b hb=>?_) (s1 _ _ aa) fun b o nb e=>s1 _ _ (fr0 _ _ _ nb e);have h1:=n1 b hb;by_cases z:b=x
    . subst z;rw[aa]at h1;cases h1
    rw[af z]at h1;exact⟨h1,z⟩
 refine key2 _ fun ve H1 FE hE1 nFE hx1 fr1=>?_;clear key2;have fr2:∀ o b u,b≠x->H b=some u->upd H1 x o b=some u:=fun o b u nb e=>by rw[af nb];exact fr1 b u nb e
 walk_at "W";refine SW.dD hx1 g.cl_Table g.n_Table_elder (by omega) ?_
 walk_at "W";refine⟨aL,_,_,_,rfl,rfl,hL.but hx (fr2 _),rfl,?_⟩;walk_at "W";refine SW.dD aa g.cl_Table g.n_Table_moved (by have:=L2 ve;omega) ?_
 rw[iW];walk_at "W";refine⟨aL,_,_,_,rfl,rfl,hL.but hx (fr2 _),rfl,?_⟩;walk_at "W";refine⟨b,t,f,m,M.nw,rfl,hN.but hx (fr2 _),T.sz,totN,fr2 _ _ _ ntx ht,bf,fun sp H2 F2 S2 n2 s2=>?_⟩;rw[pX T.nw]at S2;have hx2:=s2 _ _ (aa (H:=H1) (a:=x) (o:=.ins CT dx (aX "moved" (.int (M.mv:Nat)) (aX "elder" ve (aX "pace" (.int pc) (aX "mixer" (.ref t) []))))));have n2':∀ b,F2 b->H1 b=none/\b≠x:=fun b hb=>by
  have h1:=n2 b hb;by_cases z:b=x
  . subst z;rw[aa]at h1;cases h1
  rw[af z]at h1;exact⟨h1,z⟩
 have n2'':∀ b,F2 b->H b=none:=fun b hb=>by
  obtain⟨h1,nb⟩:=n2' b hb;cases e:H b with
  | none=>rfl
  | some o=>rw[fr1 b o nb e]at h1;cases h1
 walk_at "W";refine SW.dD hx2 g.cl_Table g.n_Table_newer (by have:=L3 ve (.int (M.mv:Nat));omega) ?_
 walk_at "W";refine SW.dD aa g.cl_Table g.n_Table_touches (by have:=L4 ve (.int (M.mv:Nat)) (.ref sp);omega) ?_
 rw[iW,Ax];have fr3:∀ o,SW.Fr (fun b=>b=x) H2 (upd H2 x o):=fun o b u nb e=>by rw[af nb];exact e
 have nt3:∀ b xs,H2 b=some (.tup xs) -> ¬ b=x:=fun b xs e=>aR e hx2 (by intro z;cases z)
 have fr4:∀ o,SW.Fr (fun b=>b=x) H1 (upd H2 x o):=fun o b u nb e=>by rw[af nb];exact s2 _ _ (by rw[af nb];exact e)
 have nt4:∀ b xs,H1 b=some (.tup xs) -> ¬ b=x:=fun b xs e=>aR e hx1 (by intro z;cases z)
 have fr5:∀ o b u,b≠x->H b=some u->upd H2 x o b=some u:=fun o b u nb e=>fr4 o b u nb (fr1 b u nb e);refine q _ (fun b=>b=x∨F2 b∨FE b) ⟨t,sp,ve,F2,FE,⟨⟨dx,aa⟩,fr5 _ _ _ ntx ht,bf,S2.keep (fr3 _) (fun b hb=>(n2' b hb).2) nt3,hE1.keep (fr4 _) (fun b hb=>(nFE b hb).2) nt4,fun b hb hf=>?_,⟨fun z=>(n2' x z).2 rfl,fun z=>(nFE x z).2 rfl⟩⟩,fun b=>Iff.rfl⟩ (fun b hb=>?_) (fr5 _)
 . obtain⟨o',e',_⟩:=hE1.live hb
   rw[(n2' b hf).1]at e';cases e'
 rcases hb with z | z | z
 . exact .inl z
 . exact .inr (n2'' b z)
 exact .inr (nFE b z).1
theorem B6(d:Dm K CT "sizes" "Table.sizes" zS ["self"])(g:Gs K mg C CT CD cS PS)(q77_:Mt P w K mg base C "size" 1 ["self"] (dy C)):Mt P w K mg base CT "sizes" 2 ["self"] (jG C CT):=by
 refine d.mt CB (fun vs H Q E h=>?_) (fun f cdv A outer s H vs Q E hr h=>?_)
 . obtain⟨p,f,m,pc,M,tc,F,rfl,_⟩:=h
   rfl
 obtain⟨p,f,m,pc,M,tc,F,rfl,S,q⟩:=h;obtain⟨t,n,v,FN,FE,X,hF⟩:=id S;obtain⟨dx,hp⟩:=X.ob;have hel:=X.el;refine⟨_,(B.sone (B.ret (B.tup (B.cons (B.ifx (B.tcmp fh (B.fld (B.v 0)) B.non) B.non (B.meth0 (B.fld (B.v 0)) g.cl_Shelf q77_ hr.up)) (B.cons (B.meth0 (B.fld (B.v 0)) g.cl_Shelf q77_ hr.up) B.nil))))),?_⟩;walk_at "W";refine SW.bA hp g.cl_Table g.n_Table_elder (bb ..) ?_;walk_at "W";refine⟨rfl,?_⟩;walk_at "W";have two:(2:Nat)<=sizeLine:=by decide
 cases e:M.el with
 | none=>
   rw[e]at hel q;obtain⟨rfl,_⟩:=hel;refine bL ?_;walk_at "W";refine SW.bA hp g.cl_Table g.n_Table_newer (br ..) ?_;walk_at "W";refine wS X.nw ⟨by decide +kernel,by decide +kernel,by decide +kernel⟩ ?_
   walk_at "W";refine de X.nw ?_;walk_at "W";exact⟨two,fun a ha=>q a ha⟩
 | some EE=>
   rw[e]at hel q;obtain⟨ea,rfl,SE⟩:=hel;refine bB ?_;walk_at "W";refine SW.bA hp g.cl_Table g.n_Table_elder (bb ..) ?_;walk_at "W";refine wS SE ⟨by decide +kernel,by decide +kernel,by decide +kernel⟩ ?_
   walk_at "W";refine de SE ?_;walk_at "W";refine SW.bA hp g.cl_Table g.n_Table_newer (br ..) ?_;walk_at "W";refine wS X.nw ⟨by decide +kernel,by decide +kernel,by decide +kernel⟩ ?_
   walk_at "W";refine de X.nw ?_;walk_at "W";exact⟨two,fun a ha=>q a ha⟩
theorem BZ(d:Dm K CT "touched" "Table.touched" x_ ["self"])(g:Gs K mg C CT CD cS PS):Mt P w K mg base CT "touched" 1 ["self"] (gu C CT):=by
 refine d.mt CM (fun vs H Q E h=>?_) (fun f cdv A outer s H vs Q E hr h=>?_)
 . obtain⟨p,f,m,pc,M,tc,F,rfl,_⟩:=h
   rfl
 obtain⟨p,f,m,pc,M,tc,F,rfl,S,q⟩:=h;obtain⟨t,n,v,FN,FE,X,hF⟩:=id S;obtain⟨dx,hp⟩:=X.ob;refine⟨_,(B.sone (B.ret (B.fld (B.v 0)))),?_⟩;walk_at "W";exact⟨p,CT,dx,_,_,rfl,hp,g.cl_Table,g.n_Table_touches,mT ..,q⟩
def eN:Pos:=⟨210,42,210,68⟩
def eP:Str:=("step":Str) ++ ".<locals>." ++ "<lambda>"
theorem q40_(d:Dfn K mg "place_at" yt ["cursor","size"])(g:Gs K mg C CT CD cS PS)(q45_:Fn P w K mg base "point_of" 1 ["mark"] iV)(q41_:Fn P w K mg base "place_of" 1 ["mark","size"] iL):Fn P w K mg base "place_at" 2 ["cursor","size"] hX:=by
 refine d.fn Bu (fun vs H Q E h=>?_) (fun f cdv A outer s H vs Q E hr h=>?_)
 . obtain⟨c,n,rfl,_⟩:=h
   rfl
 obtain⟨c,n,rfl,hn,q⟩:=h;refine⟨_,(B.sone (B.ret (B.fn q41_ hr.up (B.cons (B.fn q45_ hr.up (B.cons (B.v 0) B.nil)) (B.cons (B.v 1) B.nil))))),?_⟩;walk_at "W";refine uX ?_;walk_at "W";refine uO (by omega) ?_
 walk_at "W";exact q
theorem q3_(d:Dfn K mg "point_behind" y8 ["place","size"])(g:Gs K mg C CT CD cS PS)(q53_:Fn P w K mg base "stretch_of" 2 ["place","size"] fE):Fn P w K mg base "point_behind" 3 ["place","size"] jh:=by
 refine d.fn Bs (fun vs H Q E h=>?_) (fun f cdv A outer s H vs Q E hr h=>?_)
 . obtain⟨p,z,rfl,_⟩:=h
   rfl
 obtain⟨p,z,rfl,hz,q⟩:=h;refine⟨_,(B.sone (B.ret (B.op dH (B.op bX (B.ix bJ (B.fn q53_ hr.up (B.cons (B.v 0) (B.cons (B.v 1) B.nil))) B.int) B.int) (B.gint g.c_MARKS)))),?_⟩;walk_at "W";refine nX ⟨hz.1,by omega⟩ fun t ht=>?_
 walk_at "W";exact q _ (ao.new ht)
theorem Dz(d:Dfn K mg "parts_left" Ab ["place","size","cursor"])(g:Gs K mg C CT CD cS PS)(q53_:Fn P w K mg base "stretch_of" 2 ["place","size"] fE):Fn P w K mg base "parts_left" 3 ["place","size","cursor"] mL:=by
 refine d.fn AU (fun vs H Q E h=>?_) (fun f cdv A outer s H vs Q E hr h=>?_)
 . obtain⟨p,z,c,rfl,_⟩:=h
   rfl
 obtain⟨p,z,c,rfl,hz,q⟩:=h;have lim:sizeLine=16777216:=sizeLine_eq;refine⟨_,(B.sone (B.ret (SW.B.compIf [1,2] ["part","size","cursor"] (SW.aC.of rfl rfl (by decide +kernel) (by decide +kernel) rfl ⟨rfl,rfl,trivial⟩ rfl rfl rfl) (by decide +kernel) (B.itup (B.tup (B.cons (B.v 0) (B.cons (B.op bX (B.v 0) (B.v 1)) B.nil)))) (fun _ _ _ _=>(B.tcmp xQ (B.ix (SW.pO K) (B.fn q53_ hr.up (B.cons (B.v 0) (B.cons (B.op eB (B.v 1) B.int) B.nil))) B.int) (B.v 2))) (fun _ _ _ _=>(B.v 0))))),?_⟩
 walk_at "W";refine⟨by show(2:Nat)<=sizeLine;decide,fun t ht=>?_⟩
 refine⟨t,rfl,⟨_,SqT.of aa⟩,fun D hD=>?_⟩;have s1:ao H (upd H t (.tup [.int p,.int (p+z)])):=ao.new ht;have hDn:∀ b o,H b=some o->b≠D:=fun b o e=>ah e (s1.free hD);have et:upd H t (.tup [.int p,.int (p+z)]) t=some (.tup [.int p,.int (p+z)]):=aa;have htD:t≠D:=ah et hD;have hD0:=s1.free hD;generalize upd H t (.tup [.int p,.int (p+z)])=H1 at *;refine nA (xs:=[p,p+z].map V.int) (fun i U' H'=>(∃ v:Option V,U'=[v,some (.int z),some (.int c)])/\ao H1 H'/\H' D=some (.lst ((([p,p+z].take i).filter fun x=>decide (c<=pt x 16+65536 / (z*2) - 1)).map V.int))) ⟨⟨none,rfl⟩,ao.new hD,aa⟩ (fun i U' H' _ ⟨_,s',_⟩=>SqT.of (s' _ _ et)) ?_ ?_
 . rintro i x U' H' hx hi ⟨⟨v,rfl⟩,s',hD'⟩
   obtain⟨y,rfl⟩:=gU hx;have hy:[p,p+z][i]?=some y:=by
    rw[List.getElem?_map]at hx;obtain⟨y',e1,e2⟩:=Option.map_eq_some_iff.mp hx;cases e2;exact e1
   have hDn1:∀ b o,H1 b=some o->b≠D:=fun b o e=>ah e hD;walk_at "W";refine nX ⟨by omega,by omega⟩ fun u hu=>?_
   have s2:=ao.new (o:=.tup [.int (pt y 16),.int (pt y 16+65536 / (z*2) - 1)]) hu;walk_at "W";refine lR (fun hc=>?_) (fun hc=>?_)
   . walk_at "W"
     refine CN.mk hi (s2 _ _ hD') (by rw[List.length_map];exact Nat.lt_of_le_of_lt (Nat.le_trans (List.length_filter_le ..) (List.length_take_le ..)) (by have:i < 2:=hi;omega)) ⟨⟨_,rfl⟩,fun b o e=>by rw[af (hDn1 b o e)];exact s2 _ _ (s' _ _ e),?_⟩
     rw[aa,cj hy,List.filter_append,List.filter_cons_of_pos (by simpa using hc),List.map_append]
     rfl
   refine CO.mk hi ⟨⟨_,rfl⟩,s'.trans s2,?_⟩;rw[s2 _ _ hD',cj hy,List.filter_append,List.filter_cons_of_neg (by simpa using hc),List.filter_nil,List.append_nil]
 rintro U' H' ⟨_,s',hD'⟩;walk_at "W";exact q D H' (s1.trans s') hD0 hD'
theorem q50_(d:yE K mg "step" uG ["table","cursor"] cS)(g:Gs K mg C CT CD cS PS)(q88_:Mt P w K mg base CT "shelves" 1 ["self"] (eJ C CT))(q77_:Mt P w K mg base C "size" 1 ["self"] (dy C))(q75_:Mt P w K mg base C "row" 3 ["self","place"] (mD C))
 (q40_:Fn P w K mg base "place_at" 2 ["cursor","size"] hX) (q38_:Fn P w K mg base "parts_left" 3 ["place","size","cursor"] mL) (q44_:Fn P w K mg base "point_behind" 3 ["place","size"] jh):Fn P w K mg base "step" 5 ["table","cursor"] (oE C CT PS eN eP):=by
 refine d.fn jJ (fun vs H Q E h=>?_) (fun f A outer s H vs Q E hr h=>?_)
 . obtain⟨p,cur,f,m,pc,M,tc,F,rfl,_⟩:=h
   rfl
 obtain⟨p,cur,f,m,pc,M,tc,F,rfl,S,T,R,hcn,L,q⟩:=h;have lim:sizeLine=16777216:=sizeLine_eq;have hz:=dY T;have hzb:=hz.bounds;obtain⟨pl0,pl1⟩:=fw hz.pos cur;have r0le:((aq M).getD (aD (aq M).length cur).toNat []).length<=100000:=Nat.le_trans (Nat.le_trans (ck _ _) uk) hcn;refine⟨_,(B.scons (B.set 2 jJ.nd (SW.B.sortK (x:="shelf") (k:=1) g.b_sorted g.lam (hr.mono (by decide)) SW.fs (B.meth0 (B.v 0) g.cl_Table q88_ (hr.mono (by decide))) (fun _ _ _ _ _ _ _ hr2=>(B.meth0 (B.v 0) g.cl_Shelf q77_ (hr2.mono (by decide))))))
  (B.scons (B.set 3 jJ.nd (B.meth0 (B.ix aG (B.v 2) B.int) g.cl_Shelf q77_ hr.up))
  (B.scons (B.set 4 jJ.nd (B.fn q40_ hr.up (B.cons (B.v 1) (B.cons (B.v 3) B.nil))))
  (B.scons (B.set 5 jJ.nd (B.meth (B.ix aG (B.v 2) B.int) g.cl_Shelf q75_ hr.up (B.cons (B.v 4) B.nil)))
  (B.scons (B.fors (B.ilist (B.slice gM (B.v 2) (B.part B.int) B.nopart)) (B.gname (i:=6) jJ.nd) (B.sone (B.fors (B.ilist (B.fn q38_ hr.up (B.cons (B.v 4) (B.cons (B.v 3) (B.cons (B.v 1) B.nil))))) (B.gname (i:=7) jJ.nd) (B.sone (B.expr (B.m PySem.F.plainAttrs_list PySem.F.slot_list_extend PySem.F.type_list_extend kM (B.v 5) (B.cons (B.meth (B.v 6) g.cl_Shelf q75_ hr.up (B.cons (B.v 7) B.nil)) B.nil)))))))
  (B.sone (B.ret (B.tup (B.cons (B.fn q44_ hr.up (B.cons (B.v 4) (B.cons (B.v 3) B.nil))) (B.cons (B.v 5) B.nil)))))))))),?_⟩
 walk_at "W";rename_i N hN;have rest:∀(D a:Addr) (gs:List Addr) (FA:Addr->Prop) (H3:Hp),H3 D=some (.lst (.ref a::gs.map V.ref))->Sh C H3 a f m (aq M) FA->(gs=[]/\cu M=none ∨ ∃ b G FB,gs=[b]/\cu M=some G/\Sh C H3 b f m G FB/\G.length=2*(aq M).length) ->
  bI eN eP H3 PS->ak PS H H3->(∀ b,H3 b=none->H b=none)->N [some (.ref p),some (.int cur),some (.ref D),none,none,none,none,none] H3:=by
  intro D a gs FA H3 hD SA hg L3 k3 fr3;refine wGo hN ?_;clear hN;have hat:atI (V.ref a::gs.map V.ref) 0=some (V.ref a):=by unfold atI ixN;rw[if_pos (by decide),if_pos (by simp)];rfl
  walk_at "W";refine fK hD hat ?_;refine wS SA ⟨by decide +kernel,by decide +kernel,by decide +kernel⟩ ?_
  walk_at "W";refine de SA ?_;walk_at "W";refine vm ⟨by omega,by omega⟩ ?_
  walk_at "W";refine fK hD hat ?_;refine wS SA ⟨by decide +kernel,by decide +kernel,by decide +kernel⟩ ?_
  walk_at "W";refine uI SA pl0 pl1 fun lp xs0 H4 s4 hlp elp ps4=>?_;walk_at "W";refine⟨1,rfl,D,_,rfl,SqL.of (s4 _ _ hD),fun l2 hl2=>?_⟩;have ecut:iD (V.ref a::gs.map V.ref) (some 1) none=gs.map V.ref:=by
   rcases hg with ⟨rfl,_⟩ | ⟨b,G,FB,rfl,_⟩ <;> rfl
  rw[ecut];have s5:=ao.new (o:=.lst (gs.map V.ref)) hl2;have e5:upd H4 l2 (.lst (gs.map V.ref)) l2=some (.lst (gs.map V.ref)):=aa;have nlp2:lp≠l2:=ah elp hl2;have elp5:=s5 _ _ elp;have s35:=s4.trans s5;have ps5:=ps4.keep fun a xs e=>s5 _ _ e;generalize upd H4 l2 (.lst (gs.map V.ref))=H5 at *;generalize er0:(aq M).getD (aD (aq M).length cur).toNat []=r0 at *;refine⟨l2,rfl,⟨_,SqL.of e5⟩,?_⟩;refine SW.fj (xs:=gs.map V.ref) (fun i U H'=>∃(v6 v7:Option V) (xs:List V),U=[some (.ref p),some (.int cur),some (.ref D),some (.int ((aq M).length:Nat)),some (.int (aD (aq M).length cur)),some (.ref lp),v6,v7]/\ak lp H5 H'/\H' lp=some (.lst xs) /\
   Prs H' xs (r0++(if i=0 then[]else((cu M).map fun G=>(bU (aD (aq M).length cur) (aq M).length cur).flatMap fun x=>G.getD x.toNat []).getD []))) ⟨none,none,xs0,rfl,ak.refl _ _,elp5,by rw[if_pos rfl,List.append_nil];exact ps5⟩ ?_ ?_ ?_
  . rintro i U H' _ ⟨v6,v7,xs,rfl,k',_⟩
    exact SqL.of (k' _ _ nlp2.symm e5)
  . rintro i x U H6 hx ⟨v6,v7,xs,rfl,k6,elp6,ps6⟩
    rcases hg with ⟨rfl,_⟩ | ⟨b,G,FB,rfl,eG,SB,lG⟩
    . simp at hx
    obtain rfl:i=0:=by
     have:=(List.getElem?_eq_some_iff.mp hx).1;simp at this;exact this
    obtain rfl:V.ref b=x:=by simpa using hx
    have gle:∀ j:Nat,(G.getD j []).length<=100000:=fun j=>Nat.le_trans (Nat.le_trans (ck _ _) (vw eG)) hcn;rw[if_pos rfl,List.append_nil]at ps6;have np:∀ b,fL H3 b->b≠lp:=fun b z y=>by
     subst y;rcases z with ⟨_,_,_,e⟩ | ⟨_,e⟩ | ⟨_,e⟩ <;> rw[hlp]at e <;> cases e
    have SB6:Sh C H6 b f m G FB:=(SB.same s35).keep k6.fr' (fun c hc z=>np c (SB.own3 hc) z) fun c xs e z=>by rw[z,elp5]at e;cases e
    walk_at "W";refine yO ⟨by omega,by omega⟩ fun l7 H7 s7 hl7 el7=>?_
    have nlp7:lp≠l7:=ah elp6 hl7;have SB7:=SB6.same s7;have elp7:=s7 _ _ elp6;have ps7:=ps6.keep fun a xs e=>s7 _ _ e;have k7:ak lp H5 H7:=k6.trans (ao.but s7);walk_at "W";refine⟨l7,rfl,⟨_,SqL.of el7⟩,?_⟩;refine SW.fj (xs:=(bU (aD (aq M).length cur) (aq M).length cur).map V.int) (fun j U H'=>∃(v7:Option V) (ys:List V),U=[some (.ref p),some (.int cur),some (.ref D),some (.int ((aq M).length:Nat)),some (.int (aD (aq M).length cur)),some (.ref lp),some (.ref b),v7]/\ak lp H7 H'/\H' lp=some (.lst ys) /\
     Prs H' ys (r0++((bU (aD (aq M).length cur) (aq M).length cur).take j).flatMap fun x=>G.getD x.toNat [])/\ys.length<=100000*(1+j)) ⟨_,xs,rfl,ak.refl _ _,elp7,by simpa using ps7,by rw[ps7.len];omega⟩ ?_ ?_ ?_
    . rintro j U H' _ ⟨v7,ys,rfl,k',_⟩
      exact SqL.of (k' _ _ nlp7.symm el7)
    . rintro j y U H8 hy ⟨v7,ys,rfl,k8,elp8,ps8,ly⟩
      obtain⟨z,rfl⟩:=gU hy;have hz8:(bU (aD (aq M).length cur) (aq M).length cur)[j]?=some z:=by
       rw[List.getElem?_map]at hy;obtain⟨y',e1,e2⟩:=Option.map_eq_some_iff.mp hy;cases e2;exact e1
      have hzm:=eA (List.mem_of_getElem? hz8);have hj2:j < 2:=Nat.lt_of_lt_of_le (List.getElem?_eq_some_iff.mp hz8).1 (oM _ _ _);have z0:0<=z:=by omega
      have z1:z < G.length:=by omega
      have SB8:Sh C H8 b f m G FB:=SB7.keep k8.fr' (fun c hc y=>np c (SB.own3 hc) y) fun c xs e y=>by rw[y,elp7]at e;cases e
      walk_at "W";refine wBM ?_;walk_at "W";refine⟨.inl ⟨rfl,_,SqL.of elp8⟩,?_⟩;walk_at "W";refine wS SB8 ⟨by decide +kernel,by decide +kernel,by decide +kernel⟩ ?_
      walk_at "W";refine uI SB8 z0 z1 fun l9 zs H9 s9 hl9 el9 ps9=>?_;have elp9:=s9 _ _ elp8;have gl:=gle z.toNat;have lz:=ps9.len;walk_at "W";refine⟨lp,l9,ys,zs,rfl,rfl,elp9,el9,by omega,?_⟩
      have ktp:∀ c xs,H9 c=some (.tup xs)->upd H9 lp (.lst (ys++zs)) c=some (.tup xs):=fun c xs e=>by
       rw[af (fun y=>by rw[y,elp9]at e;cases e)];exact e
      walk_at "W";refine⟨_,ys++zs,rfl,(k8.trans (ao.but s9)).trans ak.at,aa,?_,by rw[List.length_append];omega⟩
      rw[qG hz8,← List.append_assoc];exact dF (ps9.keep ktp) ((ps8.keep fun a xs e=>s9 _ _ e).keep ktp)
    rintro U H8 ⟨v7,ys,rfl,k8,elp8,ps8,ly⟩;walk_at "W";refine⟨_,_,ys,rfl,k7.trans k8,elp8,?_⟩;rw[if_neg (by omega),eG]
    rw[List.length_map,List.take_of_length_le (Nat.le_refl _)]at ps8;exact ps8
  rintro U H6 ⟨v6,v7,xs,rfl,k6,elp6,ps6⟩;have hfin:r0++(if gs.length=0 then[]else((cu M).map fun G=>(bU (aD (aq M).length cur) (aq M).length cur).flatMap fun x=>G.getD x.toNat []).getD [])=r0++((cu M).map fun G=>(bU (aD (aq M).length cur) (aq M).length cur).flatMap fun x=>G.getD x.toNat []).getD []:=by
   rcases hg with ⟨rfl,e⟩ | ⟨b,G,FB,rfl,_⟩
   . rw[e];rfl
   rfl
  rw[List.length_map,hfin]at ps6;walk_at "W";refine wz ⟨by omega,by omega⟩ fun H7 s7=>?_
  walk_at "W";refine⟨by show(2:Nat)<=sizeLine;decide,fun t ht=>?_⟩
  have s8:=ao.new (o:=.tup [.int (cX (aD (aq M).length cur) (aq M).length),.ref lp]) ht;have s78:=s7.trans s8;have h6t:=s7.free ht;have h5t:H5 t=none:=by
   cases e:H5 t with
   | none=>rfl
   | some o=>
     by_cases y:t=lp
     . rw[y,elp6]at h6t;cases h6t
     rw[k6 _ _ y e]at h6t;cases h6t
  exact q t lp xs _ (((L3.same s35).but elp5 k6).same s78) (fun b o n e=>s78 _ _ (k6 b o (ah (k3 b o n e) hlp) (s35 _ _ (k3 b o n e)))) (fr3 _ hlp) (fr3 _ (s35.free h5t)) aa (s78 _ _ elp6) (by unfold bt;rw[er0];exact ps6.keep fun a xs e=>s78 _ _ e)
 clear hN;have fr:∀ H3:Hp,bI eN eP H3 PS->ak PS H H3 -> ∀ b,H3 b=none->H b=none:=fun H3 L3 k3 b hb=>by
  cases e:H b with
  | none=>rfl
  | some o=>
    by_cases y:b=PS
    . exact absurd (y ▸ hb) L3.live
    rw[k3 b o y e]at hb;cases hb
 obtain⟨t0,n,v,FN,FE,X,hF⟩:=id S;have hel:=X.el;refine Aw ?_;walk_at "W";refine wT S iZ ?_;walk_at "W";refine lE X fun l hl=>?_;cases e:M.el with
 | none=>
   have e1:aq M=M.nw:=by unfold aq;rw[e]
   have e2:cu M=none:=by unfold cu;rw[e];rfl
   have s1:=ao.new (o:=.lst [.ref n]) hl;have L1:=L.same s1;refine⟨l,[.ref n],[((M.nw.length:Nat):Int)],rfl,aa,rfl,by show(1:Nat) < 64;decide,L1,fun H2 L2 k2=>?_⟩
   have SN2:=(X.nw.same s1).lam L1 k2;refine⟨fun i u k hu hk=>?_,fun D out hD hs=>?_⟩
   . match i,hu,hk with
     | 0,hu,hk=>
       obtain rfl:V.ref n=u:=Option.some.inj hu;obtain rfl:((M.nw.length:Nat):Int)=k:=Option.some.inj hk;walk_at "W";refine wS SN2 ⟨by decide +kernel,by decide +kernel,by decide +kernel⟩ ?_
       walk_at "W";exact de SN2 ⟨rfl,rfl⟩
   obtain rfl:=hs.one;have s3:=ao.new (o:=.lst [.ref n]) hD;have L3:=L2.same s3;have k3:ak PS H _:=fun b o nb eb=>s3 _ _ (k2 b o nb (s1 _ _ eb));walk_at "W";exact rest D n [] FN _ aa (e1 ▸ SN2.same s3) (.inl ⟨rfl,e2⟩) L3 k3 (fr _ L3 k3)
 | some E=>
   rw[e]at hel;obtain⟨a,rfl,SE⟩:=hel;have hE:=Rat.two T R e;have s1:=ao.new (o:=.lst [.ref a,.ref n]) hl;have L1:=L.same s1;refine⟨l,[.ref a,.ref n],[((E.length:Nat):Int),((M.nw.length:Nat):Int)],rfl,aa,rfl,by show(2:Nat) < 64;decide,L1,fun H2 L2 k2=>?_⟩
   have SN2:=(X.nw.same s1).lam L1 k2;have SE2:=(SE.same s1).lam L1 k2;refine⟨fun i u k hu hk=>?_,fun D out hD hs=>?_⟩
   . match i,hu,hk with
     | 0,hu,hk=>
       obtain rfl:V.ref a=u:=Option.some.inj hu;obtain rfl:((E.length:Nat):Int)=k:=Option.some.inj hk;walk_at "W";refine wS SE2 ⟨by decide +kernel,by decide +kernel,by decide +kernel⟩ ?_
       walk_at "W";exact de SE2 ⟨rfl,rfl⟩
     | 1,hu,hk=>
       obtain rfl:V.ref n=u:=Option.some.inj hu;obtain rfl:((M.nw.length:Nat):Int)=k:=Option.some.inj hk;walk_at "W";refine wS SN2 ⟨by decide +kernel,by decide +kernel,by decide +kernel⟩ ?_
       walk_at "W";exact de SN2 ⟨rfl,rfl⟩
   rcases hE with ⟨h1,h2,h3,h4⟩ | ⟨h1,h2,h3,h4⟩
   . rcases hs.two (by omega)with ⟨y,rfl⟩ | ⟨y,rfl⟩
     . have s3:=ao.new (o:=.lst [.ref a,.ref n]) hD
       have L3:=L2.same s3;have k3:ak PS H _:=fun b o nb eb=>s3 _ _ (k2 b o nb (s1 _ _ eb));walk_at "W";exact rest D a [n] FE _ aa (h2 ▸ SE2.same s3) (.inr ⟨n,M.nw,FN,rfl,h3,SN2.same s3,by rw[h2];exact h4⟩) L3 k3 (fr _ L3 k3)
     omega
   rcases hs.two (by omega)with ⟨y,rfl⟩ | ⟨y,rfl⟩
   . omega
   have s3:=ao.new (o:=.lst [.ref n,.ref a]) hD;have L3:=L2.same s3;have k3:ak PS H _:=fun b o nb eb=>s3 _ _ (k2 b o nb (s1 _ _ eb));walk_at "W";exact rest D n [a] FN _ aa (h2 ▸ SN2.same s3) (.inr ⟨a,E,FE,rfl,h3,SE2.same s3,by rw[h2];exact h4⟩) L3 k3 (fr _ L3 k3)
def oH:Sp:=fun vs H Q _=>∃ m:Nat,vs=[.str (fg m)]/\m < 10 ^ 10 /\ ∀ H',ao H H'->Q (.bl true) H'
theorem AZ{m:Nat}{H:Hp}{Q:VK}{E:XK}(h:m < 10 ^ 10)(k:∀ H',ao H H'->Q (.bl true) H'):oH ([.str (fg m)]++[]) H Q E:=⟨m,rfl,h,k⟩
def jo:Sp:=fun vs H Q _=>∃ i:Int,vs=[.str (tx i)]/\i.natAbs < 10 ^ 10 /\ ∀ H',ao H H'->Q (.int i) H'
theorem wm{i:Int}{H:Hp}{Q:VK}{E:XK}(h:i.natAbs < 10 ^ 10)(k:∀ H',ao H H'->Q (.int i) H'):jo ([.str (tx i)]++[]) H Q E:=⟨i,rfl,h,k⟩
def df(lo hi:Int):Sp:=fun vs H Q _=>∃ i:Int,vs=[.int i]/\lo<=i/\i<=hi/\Q (.bl true) H
theorem jj{lo hi i:Int}{H:Hp}{Q:VK}{E:XK}(h0:lo<=i)(h1:i<=hi)(k:Q (.bl true) H):df lo hi ([.int i]++[]) H Q E:=⟨i,rfl,h0,h1,k⟩
theorem q8_(d:Dfn K mg "are_figures" Af ["text"])(g:Gs K mg C CT CD cS PS):Fn P w K mg base "are_figures" 1 ["text"] oH:=by
 refine d.fn CQ (fun vs H Q E h=>?_) (fun f' cdv A outer st H vs Q E hr h=>?_)
 . obtain⟨m,rfl,_⟩:=h
   rfl
 obtain⟨m,rfl,hm,k⟩:=h;have lim:sizeLine=16777216:=sizeLine_eq;obtain⟨l1,l2⟩:=sG hm;refine⟨_,(B.scons (B.ifs (B.tw (B.wor (B.tnot (B.tchain cF cF B.int (B.cB lL g.b_len SW.b_len (B.cons (B.v 0) B.nil)) (B.gint g.c_MOST_FIGURES))) (B.wor1 (B.tnot (B.tval (B.cB SW.lA g.b_all SW.b_all (B.cons (SW.B.comp [] ["sign"] (SW.aC.of rfl rfl (by decide +kernel) (by decide +kernel) rfl trivial rfl rfl rfl) (by decide +kernel) (SW.B.istr (B.v 0)) (fun _ _ _ _=>(B.cmpI rJ (B.v 0) (SW.B.gstr g.c_FIGURES)))) B.nil))))))) (B.sone (B.ret B.bl)) B.snil)
  (B.sone (B.ret (B.or (B.cmp bN (B.v 0) B.str) (B.one (B.not (B.m PySem.F.plainAttrs_str PySem.F.slot_str_startswith PySem.F.type_str_startswith SW.fP (B.v 0) (B.cons B.str B.nil)))))))),?_⟩
 walk_at "W";refine⟨_,rfl,by omega,?_⟩
 walk_at "W";refine ce (by omega) ?_
 walk_at "W";refine eR (by omega) ?_
 walk_at "W";refine Cg ?_;walk_at "W";refine⟨_,rfl,vD m,fun D hD=>?_⟩;have hsz:(fg m).cps.size=(fg m).length:=rfl;refine qP (fun i U' H'=>∃ v:Option V,U'=[v]/\ao H H'/\H' D=some (.lst ((List.replicate i true).map V.bl))) ⟨none,rfl,ao.new hD,aa⟩ ?_ ?_
 . rintro i U' H' hi ⟨v,rfl,s',hD'⟩
   walk_at "W";refine⟨_,_,rfl,rfl,?_⟩;rw[xw hi];refine CN.mk hi hD' (by rw[List.length_map,List.length_replicate];omega) ⟨_,rfl,fun b o e=>by rw[af (ah e hD)];exact s' _ _ e,?_⟩
   rw[aa,List.replicate_succ',List.map_append]
   rfl
 rintro U' H' ⟨v,rfl,s',hD'⟩;walk_at "W";refine⟨D,_,rfl,SqL.of hD',rfl,?_⟩;have ha:(List.replicate (fg m).cps.size true).all id=true:=List.all_eq_true.mpr fun b hb=>by rw[List.eq_of_mem_replicate hb];rfl
 rw[ha];walk_at "W";refine bB ?_;walk_at "W";refine⟨rfl,?_⟩;refine⟨_,rfl,?_⟩;by_cases h0:fg m=Str.ofString "0"
 . exact ce (by rw[h0]) (k H' s')
 refine aF (fun z=>h0 (by injection z)) ?_
 walk_at "W";refine wBM ?_;walk_at "W";refine⟨rfl,?_⟩;walk_at "W";refine⟨_,_,rfl,rfl,?_⟩;rw[(qF m).resolve_left h0];walk_at "W";exact k H' s'
theorem Bc(d:Dfn K mg "number_of" zj ["word"])(g:Gs K mg C CT CD cS PS)(q2_:Fn P w K mg base "are_figures" 1 ["text"] oH):Fn P w K mg base "number_of" 2 ["word"] jo:=by
 refine d.fn xO (fun vs H Q E h=>?_) (fun f' cdv A outer st H vs Q E hr h=>?_)
 . obtain⟨i,rfl,_⟩:=h
   rfl
 obtain⟨i,rfl,hi,k⟩:=h;have lim:sizeLine=16777216:=sizeLine_eq;refine⟨_,(B.scons (B.set 1 xO.nd (B.ifx (B.tval (B.m PySem.F.plainAttrs_str PySem.F.slot_str_startswith PySem.F.type_str_startswith SW.fP (B.v 0) (B.cons B.str B.nil))) (B.slice SW.x8 (B.v 0) (B.part B.int) B.nopart) (B.v 0)))
  (B.scons (B.ifs (B.tw (B.wor (B.tnot (B.tval (B.fn q2_ hr.up (B.cons (B.v 1) B.nil)))) (B.wor1 (B.tcmp bN (B.v 0) B.str)))) (B.sone (B.ret B.non)) B.snil)
  (B.sone (B.ret (B.cT SW.cC g.b_int SW.b_int (B.cons (B.v 0) B.nil)))))),?_⟩
 walk_at "W";rename_i N hN;have rest:N [some (.str (tx i)),some (.str (fg i.natAbs))] H:=by
  refine SW.wGo hN ?_;walk_at "W";refine AZ hi fun H1 s1=>?_;walk_at "W";refine bB ?_;walk_at "W";refine⟨rfl,?_⟩;walk_at "W";refine aF (fun z=>tR i (by injection z)) ?_
  walk_at "W";refine⟨_,i,rfl,Nat.le_trans (aZ hi) (by decide),cw hi,?_⟩
  walk_at "W";exact k H1 s1
 clear hN;refine wBM ?_;walk_at "W";refine⟨rfl,?_⟩;walk_at "W";refine⟨_,_,rfl,rfl,?_⟩;rw[uF];walk_at "W";by_cases hneg:i < 0
 . refine ce hneg ?_
   walk_at "W";refine⟨1,rfl,?_⟩;walk_at "W";refine⟨_,rfl,?_,?_⟩
   . rw[sS hneg]
     have:=(sG hi).2;omega
   rw[sS hneg];walk_at "W";exact rest
 refine aF hneg ?_;walk_at "W";rw[← Al (by omega)]at rest
 exact rest
theorem Ca(d:Dfn K mg "is_key" yN ["thing"])(g:Gs K mg C CT CD cS PS)(q15_:Fn P w K mg base "is_whole" 1 ["thing"] dC):Fn P w K mg base "is_key" 2 ["thing"] (df 0 1000000000):=by
 refine d.fn C_ (fun vs H Q E h=>?_) (fun f' cdv A outer st H vs Q E hr h=>?_)
 . obtain⟨i,rfl,_⟩:=h
   rfl
 obtain⟨i,rfl,h0,h1,k⟩:=h;refine⟨_,(B.sone (B.ret (B.and (B.fn q15_ hr.up (B.cons (B.v 0) B.nil)) (B.one (B.chain cF cF B.int (B.v 0) (B.gint g.c_GREATEST)))))),?_⟩;walk_at "W";refine⟨i,rfl,?_⟩;walk_at "W";refine bL ?_;walk_at "W";refine ce (by omega) ?_
 walk_at "W";rw[decide_eq_true (by omega)]
 exact k
theorem BY(d:Dfn K mg "is_worth" zh ["thing"])(g:Gs K mg C CT CD cS PS)(q15_:Fn P w K mg base "is_whole" 1 ["thing"] dC):Fn P w K mg base "is_worth" 2 ["thing"] (df (-1000000000) 1000000000):=by
 refine d.fn Cj (fun vs H Q E h=>?_) (fun f' cdv A outer st H vs Q E hr h=>?_)
 . obtain⟨i,rfl,_⟩:=h
   rfl
 obtain⟨i,rfl,h0,h1,k⟩:=h;refine⟨_,(B.sone (B.ret (B.and (B.fn q15_ hr.up (B.cons (B.v 0) B.nil)) (B.one (B.chain cF cF (B.un oF (B.gint g.c_GREATEST)) (B.v 0) (B.gint g.c_GREATEST)))))),?_⟩;walk_at "W";refine⟨i,rfl,?_⟩;walk_at "W";refine bL ?_;walk_at "W";refine ce (by omega) ?_
 walk_at "W";rw[decide_eq_true (by omega)]
 exact k
theorem BG(d:Dfn K mg "is_mixer_part" ze ["thing"])(g:Gs K mg C CT CD cS PS)(q15_:Fn P w K mg base "is_whole" 1 ["thing"] dC):Fn P w K mg base "is_mixer_part" 2 ["thing"] (df 0 65535):=by
 refine d.fn A0 (fun vs H Q E h=>?_) (fun f' cdv A outer st H vs Q E hr h=>?_)
 . obtain⟨i,rfl,_⟩:=h
   rfl
 obtain⟨i,rfl,h0,h1,k⟩:=h;refine⟨_,(B.sone (B.ret (B.and (B.fn q15_ hr.up (B.cons (B.v 0) B.nil)) (B.one (B.chain cF cF B.int (B.v 0) (B.gint g.c_GREATEST_MIXER_PART)))))),?_⟩;walk_at "W";refine⟨i,rfl,?_⟩;walk_at "W";refine bL ?_;walk_at "W";refine ce (by omega) ?_
 walk_at "W";rw[decide_eq_true (by omega)]
 exact k
theorem Cd(d:Dfn K mg "is_pace" yz ["thing"])(g:Gs K mg C CT CD cS PS)(q15_:Fn P w K mg base "is_whole" 1 ["thing"] dC):Fn P w K mg base "is_pace" 2 ["thing"] (df 1 8):=by
 refine d.fn Ck (fun vs H Q E h=>?_) (fun f' cdv A outer st H vs Q E hr h=>?_)
 . obtain⟨i,rfl,_⟩:=h
   rfl
 obtain⟨i,rfl,h0,h1,k⟩:=h;refine⟨_,(B.sone (B.ret (B.and (B.fn q15_ hr.up (B.cons (B.v 0) B.nil)) (B.one (B.chain cF cF B.int (B.v 0) (B.gint g.c_GREATEST_PACE)))))),?_⟩;walk_at "W";refine⟨i,rfl,?_⟩;walk_at "W";refine bL ?_;walk_at "W";refine ce (by omega) ?_
 walk_at "W";rw[decide_eq_true (by omega)]
 exact k
theorem Bo(d:Dfn K mg "is_point" Ac ["thing"])(g:Gs K mg C CT CD cS PS)(q15_:Fn P w K mg base "is_whole" 1 ["thing"] dC):Fn P w K mg base "is_point" 2 ["thing"] (df 0 65535):=by
 refine d.fn BW (fun vs H Q E h=>?_) (fun f' cdv A outer st H vs Q E hr h=>?_)
 . obtain⟨i,rfl,_⟩:=h
   rfl
 obtain⟨i,rfl,h0,h1,k⟩:=h;refine⟨_,(B.sone (B.ret (B.and (B.fn q15_ hr.up (B.cons (B.v 0) B.nil)) (B.one (B.chain cF cF B.int (B.v 0) (B.gint g.c_LAST_POINT)))))),?_⟩;walk_at "W";refine⟨i,rfl,?_⟩;walk_at "W";refine bL ?_;walk_at "W";refine ce (by omega) ?_
 walk_at "W";rw[decide_eq_true (by omega)]
 exact k
theorem xf(a:True):True:=by
 have:=@q8_;have:=@Bc;have:=@Ca;have:=@BY;have:=@BG;have:=@Cd;have:=@Bo
 trivial
inductive gY:PySem.Str->List Int->Prop
 | table {a b p:Int} (h1:0<=a) (h2:a<=65535) (h3:0<=b) (h4:b<=65535) (h5:1<=p) (h6:p<=8):gY "table" [a,b,p]
 | put {k v:Int} (h1:0<=k) (h2:k<=1000000000) (h3:-1000000000<=v) (h4:v<=1000000000):gY "put" [k,v]
 | look {k:Int} (h1:0<=k) (h2:k<=1000000000):gY "look" [k]
 | cut {k:Int} (h1:0<=k) (h2:k<=1000000000):gY "cut" [k]
 | step {c:Int} (h1:0<=c) (h2:c<=65535):gY "step" [c]
 | keys:gY "keys" []
 | places:gY "places" []
 | touched:gY "touched" []
def o9:Sp:=fun vs H Q _=>∃(wd:PySem.Str) (l:Addr) (ns:List Int),vs=[.str wd,.ref l]/\gY wd ns/\H l=some (.lst (ns.map V.int)) /\ ∀ H',ao H H'->Q (.bl true) H'
theorem AJ{wd:PySem.Str}{l:Addr}{ns:List Int}{H:Hp}{Q:VK}{E:XK}(h1:gY wd ns)(h2:H l=some (.lst (ns.map V.int)))(k:∀ H',ao H H'->Q (.bl true) H'):o9 ([.str wd,.ref l]++[]) H Q E:=⟨wd,l,ns,rfl,h1,h2,k⟩
theorem sne{a b:String}(h:(PySem.Str.ofString a == PySem.Str.ofString b)=false):¬ V.str (PySem.Str.ofString a)=V.str (PySem.Str.ofString b):=fun z=>by
 injection z with z;rw[z,beq_self_eq_true]at h;cases h
theorem aY{v:Int}(h:v.natAbs < 10 ^ 10):v.natAbs.log2 < 1920:=by
 by_cases z:v.natAbs=0
 . rw[z];decide
 exact Nat.lt_trans ((Nat.log2_lt z).mpr (show v.natAbs < 2 ^ 40 from Nat.lt_trans h (by decide))) (by decide)
def gX:Sp:=fun vs H Q _=>∃ o:Option Int,vs=[oV o]/\(∀ v,o=some v->v.natAbs < 10 ^ 10)/\Q (.str (wTx o)) H
theorem jW{o:Option Int}{H:Hp}{Q:VK}{E:XK}(h:∀ v,o=some v->v.natAbs < 10 ^ 10)(k:Q (.str (wTx o)) H):gX ([oV o]++[]) H Q E:=⟨o,rfl,h,k⟩
def hV:Sp:=fun vs H Q _=>∃(a:Addr) (e:Option Nat) (n:Nat),vs=[.ref a]/\H a=some (.tup [oN e,.int (n:Nat)])/\(∀ x,e=some x->x<=4096)/\n<=4096 /\ ∀ H',ao H H'->Q (.str (pj e n)) H'
def szW(e:Option Nat)(n:Nat):Nat->List PySem.Str
 | 0=>[]
 | 1=>match e with | none=>[] | some x=>[tx (x:Int)]
 | _+2=>(match e with | none=>[] | some x=>[tx (x:Int)])++[tx (n:Int)]
theorem uq{a:Addr}{e:Option Nat}{n:Nat}{H:Hp}{Q:VK}{E:XK}(h1:H a=some (.tup [oN e,.int (n:Nat)]))(h2:∀ x,e=some x->x<=4096)(h3:n<=4096)(k:∀ H',ao H H'->Q (.str (pj e n)) H'):hV ([.ref a]++[]) H Q E:=⟨a,e,n,rfl,h1,h2,h3,k⟩
def jY:Sp:=fun vs H Q _=>∃(a l:Addr) (b:Int) (xs:List V) (ps:av),vs=[.ref a]/\H a=some (.tup [.int b,.ref l])/\H l=some (.lst xs)/\Prs H xs ps/\b.natAbs < 10 ^ 10/\(∀ p∈ps,p.1.natAbs < 10 ^ 10/\p.2.natAbs < 10 ^ 10)/\ps.length<=5000 /\ ∀ H',ao H H'->Q (.str (vx b ps)) H'
theorem vV{a l:Addr}{b:Int}{xs:List V}{ps:av}{H:Hp}{Q:VK}{E:XK}(h1:H a=some (.tup [.int b,.ref l]))(h2:H l=some (.lst xs))(h3:Prs H xs ps)(h4:b.natAbs < 10 ^ 10)(h5:∀ p∈ps,p.1.natAbs < 10 ^ 10/\p.2.natAbs < 10 ^ 10)(h6:ps.length<=5000)(k:∀ H',ao H H'->Q (.str (vx b ps)) H'):jY ([.ref a]++[]) H Q E:=⟨a,l,b,xs,ps,rfl,h1,h2,h3,h4,h5,h6,k⟩
theorem BF(d:Dfn K mg "is_such_row" yH ["word","numbers"])(g:Gs K mg C CT CD cS PS)(q9_:Fn P w K mg base "is_key" 2 ["thing"] (df 0 1000000000))(q16_:Fn P w K mg base "is_worth" 2 ["thing"] (df (-1000000000) 1000000000))(q10_:Fn P w K mg base "is_mixer_part" 2 ["thing"] (df 0 65535))(q11_:Fn P w K mg base "is_pace" 2 ["thing"] (df 1 8))(q12_:Fn P w K mg base "is_point" 2 ["thing"] (df 0 65535)):Fn P w K mg base "is_such_row" 3 ["word","numbers"] o9:=by
 refine d.fn Cm (fun vs H Q E h=>?_) (fun f' cdv A outer st H vs Q E hr h=>?_)
 . obtain⟨wd,l,ns,rfl,_⟩:=h
   rfl
 obtain⟨wd,l,ns,rfl,hs,hl,k⟩:=h;refine⟨_,(B.scons (B.ifs (B.tcmp bN (B.v 0) B.str) (B.sone (B.ret (B.and (B.cmp bN (B.cB aP g.b_len SW.b_len (B.cons (B.v 1) B.nil)) B.int) (B.and (B.cB SW.lA g.b_all SW.b_all (B.cons (SW.B.comp [] ["part"] (SW.aC.of rfl rfl (by decide +kernel) (by decide +kernel) rfl trivial rfl rfl rfl) (by decide +kernel) (B.ilist (B.slice gM (B.v 1) B.nopart (B.part B.int))) (fun _ _ _ _=>(B.fn q10_ hr.up (B.cons (B.v 0) B.nil)))) B.nil)) (B.one (B.fn q11_ hr.up (B.cons (B.ix aG (B.v 1) B.int) B.nil))))))) B.snil)
  (B.scons (B.ifs (B.tcmp bN (B.v 0) B.str) (B.sone (B.ret (B.and (B.cmp bN (B.cB aP g.b_len SW.b_len (B.cons (B.v 1) B.nil)) B.int) (B.and (B.fn q9_ hr.up (B.cons (B.ix aG (B.v 1) B.int) B.nil)) (B.one (B.fn q16_ hr.up (B.cons (B.ix aG (B.v 1) B.int) B.nil))))))) B.snil)
  (B.scons (B.ifs (B.tcmpI fD (B.v 0) (B.tup (B.cons B.str (B.cons B.str B.nil)))) (B.sone (B.ret (B.and (B.cmp bN (B.cB aP g.b_len SW.b_len (B.cons (B.v 1) B.nil)) B.int) (B.one (B.fn q9_ hr.up (B.cons (B.ix aG (B.v 1) B.int) B.nil)))))) B.snil)
  (B.scons (B.ifs (B.tcmp bN (B.v 0) B.str) (B.sone (B.ret (B.and (B.cmp bN (B.cB aP g.b_len SW.b_len (B.cons (B.v 1) B.nil)) B.int) (B.one (B.fn q12_ hr.up (B.cons (B.ix aG (B.v 1) B.int) B.nil)))))) B.snil)
  (B.sone (B.ret (B.and (B.cmpI fD (B.v 0) (B.tup (B.cons B.str (B.cons B.str (B.cons B.str B.nil))))) (B.one (B.cmp bN (B.cB aP g.b_len SW.b_len (B.cons (B.v 1) B.nil)) B.int))))))))),?_⟩
 cases hs with
 | @table a b p h1 h2 h3 h4 h5 h6=>
   walk_at "W";refine⟨rfl,?_⟩;walk_at "W";refine ce rfl ?_;walk_at "W";refine SW.eS (.inl (SqL.of hl)) ?_;walk_at "W";refine ce rfl ?_;walk_at "W";refine⟨2,rfl,l,_,rfl,SqL.of hl,fun l1 hl1=>?_⟩;have ec:iD ([a,b,p].map V.int) none (some 2)=[V.int a,V.int b]:=rfl;rw[ec];have s1:=ao.new (o:=.lst [V.int a,V.int b]) hl1;have el1:upd H l1 (.lst [V.int a,V.int b]) l1=some (.lst [V.int a,V.int b]):=aa;generalize upd H l1 (.lst [V.int a,V.int b])=H1 at *;refine⟨l1,rfl,⟨_,SqL.of el1⟩,fun D hD=>?_⟩;refine dj (xs:=[V.int a,V.int b]) (fun i U' H'=>∃ v:Option V,U'=[v]/\ao H1 H'/\H' D=some (.lst ((List.replicate i true).map V.bl))) ⟨none,rfl,ao.new hD,aa⟩ (fun i U' H' _ ⟨v,_,s',_⟩=>SqL.of (s' _ _ el1)) ?_ ?_
   . rintro i x U' H' hx hi ⟨v,rfl,s',hD'⟩
     obtain⟨z,rfl,z0,z1⟩:∃ z:Int,x=V.int z/\0<=z/\z<=65535:=by
      match i,hx with
      | 0,hx=>cases hx;exact⟨a,rfl,h1,h2⟩
      | 1,hx=>cases hx;exact⟨b,rfl,h3,h4⟩
     walk_at "W";refine jj z0 z1 ?_;refine CN.mk hi hD' (by rw[List.length_map,List.length_replicate];have:i < 2:=hi;have:sizeLine=16777216:=sizeLine_eq;omega) ⟨_,rfl,fun b o e=>by rw[af (ah e hD)];exact s' _ _ e,?_⟩
     rw[aa,List.replicate_succ',List.map_append]
     rfl
   rintro U' H' ⟨v,rfl,s',hD'⟩;walk_at "W";refine⟨D,_,rfl,SqL.of hD',rfl,?_⟩;rw[show(List.replicate [V.int a,V.int b].length true).all id=true from rfl];refine⟨_,rfl,?_⟩;refine bL ?_;have hl':=(s1.trans s') _ _ hl;walk_at "W";exact jj h5 h6 (k H' (s1.trans s'))
 | put h1 h2 h3 h4=>
   walk_at "W";refine⟨rfl,?_⟩;walk_at "W";refine aF (sne (by decide)) ?_
   walk_at "W";refine⟨rfl,?_⟩;walk_at "W";refine ce rfl ?_;walk_at "W";refine SW.eS (.inl (SqL.of hl)) ?_;walk_at "W";refine ce rfl ?_;walk_at "W";refine jj h1 h2 ?_;walk_at "W";refine bL ?_;walk_at "W";exact jj h3 h4 (k H (fun _ _ e=>e))
 | look h1 h2=>
   walk_at "W";refine⟨rfl,?_⟩;walk_at "W";refine aF (sne (by decide)) ?_
   walk_at "W";refine⟨rfl,?_⟩;walk_at "W";refine aF (sne (by decide)) ?_
   walk_at "W";refine⟨by show(2:Nat)<=sizeLine;decide,fun q1 hq1=>?_⟩
   have s1:=ao.new (o:=.tup [.str "look",.str "cut"]) hq1;walk_at "W";refine⟨q1,_,rfl,.inr (SqT.of aa),rfl,rfl,?_⟩;rw[show inV (V.str (Str.ofString "look")) [V.str (Str.ofString "look"),V.str (Str.ofString "cut")]=true by decide]
   generalize upd H q1 (.tup [.str "look",.str "cut"])=H1 at *;have hl1:=s1 _ _ hl;walk_at "W";refine bL ?_;walk_at "W";refine SW.eS (.inl (SqL.of hl1)) ?_;walk_at "W";refine ce rfl ?_;walk_at "W";exact jj h1 h2 (k H1 s1)
 | cut h1 h2=>
   walk_at "W";refine⟨rfl,?_⟩;walk_at "W";refine aF (sne (by decide)) ?_
   walk_at "W";refine⟨rfl,?_⟩;walk_at "W";refine aF (sne (by decide)) ?_
   walk_at "W";refine⟨by show(2:Nat)<=sizeLine;decide,fun q1 hq1=>?_⟩
   have s1:=ao.new (o:=.tup [.str "look",.str "cut"]) hq1;walk_at "W";refine⟨q1,_,rfl,.inr (SqT.of aa),rfl,rfl,?_⟩;rw[show inV (V.str (Str.ofString "cut")) [V.str (Str.ofString "look"),V.str (Str.ofString "cut")]=true by decide]
   generalize upd H q1 (.tup [.str "look",.str "cut"])=H1 at *;have hl1:=s1 _ _ hl;walk_at "W";refine bL ?_;walk_at "W";refine SW.eS (.inl (SqL.of hl1)) ?_;walk_at "W";refine ce rfl ?_;walk_at "W";exact jj h1 h2 (k H1 s1)
 | step h1 h2=>
   walk_at "W";refine⟨rfl,?_⟩;walk_at "W";refine aF (sne (by decide)) ?_
   walk_at "W";refine⟨rfl,?_⟩;walk_at "W";refine aF (sne (by decide)) ?_
   walk_at "W";refine⟨by show(2:Nat)<=sizeLine;decide,fun q1 hq1=>?_⟩
   have s1:=ao.new (o:=.tup [.str "look",.str "cut"]) hq1;walk_at "W";refine⟨q1,_,rfl,.inr (SqT.of aa),rfl,rfl,?_⟩;rw[show inV (V.str (Str.ofString "step")) [V.str (Str.ofString "look"),V.str (Str.ofString "cut")]=false by decide]
   generalize upd H q1 (.tup [.str "look",.str "cut"])=H1 at *;have hl1:=s1 _ _ hl;walk_at "W";refine bB ?_;walk_at "W";refine⟨rfl,?_⟩;walk_at "W";refine ce rfl ?_;walk_at "W";refine SW.eS (.inl (SqL.of hl1)) ?_;walk_at "W";refine ce rfl ?_;walk_at "W";exact jj h1 h2 (k H1 s1)
 | keys=>
   walk_at "W";refine⟨rfl,?_⟩;walk_at "W";refine aF (sne (by decide)) ?_
   walk_at "W";refine⟨rfl,?_⟩;walk_at "W";refine aF (sne (by decide)) ?_
   walk_at "W";refine⟨by show(2:Nat)<=sizeLine;decide,fun q1 hq1=>?_⟩
   have s1:=ao.new (o:=.tup [.str "look",.str "cut"]) hq1;walk_at "W";refine⟨q1,_,rfl,.inr (SqT.of aa),rfl,rfl,?_⟩;rw[show inV (V.str (Str.ofString "keys")) [V.str (Str.ofString "look"),V.str (Str.ofString "cut")]=false by decide]
   generalize upd H q1 (.tup [.str "look",.str "cut"])=H1 at *;have hl1:=s1 _ _ hl;walk_at "W";refine bB ?_;walk_at "W";refine⟨rfl,?_⟩;walk_at "W";refine aF (sne (by decide)) ?_
   walk_at "W";refine⟨by show(3:Nat)<=sizeLine;decide,fun q2 hq2=>?_⟩
   have s2:=ao.new (o:=.tup [.str "keys",.str "places",.str "touched"]) hq2;walk_at "W";refine⟨q2,_,rfl,.inr (SqT.of aa),rfl,rfl,?_⟩;rw[show inV (V.str (Str.ofString "keys")) [V.str (Str.ofString "keys"),V.str (Str.ofString "places"),V.str (Str.ofString "touched")]=true by decide]
   generalize upd H1 q2 (.tup [.str "keys",.str "places",.str "touched"])=H2 at *;refine⟨_,rfl,?_⟩;refine bL ?_;walk_at "W";refine SW.eS (.inl (SqL.of (s2 _ _ hl1))) ?_;walk_at "W";exact k H2 (s1.trans s2)
 | places=>
   walk_at "W";refine⟨rfl,?_⟩;walk_at "W";refine aF (sne (by decide)) ?_
   walk_at "W";refine⟨rfl,?_⟩;walk_at "W";refine aF (sne (by decide)) ?_
   walk_at "W";refine⟨by show(2:Nat)<=sizeLine;decide,fun q1 hq1=>?_⟩
   have s1:=ao.new (o:=.tup [.str "look",.str "cut"]) hq1;walk_at "W";refine⟨q1,_,rfl,.inr (SqT.of aa),rfl,rfl,?_⟩;rw[show inV (V.str (Str.ofString "places")) [V.str (Str.ofString "look"),V.str (Str.ofString "cut")]=false by decide]
   generalize upd H q1 (.tup [.str "look",.str "cut"])=H1 at *;have hl1:=s1 _ _ hl;walk_at "W";refine bB ?_;walk_at "W";refine⟨rfl,?_⟩;walk_at "W";refine aF (sne (by decide)) ?_
   walk_at "W";refine⟨by show(3:Nat)<=sizeLine;decide,fun q2 hq2=>?_⟩
   have s2:=ao.new (o:=.tup [.str "keys",.str "places",.str "touched"]) hq2;walk_at "W";refine⟨q2,_,rfl,.inr (SqT.of aa),rfl,rfl,?_⟩;rw[show inV (V.str (Str.ofString "places")) [V.str (Str.ofString "keys"),V.str (Str.ofString "places"),V.str (Str.ofString "touched")]=true by decide]
   generalize upd H1 q2 (.tup [.str "keys",.str "places",.str "touched"])=H2 at *;refine⟨_,rfl,?_⟩;refine bL ?_;walk_at "W";refine SW.eS (.inl (SqL.of (s2 _ _ hl1))) ?_;walk_at "W";exact k H2 (s1.trans s2)
 | touched=>
   walk_at "W";refine⟨rfl,?_⟩;walk_at "W";refine aF (sne (by decide)) ?_
   walk_at "W";refine⟨rfl,?_⟩;walk_at "W";refine aF (sne (by decide)) ?_
   walk_at "W";refine⟨by show(2:Nat)<=sizeLine;decide,fun q1 hq1=>?_⟩
   have s1:=ao.new (o:=.tup [.str "look",.str "cut"]) hq1;walk_at "W";refine⟨q1,_,rfl,.inr (SqT.of aa),rfl,rfl,?_⟩;rw[show inV (V.str (Str.ofString "touched")) [V.str (Str.ofString "look"),V.str (Str.ofString "cut")]=false by decide]
   generalize upd H q1 (.tup [.str "look",.str "cut"])=H1 at *;have hl1:=s1 _ _ hl;walk_at "W";refine bB ?_;walk_at "W";refine⟨rfl,?_⟩;walk_at "W";refine aF (sne (by decide)) ?_
   walk_at "W";refine⟨by show(3:Nat)<=sizeLine;decide,fun q2 hq2=>?_⟩
   have s2:=ao.new (o:=.tup [.str "keys",.str "places",.str "touched"]) hq2;walk_at "W";refine⟨q2,_,rfl,.inr (SqT.of aa),rfl,rfl,?_⟩;rw[show inV (V.str (Str.ofString "touched")) [V.str (Str.ofString "keys"),V.str (Str.ofString "places"),V.str (Str.ofString "touched")]=true by decide]
   generalize upd H1 q2 (.tup [.str "keys",.str "places",.str "touched"])=H2 at *;refine⟨_,rfl,?_⟩;refine bL ?_;walk_at "W";refine SW.eS (.inl (SqL.of (s2 _ _ hl1))) ?_;walk_at "W";exact k H2 (s1.trans s2)
theorem B9(d:Dfn K mg "text_of_worth" x9 ["worth"])(g:Gs K mg C CT CD cS PS):Fn P w K mg base "text_of_worth" 1 ["worth"] gX:=by
 refine d.fn Br (fun vs H Q E h=>?_) (fun f' cdv A outer st H vs Q E hr h=>?_)
 . obtain⟨o,rfl,_⟩:=h
   rfl
 obtain⟨o,rfl,hb,k⟩:=h;refine⟨_,(B.sone (B.ret (B.ifx (B.tcmp fh (B.v 0) B.non) B.str (B.cT aQ g.b_str SW.b_str (B.cons (B.v 0) B.nil))))),?_⟩;cases o with
 | none=>
   walk_at "W";refine⟨rfl,?_⟩;walk_at "W";refine ce rfl ?_;walk_at "W";exact k
 | some v=>
   walk_at "W";refine⟨rfl,?_⟩;walk_at "W";refine aF (fun z=>nomatch z) ?_;walk_at "W";refine⟨v,rfl,aY (hb v rfl),?_⟩;exact k
theorem Bz(d:Dfn K mg "text_of_sizes" yY ["sizes"])(g:Gs K mg C CT CD cS PS):Fn P w K mg base "text_of_sizes" 1 ["sizes"] hV:=by
 refine d.fn Bp (fun vs H Q E h=>?_) (fun f' cdv A outer st H vs Q E hr h=>?_)
 . obtain⟨a,e,n,rfl,_⟩:=h
   rfl
 obtain⟨a,e,n,rfl,ha,he,hn,k⟩:=h;refine⟨_,(B.sone (B.ret (B.m PySem.F.plainAttrs_str PySem.F.slot_str_join PySem.F.type_str_join SW.qx B.str (B.cons (SW.B.compIf [] ["size"] (SW.aC.of rfl rfl (by decide +kernel) (by decide +kernel) rfl trivial rfl rfl rfl) (by decide +kernel) (B.itup (B.v 0)) (fun _ _ _ _=>(B.tcmp en (B.v 0) B.non)) (fun _ _ _ _=>(B.cT aQ g.b_str SW.b_str (B.cons (B.v 0) B.nil)))) B.nil)))),?_⟩
 have lim:sizeLine=16777216:=sizeLine_eq;have small:∀ x:Nat,x<=4096->((x:Int)).natAbs < 10 ^ 10:=fun x h=>by rw[Int.natAbs_natCast];exact Nat.lt_of_le_of_lt h (by decide)
 walk_at "W";refine wBM ?_;walk_at "W";refine⟨rfl,?_⟩;walk_at "W";refine⟨a,rfl,⟨_,SqT.of ha⟩,fun D hD=>?_⟩;refine nA (xs:=[oN e,V.int (n:Nat)]) (fun i U' H'=>∃ v:Option V,U'=[v]/\ao H H'/\H' D=some (.lst ((szW e n i).map V.str))) ⟨none,rfl,ao.new hD,aa⟩ (fun i U' H' _ ⟨v,_,s',_⟩=>SqT.of (s' _ _ ha)) ?_ ?_
 . rintro i x U' H' hx hi ⟨v,rfl,s',hD'⟩
   have keep:∀ ys,ao H (upd H' D (.lst ys)):=fun ys b o e=>by rw[af (ah e hD)];exact s' _ _ e
   match i,hx,hi,hD' with
   | 0,hx,hi,hD'=>
     cases hx;cases e with
     | none=>
       walk_at "W";refine⟨rfl,?_⟩;walk_at "W";refine eR rfl ?_;exact CO.mk hi ⟨_,rfl,s',hD'⟩
     | some x=>
       walk_at "W";refine⟨rfl,?_⟩;walk_at "W";refine mW (fun z=>nomatch z) ?_;walk_at "W";refine⟨_,rfl,aY (small x (he x rfl)),?_⟩;exact CN.mk hi hD' (by show(0:Nat) < sizeLine;omega) ⟨_,rfl,keep _,by rw[aa];rfl⟩
   | 1,hx,hi,hD'=>
     cases hx;walk_at "W";refine⟨rfl,?_⟩;walk_at "W";refine mW (fun z=>nomatch z) ?_;walk_at "W";refine⟨_,rfl,aY (small n hn),?_⟩;refine CN.mk hi hD' (by rw[List.length_map];cases e <;> (show(_:Nat) < sizeLine;simp[szW];omega)) ⟨_,rfl,keep _,?_⟩
     rw[aa];cases e <;> rfl
 rintro U' H' ⟨v,rfl,s',hD'⟩;walk_at "W";refine⟨_,D,szW e n 2,rfl,rfl,SqL.of hD',pV (B:=11) (fun y hy=>?_) ?_,?_⟩
 . have:y=tx (n:Int) ∨ ∃ x,e=some x/\y=tx (x:Int):=by
    cases e with
    | none=>exact .inl (List.mem_singleton.mp hy)
    | some x=>
      rcases List.mem_cons.mp hy with z | z
      . exact .inr ⟨x,rfl,z⟩
      exact .inl (List.mem_singleton.mp z)
   rcases this with rfl | ⟨x,ex,rfl⟩
   . exact aZ (small n hn)
   exact aZ (small x (he x ex))
 . cases e with
   | none=>show 1*11+1*1<=16777216;decide
   | some x=>show 2*11+2*1<=16777216;decide
 rw[m4];have:Str.join (Str.ofString ">") (szW e n 2)=pj e n:=by cases e <;> rfl
 rw[this];walk_at "W";exact k H' s'
theorem BJ(d:Dfn K mg "text_of_step" zK ["told"])(g:Gs K mg C CT CD cS PS):Fn P w K mg base "text_of_step" 1 ["told"] jY:=by
 refine d.fn Cf (fun vs H Q E h=>?_) (fun f' cdv A outer st H vs Q E hr h=>?_)
 . obtain⟨a,l,b,xs,ps,rfl,_⟩:=h
   rfl
 obtain⟨a,l,b,xs,ps,rfl,ha,hl,hp,hb,hps,hpl,k⟩:=h;refine⟨_,(B.sone (B.ret (B.m PySem.F.plainAttrs_str PySem.F.slot_str_join PySem.F.type_str_join SW.qx B.str (B.cons (B.op mG (B.lst (B.cons (B.cT aQ g.b_str SW.b_str (B.cons (B.ix bJ (B.v 0) B.int) B.nil)) B.nil)) (SW.B.compN ["key","worth"] [] ["key","worth"] (SW.be.of rfl rfl (by decide +kernel) (by decide +kernel) trivial rfl rfl rfl) (B.ilist (B.ix bJ (B.v 0) B.int)) (fun _ _ _ _=>(B.gtupK K (n:=2) (B.gcons (B.gname (i:=0) (show(["key","worth"]:List Str).Nodup by decide +kernel)) (B.gcons (B.gname (i:=1) (show(["key","worth"]:List Str).Nodup by decide +kernel)) B.gnil)))) (fun _ _ _ _=>(SW.B.fs2 (B.v 0) (B.v 1))))) B.nil)))),?_⟩
 have lim:sizeLine=16777216:=sizeLine_eq;have hxl:xs.length=ps.length:=ez hp;walk_at "W";refine wBM ?_;walk_at "W";refine⟨rfl,?_⟩;walk_at "W";refine⟨b,rfl,aY hb,?_⟩;walk_at "W";refine⟨by show(1:Nat)<=sizeLine;decide,fun q hq=>?_⟩
 rw[show Str.ofString (toString b)=tx b from rfl];have s1:=ao.new (o:=.lst [.str (tx b)]) hq;have eq1:upd H q (.lst [.str (tx b)]) q=some (.lst [.str (tx b)]):=aa;generalize upd H q (.lst [.str (tx b)])=H1 at *;have hl1:=s1 _ _ hl;have ha1:=s1 _ _ ha;have hp1:=hp.keep (SW.ao.tk s1);refine wCompN ?_;walk_at "W";refine⟨l,rfl,⟨_,SqL.of hl1⟩,fun D hD=>?_⟩;refine j6 (tt:=fun _ H Q=>Q true H) (xs:=xs) (fun i U' H'=>(∃ v0 v1:Option V,U'=[v0,v1])/\ao H1 H'/\H' D=some (.lst (((ps.take i).map dG).map V.str))) ⟨⟨none,none,rfl⟩,ao.new hD,by rw[List.take_zero];exact aa⟩ (fun i U' H' _ ⟨_,s',_⟩=>SqL.of (s' _ _ hl1)) ?_ ?_
 . rintro i x U' H' hx hi ⟨⟨v0,v1,rfl⟩,s',hD'⟩
   obtain⟨p,ep,c,rfl,hc⟩:=c_ hp1 hx;obtain⟨b1,b2⟩:=hps p (List.mem_of_getElem? ep);have t1:=aZ b1;have t2:=aZ b2;have z0:PySem.Str.empty.length=0:=rfl;have z1:(Str.ofString ":").length=1:=rfl;refine⟨c,_,rfl,SqT.of (s' _ _ hc),rfl,_,_,rfl,_,_,rfl,rfl,?_⟩;refine bL ?_;refine wFS ?_;walk_at "W";refine⟨p.1,rfl,aY b1,by rw[aV];show _+(tx p.1).length<=_;omega,by rw[aV,aV];show _+(tx p.1).length+_<=_;omega,?_⟩
   walk_at "W";refine⟨p.2,rfl,aY b2,by rw[aV,aV,aV];show _+(tx p.1).length+_+(tx p.2).length<=_;omega,?_⟩
   refine CN.mk hi hD' (by rw[List.length_map,List.length_map,List.length_take];omega) ⟨⟨_,_,rfl⟩,fun b o e=>by rw[af (ah e hD)];exact s' _ _ e,?_⟩
   rw[aa,cj ep,List.map_append,List.map_append]
   rfl
 rintro U' H' ⟨_,s',hD'⟩;rw[hxl,List.take_length]at hD';walk_at "W";refine⟨q,D,_,_,rfl,rfl,s' _ _ eq1,hD',by rw[List.length_map,List.length_map];show 1+_<=_;omega,fun q2 hq2=>?_⟩
 walk_at "W";refine⟨_,q2,tx b::ps.map dG,rfl,rfl,SqL.of aa,pV (B:=23) (fun y hy=>?_) ?_,?_⟩
 . rcases List.mem_cons.mp hy with rfl | z
   . exact Nat.le_trans (aZ hb) (by decide)
   obtain⟨p,hp',rfl⟩:=List.mem_map.mp z;obtain⟨b1,b2⟩:=hps p hp';have t1:=aZ b1;have t2:=aZ b2;have z0:PySem.Str.empty.length=0:=rfl;have z1:(Str.ofString ":").length=1:=rfl;unfold dG;rw[aV,aV,aV];show _+(tx p.1).length+_+(tx p.2).length<=23;omega
 . rw[List.length_cons,List.length_map]
   show(ps.length+1)*23+(ps.length+1)*1<=16777216;omega
 rw[m4];walk_at "W";exact k _ ((s1.trans s').trans (ao.new hq2))
theorem uU(a:True):True:=by
 have:=@BF;have:=@B9;have:=@Bz;have:=@BJ;have:=@xf
 trivial
theorem Ds(k v:Int):xD (.put k v)=[.str "put",.int k,.int v]:=rfl
theorem fA(M:MT)(c:Int):(bhA M c).natAbs < 10 ^ 10:=by
 unfold bhA cX;have h0:=Int.emod_nonneg (pt (aD (aq M).length c) 16+65536 / ((aq M).length:Nat) - 1+1) (show(65536:Int)≠0 by decide)
 have h1:=Int.emod_lt_of_pos (pt (aD (aq M).length c) 16+65536 / ((aq M).length:Nat) - 1+1) (show(0:Int) < 65536 by decide)
 exact Nat.lt_of_le_of_lt (show _<=65536 by omega) (by decide)
theorem yK(o:Option aj):szE o=oN (o.map List.length):=by cases o <;> rfl
theorem q7_(d:Dfn K mg "done" Ag ["table","deed"])(g:Gs K mg C CT CD cS PS)(q86_:Mt P w K mg base CT "put" 7 ["self","key","worth"] (ox C CT))(q79_:Mt P w K mg base CT "cut" 7 ["self","key"] (o8 C CT))(q83_:Mt P w K mg base CT "look" 7 ["self","key"] (mH C CT)):Fn P w K mg base "done" 8 ["table","deed"] (mw C CT):=by
 refine d.fn Dj (fun vs H Q E h=>?_) (fun f cdv A outer s H vs Q E hr h=>?_)
 . obtain⟨p,v,d,f,m,pc,M,tc,F,rfl,_⟩:=h
   rfl
 obtain⟨p,v,d,f,m,pc,M,tc,F,rfl,S,T,hpc,hc,⟨a,rfl,ha⟩,k⟩:=h;refine⟨_,(B.scons (B.ifs (B.tcmp bN (B.ix bJ (B.v 1) B.int) B.str) (B.sone (B.ret (B.meth (B.v 0) g.cl_Table q86_ hr.up (B.cons (B.ix bJ (B.v 1) B.int) (B.cons (B.ix bJ (B.v 1) B.int) B.nil))))) B.snil)
  (B.scons (B.ifs (B.tcmp bN (B.ix bJ (B.v 1) B.int) B.str) (B.sone (B.ret (B.meth (B.v 0) g.cl_Table q83_ hr.up (B.cons (B.ix bJ (B.v 1) B.int) B.nil)))) B.snil)
  (B.sone (B.ret (B.meth (B.v 0) g.cl_Table q79_ hr.up (B.cons (B.ix bJ (B.v 1) B.int) B.nil)))))),?_⟩
 cases d with
 | put kk y=>
   have ha:H a=some (.tup [.str "put",.int kk,.int y]):=ha;walk_at "W";refine⟨rfl,?_⟩;walk_at "W";refine ce rfl ?_;walk_at "W";refine wT S yp ?_;walk_at "W";exact BX S T hpc hc fun H' F' S' g' k'=>k H' F' S' g' k'
 | look kk=>
   have ha:H a=some (.tup [.str "look",.int kk]):=ha;walk_at "W";refine⟨rfl,?_⟩;walk_at "W";refine aF (fun z=>by injection z with z;exact absurd z (by decide +kernel)) ?_
   walk_at "W";refine⟨rfl,?_⟩;walk_at "W";refine ce rfl ?_;walk_at "W";refine wT S wF ?_;walk_at "W";exact zW S T hpc hc fun H' F' S' g' k'=>k H' F' S' g' k'
 | cut kk=>
   have ha:H a=some (.tup [.str "cut",.int kk]):=ha;walk_at "W";refine⟨rfl,?_⟩;walk_at "W";refine aF (fun z=>by injection z with z;exact absurd z (by decide +kernel)) ?_
   walk_at "W";refine⟨rfl,?_⟩;walk_at "W";refine aF (fun z=>by injection z with z;exact absurd z (by decide +kernel)) ?_
   walk_at "W";refine wT S zH ?_;walk_at "W";exact BO S T hpc hc fun H' F' S' g' k'=>k H' F' S' g' k'
theorem q0_(d:Dfn K mg "answer_of" yg ["table","word","numbers"])(g:Gs K mg C CT CD cS PS)(q84_:Mt P w K mg base CT "many" 2 ["self"] (mC C CT))(q89_:Mt P w K mg base CT "sizes" 2 ["self"] (jG C CT))(q91_:Mt P w K mg base CT "touched" 1 ["self"] (gu C CT))(q56_:Fn P w K mg base "text_of_sizes" 1 ["sizes"] hV)(q50_:Fn P w K mg base "step" 5 ["table","cursor"] (oE C CT PS eN eP))(q57_:Fn P w K mg base "text_of_step" 1 ["told"] jY)(q7_:Fn P w K mg base "done" 8 ["table","deed"] (mw C CT))(q58_:Fn P w K mg base "text_of_worth" 1 ["worth"] gX):Fn P w K mg base "answer_of" 9 ["table","word","numbers"] (uy C CT PS eN eP):=by
 refine d.fn Dp (fun vs H Q E h=>?_) (fun f' cdv A outer st H vs Q E hr h=>?_)
 . obtain⟨tb,l,f,m,pc,M,tc,F,wd,ns,rfl,_⟩:=h
   rfl
 obtain⟨tb,l,f,m,pc,M,tc,F,wd,ns,rfl,S,gl,L,hl,a⟩:=h;have lim:sizeLine=16777216:=sizeLine_eq;refine⟨_,(B.scons (B.ifs (B.tcmp bN (B.v 1) B.str) (B.sone (B.ret (B.cT aQ g.b_str SW.b_str (B.cons (B.meth0 (B.v 0) g.cl_Table q84_ hr.up) B.nil)))) B.snil)
  (B.scons (B.ifs (B.tcmp bN (B.v 1) B.str) (B.sone (B.ret (B.fn q56_ hr.up (B.cons (B.meth0 (B.v 0) g.cl_Table q89_ hr.up) B.nil)))) B.snil)
  (B.scons (B.ifs (B.tcmp bN (B.v 1) B.str) (B.sone (B.ret (B.cT aQ g.b_str SW.b_str (B.cons (B.meth0 (B.v 0) g.cl_Table q91_ hr.up) B.nil)))) B.snil)
  (B.scons (B.ifs (B.tcmp bN (B.v 1) B.str) (B.sone (B.ret (B.fn q57_ hr.up (B.cons (B.fn q50_ hr.up (B.cons (B.v 0) (B.cons (B.ix aG (B.v 2) B.int) B.nil))) B.nil)))) B.snil)
  (B.sone (B.ret (B.fn q58_ hr.up (B.cons (B.fn q7_ hr.up (B.cons (B.v 0) (B.cons (B.cT kf g.b_tuple SW.b_tuple (B.cons (B.op mG (B.lst (B.cons (B.v 1) B.nil)) (B.v 2)) B.nil)) B.nil))) B.nil)))))))),?_⟩
 have h4:=gl.le;cases a with
 | keys k=>
   walk_at "W";refine⟨rfl,?_⟩;walk_at "W";refine ce rfl ?_;walk_at "W";refine wT S vW ?_;walk_at "W";refine Ao S fun H1 s1=>?_;walk_at "W";refine⟨_,rfl,aY (by rw[Int.natAbs_natCast];exact Nat.lt_of_le_of_lt gl.le (by decide)),?_⟩
   walk_at "W";exact k H1 s1
 | places k=>
   walk_at "W";refine⟨rfl,?_⟩;walk_at "W";refine aF (sne (by decide)) ?_
   walk_at "W";refine⟨rfl,?_⟩;walk_at "W";refine ce rfl ?_;walk_at "W";refine wT S u_ ?_;walk_at "W";refine xb S fun a ha=>?_;walk_at "W";obtain⟨z1,z2⟩:=gl.sizes;refine uq (e:=M.el.map List.length) (n:=M.nw.length) (by rw[aa,yK]) z1 z2 fun H1 s1=>?_
   exact k H1 ((ao.new ha).trans s1)
 | touched k=>
   walk_at "W";refine⟨rfl,?_⟩;walk_at "W";refine aF (sne (by decide)) ?_
   walk_at "W";refine⟨rfl,?_⟩;walk_at "W";refine aF (sne (by decide)) ?_
   walk_at "W";refine⟨rfl,?_⟩;walk_at "W";refine ce rfl ?_;walk_at "W";refine wT S om ?_;walk_at "W";refine qY S ?_;walk_at "W";have t0:=gl.t0;have t1:=gl.t1;refine⟨_,rfl,aY (Nat.lt_of_le_of_lt (show tc.natAbs<=100 by omega) (by decide)),?_⟩
   walk_at "W";exact k H fun _ _ e=>e
 | step h0 h1 k=>
   walk_at "W";refine⟨rfl,?_⟩;walk_at "W";refine aF (sne (by decide)) ?_
   walk_at "W";refine⟨rfl,?_⟩;walk_at "W";refine aF (sne (by decide)) ?_
   walk_at "W";refine⟨rfl,?_⟩;walk_at "W";refine aF (sne (by decide)) ?_
   walk_at "W";refine⟨rfl,?_⟩;walk_at "W";refine ce rfl ?_;walk_at "W";obtain⟨z1,z2⟩:=gl.step h0 h1;refine BA S gl.T gl.R (by omega) L fun t l' xs H1 L1 K1 hl' ht e1 e2 e3=>?_
   walk_at "W";refine vV e1 e2 e3 (fA _ _) (fun p hp=>(z1 p hp).2.small) (by omega) fun H2 s2=>?_
   exact k H2 (L1.same s2) (K1.trans (ao.but s2))
 | deed dd hb k=>
   cases dd with
   | put x y=>
     rw[show dW (cK.put x y)=Str.ofString "put" from rfl];have hl:H l=some (.lst [.int x,.int y]):=hl;walk_at "W";refine⟨rfl,?_⟩;walk_at "W";refine aF (sne (by decide)) ?_
     walk_at "W";refine⟨rfl,?_⟩;walk_at "W";refine aF (sne (by decide)) ?_
     walk_at "W";refine⟨rfl,?_⟩;walk_at "W";refine aF (sne (by decide)) ?_
     walk_at "W";refine⟨rfl,?_⟩;walk_at "W";refine aF (sne (by decide)) ?_
     walk_at "W";refine⟨by show(1:Nat)<=sizeLine;decide,fun q1 hq1=>?_⟩
     have s1:=ao.new (o:=.lst [.str "put"]) hq1;have e1:upd H q1 (.lst [.str "put"]) q1=some (.lst [.str "put"]):=aa;have hl1:=s1 _ _ hl;generalize upd H q1 (.lst [.str "put"])=H1 at *;walk_at "W";refine⟨q1,l,_,_,rfl,rfl,e1,hl1,by rw[lim];show(_:Nat)<=16777216;simp,fun q2 hq2=>?_⟩
     have s2:ao H1 _:=ao.new (o:=.lst [.str "put",.int x,.int y]) hq2;have e2:upd H1 q2 (.lst [.str "put",.int x,.int y]) q2=some (.lst [.str "put",.int x,.int y]):=aa;refine⟨q2,_,rfl,.inl ⟨SqL.of aa,fun t ht=>?_⟩⟩;have s3:ao (upd H1 q2 (.lst [.str "put",.int x,.int y])) _:=ao.new (o:=.tup [.str "put",.int x,.int y]) ht;have e3:upd (upd H1 q2 (.lst [.str "put",.int x,.int y])) t (.tup [.str "put",.int x,.int y]) t=some (.tup [.str "put",.int x,.int y]):=aa;have s4:=(s1.trans s2).trans s3;walk_at "W";refine o_ (d:=.put x y) (S.same s4) gl.T (Nat.le_trans gl.p8 (by decide)) gl.le ⟨t,rfl,e3⟩ fun H' F' S' g' k'=>?_
     walk_at "W";refine jW (gl.look _) ?_;exact k H' F' S' (fun b hb=>(g' b hb).imp id fun z=>s4.free z) fun b o n e=>k' b o n (s4 b o e)
   | look x=>
     rw[show dW (cK.look x)=Str.ofString "look" from rfl];have hl:H l=some (.lst [.int x]):=hl;walk_at "W";refine⟨rfl,?_⟩;walk_at "W";refine aF (sne (by decide)) ?_
     walk_at "W";refine⟨rfl,?_⟩;walk_at "W";refine aF (sne (by decide)) ?_
     walk_at "W";refine⟨rfl,?_⟩;walk_at "W";refine aF (sne (by decide)) ?_
     walk_at "W";refine⟨rfl,?_⟩;walk_at "W";refine aF (sne (by decide)) ?_
     walk_at "W";refine⟨by show(1:Nat)<=sizeLine;decide,fun q1 hq1=>?_⟩
     have s1:=ao.new (o:=.lst [.str "look"]) hq1;have e1:upd H q1 (.lst [.str "look"]) q1=some (.lst [.str "look"]):=aa;have hl1:=s1 _ _ hl;generalize upd H q1 (.lst [.str "look"])=H1 at *;walk_at "W";refine⟨q1,l,_,_,rfl,rfl,e1,hl1,by rw[lim];show(_:Nat)<=16777216;simp,fun q2 hq2=>?_⟩
     have s2:ao H1 _:=ao.new (o:=.lst [.str "look",.int x]) hq2;have e2:upd H1 q2 (.lst [.str "look",.int x]) q2=some (.lst [.str "look",.int x]):=aa;refine⟨q2,_,rfl,.inl ⟨SqL.of aa,fun t ht=>?_⟩⟩;have s3:ao (upd H1 q2 (.lst [.str "look",.int x])) _:=ao.new (o:=.tup [.str "look",.int x]) ht;have e3:upd (upd H1 q2 (.lst [.str "look",.int x])) t (.tup [.str "look",.int x]) t=some (.tup [.str "look",.int x]):=aa;have s4:=(s1.trans s2).trans s3;walk_at "W";refine o_ (d:=.look x) (S.same s4) gl.T (Nat.le_trans gl.p8 (by decide)) gl.le ⟨t,rfl,e3⟩ fun H' F' S' g' k'=>?_
     walk_at "W";refine jW (gl.look _) ?_;exact k H' F' S' (fun b hb=>(g' b hb).imp id fun z=>s4.free z) fun b o n e=>k' b o n (s4 b o e)
   | cut x=>
     rw[show dW (cK.cut x)=Str.ofString "cut" from rfl];have hl:H l=some (.lst [.int x]):=hl;walk_at "W";refine⟨rfl,?_⟩;walk_at "W";refine aF (sne (by decide)) ?_
     walk_at "W";refine⟨rfl,?_⟩;walk_at "W";refine aF (sne (by decide)) ?_
     walk_at "W";refine⟨rfl,?_⟩;walk_at "W";refine aF (sne (by decide)) ?_
     walk_at "W";refine⟨rfl,?_⟩;walk_at "W";refine aF (sne (by decide)) ?_
     walk_at "W";refine⟨by show(1:Nat)<=sizeLine;decide,fun q1 hq1=>?_⟩
     have s1:=ao.new (o:=.lst [.str "cut"]) hq1;have e1:upd H q1 (.lst [.str "cut"]) q1=some (.lst [.str "cut"]):=aa;have hl1:=s1 _ _ hl;generalize upd H q1 (.lst [.str "cut"])=H1 at *;walk_at "W";refine⟨q1,l,_,_,rfl,rfl,e1,hl1,by rw[lim];show(_:Nat)<=16777216;simp,fun q2 hq2=>?_⟩
     have s2:ao H1 _:=ao.new (o:=.lst [.str "cut",.int x]) hq2;have e2:upd H1 q2 (.lst [.str "cut",.int x]) q2=some (.lst [.str "cut",.int x]):=aa;refine⟨q2,_,rfl,.inl ⟨SqL.of aa,fun t ht=>?_⟩⟩;have s3:ao (upd H1 q2 (.lst [.str "cut",.int x])) _:=ao.new (o:=.tup [.str "cut",.int x]) ht;have e3:upd (upd H1 q2 (.lst [.str "cut",.int x])) t (.tup [.str "cut",.int x]) t=some (.tup [.str "cut",.int x]):=aa;have s4:=(s1.trans s2).trans s3;walk_at "W";refine o_ (d:=.cut x) (S.same s4) gl.T (Nat.le_trans gl.p8 (by decide)) gl.le ⟨t,rfl,e3⟩ fun H' F' S' g' k'=>?_
     walk_at "W";refine jW (gl.look _) ?_;exact k H' F' S' (fun b hb=>(g' b hb).imp id fun z=>s4.free z) fun b o n e=>k' b o n (s4 b o e)
theorem uK(a:True):True:=by
 have:=@q7_;have:=@q0_;have:=@uU
 trivial
theorem wM(x:V)(xs:List V):atI (x::xs) 0=some x:=by
 unfold atI ixN;rw[if_pos (by decide),if_pos (by rw[List.length_cons];omega)]
 rfl
theorem t9(x:V)(xs:List V):iD (x::xs) (some 1) none=xs:=by
 unfold iD;rw[HT.um,show(1:Int)=((1:Nat):Int)from rfl,HT.mI,Nat.min_eq_left (by rw[List.length_cons];omega)]
 exact List.take_of_length_le (by rw[List.length_drop];exact Nat.le_refl _)
theorem Cs(wd:PySem.Str)(ns:List Int):rO wd ns=Str.join (Str.ofString " ") (wd::ns.map tx):=rfl
theorem Say.such{C CT CD PS:Addr}{pos:Pos}{qual:Str}{q dq:Addr}{tv:V}{H:Hp}{Q:VK}{wd:PySem.Str}{ns:List Int}(s:SW.Say C CT CD PS pos qual q dq tv H Q wd ns):gY wd ns:=by
 cases s with
 | table h1 h2 h3 h4 h5 h6 k=>exact .table h1 h2 h3 h4 h5 h6
 | ans e S g L a=>
   cases a with
   | keys k=>exact .keys
   | places k=>exact .places
   | touched k=>exact .touched
   | step h0 h1 k=>exact .step h0 h1
   | deed d hb k=>
     cases d with
     | put x y=>exact .put hb.1.1 hb.1.2 hb.2.1 hb.2.2
     | look x=>exact .look hb.1 hb.2
     | cut x=>exact .cut hb.1 hb.2
theorem Ans.ne{C CT PS:Addr}{pos:Pos}{qual:Str}{tb:Addr}{f m:Int}{pc:Nat}{M:MT}{tc:Int}{F:Addr->Prop}{H:Hp}{Q:VK}{wd:PySem.Str}{ns:List Int}(a:SW.Ans C CT PS pos qual tb f m pc M tc F H Q wd ns):¬ V.str wd=V.str (Str.ofString "table"):=by
 cases a with
 | keys k=>exact sne (by decide)
 | places k=>exact sne (by decide)
 | touched k=>exact sne (by decide)
 | step h0 h1 k=>exact sne (by decide)
 | deed d hb k=>
   cases d with
   | put x y=>exact sne (by decide)
   | look x=>exact sne (by decide)
   | cut x=>exact sne (by decide)
theorem gY.num{wd:PySem.Str}{ns:List Int}(h:gY wd ns):(∀ i∈ns,i.natAbs < 10 ^ 10)/\ns.length<=3/\32∉wd.cps.toList/\wd.length<=11:=by
 have e:(10:Nat) ^ 10=10000000000:=by decide
 rw[e];cases h with
 | @table a b p h1 h2 h3 h4 h5 h6=>exact⟨fun i hi=>by simp only[List.mem_cons,List.not_mem_nil,or_false]at hi;omega,Nat.le_of_ble_eq_true rfl,by decide,by decide⟩
 | put h1 h2 h3 h4=>exact⟨fun i hi=>by simp only[List.mem_cons,List.not_mem_nil,or_false]at hi;omega,Nat.le_of_ble_eq_true rfl,by decide,by decide⟩
 | look h1 h2=>exact⟨fun i hi=>by simp only[List.mem_cons,List.not_mem_nil,or_false]at hi;omega,Nat.le_of_ble_eq_true rfl,by decide,by decide⟩
 | cut h1 h2=>exact⟨fun i hi=>by simp only[List.mem_cons,List.not_mem_nil,or_false]at hi;omega,Nat.le_of_ble_eq_true rfl,by decide,by decide⟩
 | step h1 h2=>exact⟨fun i hi=>by simp only[List.mem_cons,List.not_mem_nil,or_false]at hi;omega,Nat.le_of_ble_eq_true rfl,by decide,by decide⟩
 | keys=>exact⟨fun i hi=>(List.not_mem_nil hi).elim,by decide,by decide,by decide⟩
 | places=>exact⟨fun i hi=>(List.not_mem_nil hi).elim,by decide,by decide,by decide⟩
 | touched=>exact⟨fun i hi=>(List.not_mem_nil hi).elim,by decide,by decide,by decide⟩
theorem sT(d:Dk K mg CD "Desk" "Desk.__init__" z0_ ["self"])(g:Gs K mg C CT CD cS PS):Mkr P w K mg base CD "Desk" 1 ["self"] (mE CD):=by
 refine d.mk' CZ (fun vs H Q E h=>?_) (fun f cdv A outer s H vs Q E hr h=>?_)
 . obtain⟨x,dx,rfl,_⟩:=h
   rfl
 obtain⟨x,dx,rfl,hx,q⟩:=h;refine⟨_,(B.sone (B.sfld (B.v 0) B.non)),?_⟩;walk_at "W";refine SW.dD hx g.cl_Desk g.n_Desk_table (by show 0 < 1000;decide) ?_
 walk_at "W";exact q
theorem xT(d:Dm K CD "say" "Desk.say" z1_ ["self","row"])(g:Gs K mg C CT CD cS PS)(q35_:Fn P w K mg base "number_of" 2 ["word"] jo)(q14_:Fn P w K mg base "is_such_row" 3 ["word","numbers"] o9)(q66_:Mkr P w K mg base CT "Table" 6 ["self","mixer","pace","state"] (mB C CT))(q1_:Fn P w K mg base "answer_of" 9 ["table","word","numbers"] (uy C CT PS eN eP)):Mt P w K mg base CD "say" 10 ["self","row"] (kn C CT CD PS eN eP):=by
 refine d.mt zV (fun vs H Q E h=>?_) (fun f' cdv A outer st H vs Q E hr h=>?_)
 . obtain⟨q,dq,tv,wd,ns,rfl,_⟩:=h
   rfl
 obtain⟨q,dq,tv,wd,ns,rfl,hq,sy⟩:=h;have lim:sizeLine=16777216:=sizeLine_eq;obtain⟨hnum,hlen,hfree,hw⟩:=(Say.such sy).num;refine⟨_,(B.scons (B.ifs (B.tnot (B.tval (B.cB SW.jq g.b_isinstance SW.b_isinstance (B.cons (B.v 1) (B.cons (B.ty g.b_str SW.b_str) B.nil))))) (B.sone B.never) B.snil)
  (B.scons (B.set 2 zV.nd (B.m PySem.F.plainAttrs_str PySem.F.slot_str_split PySem.F.type_str_split SW.gv (B.v 1) (B.cons B.str B.nil)))
  (B.scons (SW.B.compSet 3 [] ["word"] (SW.aC.of rfl rfl (by decide +kernel) (by decide +kernel) rfl trivial rfl rfl rfl) (by decide +kernel) zV.nd (B.ilist (B.slice gM (B.v 2) (B.part B.int) B.nopart)) (fun _ _ _ _=>(B.fn q35_ hr.up (B.cons (B.v 0) B.nil))))
  (B.scons (B.ifs (B.tnot (B.tval (B.fn q14_ hr.up (B.cons (B.ix aG (B.v 2) B.int) (B.cons (B.v 3) B.nil))))) (B.sone B.never) B.snil)
  (B.scons (B.ifs (B.tcmp bN (B.ix aG (B.v 2) B.int) B.str) (B.scons (B.sfld (B.v 0) (B.make q66_ hr.up (B.cons (B.tup (B.cons (B.ix aG (B.v 3) B.int) (B.cons (B.ix aG (B.v 3) B.int) B.nil))) (B.cons (B.ix aG (B.v 3) B.int) (B.cons B.non B.nil)))))
  (B.sone (B.ret B.str))) B.snil)
  (B.scons (B.ifs (B.tcmp fh (B.fld (B.v 0)) B.non) (B.sone B.never) B.snil)
  (B.sone (B.ret (B.fn q1_ hr.up (B.cons (B.fld (B.v 0)) (B.cons (B.ix aG (B.v 2) B.int) (B.cons (B.v 3) B.nil)))))))))))),?_⟩
 walk_at "W";refine SW.yb (.str _) nW ?_;walk_at "W";refine bB ?_;walk_at "W";refine wBM ?_;walk_at "W";refine⟨rfl,?_⟩;walk_at "W";obtain⟨c1,c2,c3,c4,c5⟩:=gN (ws:=wd::ns.map tx) (B:=11) mV (by simp) (fun y hy=>by
  rcases List.mem_cons.mp hy with rfl | z
  . exact hfree
  . obtain⟨i,_,rfl⟩:=List.mem_map.mp z
    exact eE i (by decide)) (fun y hy=>by
  rcases List.mem_cons.mp hy with rfl | z
  . exact hw
  obtain⟨i,hi,rfl⟩:=List.mem_map.mp z;exact aZ (hnum i hi)) (by rw[List.length_cons,List.length_map];omega)
 refine⟨rO wd ns,_,rfl,rfl,c1,c2,c3,c4,fun l hl=>?_⟩;rw[show Txt.split (rO wd ns) (Str.ofString " ")=wd::ns.map tx from c5];clear c1 c2 c3 c4 c5;have s1:=ao.new (o:=.lst ((wd::ns.map tx).map V.str)) hl;have e1:upd H l (.lst ((wd::ns.map tx).map V.str)) l=some (.lst (.str wd::(ns.map tx).map V.str)):=aa;have hq1:=s1 _ _ hq;generalize upd H l (.lst ((wd::ns.map tx).map V.str))=H1 at *;walk_at "W";refine⟨1,rfl,l,_,rfl,SqL.of e1,fun l1 hl1=>?_⟩;rw[t9];have s2:=ao.new (o:=.lst ((ns.map tx).map V.str)) hl1;have e2:upd H1 l1 (.lst ((ns.map tx).map V.str)) l1=some (.lst ((ns.map tx).map V.str)):=aa;have e1':=s2 _ _ e1;have hq2:=s2 _ _ hq1;generalize upd H1 l1 (.lst ((ns.map tx).map V.str))=H2 at *;refine⟨l1,rfl,⟨_,SqL.of e2⟩,fun D hD=>?_⟩;refine dj (xs:=(ns.map tx).map V.str) (fun i U' H'=>∃ v:Option V,U'=[v]/\ao H2 H'/\H' D=some (.lst ((ns.take i).map V.int))) ⟨none,rfl,ao.new hD,by rw[aa];rfl⟩ (fun i U' H' _ ⟨v,_,s',_⟩=>SqL.of (s' _ _ e2)) ?_ ?_
 . rintro i x U' H' hx hi ⟨v,rfl,s',hD'⟩
   rw[List.getElem?_map,List.getElem?_map]at hx;cases hz:ns[i]? with
   | none=>rw[hz]at hx;cases hx
   | some z=>
     rw[hz]at hx;cases hx;walk_at "W";refine wm (hnum z (List.mem_of_getElem? hz)) fun H3 s3=>?_;have hD3:=s3 _ _ hD';refine CN.mk hi hD3 (by rw[List.length_map,List.length_take];omega) ⟨_,rfl,fun b o e=>by rw[af (ah e hD)];exact s3 _ _ (s' _ _ e),?_⟩
     rw[aa,cj hz,List.map_append]
     rfl
 rintro U' H' ⟨v,rfl,s',hD'⟩;have el:((ns.map tx).map V.str).length=ns.length:=by rw[List.length_map,List.length_map]
 rw[el,List.take_length]at hD';have s3:ao H H':=(s1.trans s2).trans s';have hq3:=s3 _ _ hq;have e3:=s' _ _ e1';clear s1 s2 s' e1 e1' e2 hq1 hq2;walk_at "W";refine fK e3 (wM _ _) ?_;walk_at "W";refine AJ (Say.such sy) hD' fun H4 s4=>?_;have hq4:=s4 _ _ hq3;have e4:=s4 _ _ e3;have eD4:=s4 _ _ hD';have s5:=s3.trans s4;clear s3 s4 hq3 e3 hD';walk_at "W";refine bB ?_;walk_at "W";refine fK e4 (wM _ _) ?_;walk_at "W";refine⟨rfl,?_⟩;cases sy with
 | @table a b p h1 h2 h3 h4 h5 h6 k=>
   walk_at "W";refine ce rfl ?_;have eD:H4 D=some (.lst [.int a,.int b,.int p]):=eD4;walk_at "W";refine⟨by show(2:Nat)<=sizeLine;decide,fun t ht=>?_⟩
   have s6:=ao.new (o:=.tup [.int a,.int b]) ht;have et:upd H4 t (.tup [.int a,.int b]) t=some (.tup [.int a,.int b]):=aa;have eD6:=s6 _ _ eD;have hq6:=s6 _ _ hq4;have s7:=s5.trans s6;generalize upd H4 t (.tup [.int a,.int b])=H6 at *;walk_at "W";refine wG (M:=M0) et ⟨h1,h2⟩ (by omega) xU (by decide) (.inl ⟨rfl,rfl⟩) fun tb H8 F8 S8 f8 s8=>?_
   have hq8:=s8 _ _ hq6;walk_at "W";refine SW.dD hq8 g.cl_Desk g.n_Desk_table (by show 1 < 1000;decide) ?_
   walk_at "W";have nq:¬ F8 q:=fun z=>by rw[f8 q z]at hq6;cases hq6
   have S9:Tb C CT (upd H8 q (.ins CD dq [("table",.ref tb)])) tb a b p.toNat M0 0 F8:=S8.keep (G:=fun b=>b=q) (fun b o n e=>by rw[af n];exact e) (fun b hb z=>nq (z ▸ hb)) fun b xs e z=>by
    subst z;rw[hq8]at e;cases e
   exact k tb _ F8 S9 (fun x hx=>s7.free (f8 x hx)) aa fun b o n e=>by rw[af n];exact s8 _ _ (s7 _ _ e)
 | @ans tb f m pc M tc F _ _ e S gl L a=>
   subst e;walk_at "W";refine aF (Ans.ne a) ?_;walk_at "W";refine SW.bA hq4 g.cl_Desk g.n_Desk_table rfl ?_;walk_at "W";refine⟨rfl,?_⟩;walk_at "W";refine aF (fun z=>nomatch z) ?_;walk_at "W";refine SW.bA hq4 g.cl_Desk g.n_Desk_table rfl ?_;walk_at "W";refine fK e4 (wM _ _) ?_;walk_at "W";exact DD (S.same s5) gl (L.same s5) eD4 (a.same s5)
theorem sZ(a:True):True:=by
 have:=@sT;have:=@xT;have:=@uK
 trivial
def oq(K:W.Frag):Sp:=fun vs H Q _=>∃(a:Addr) (ns:List Int) (k:Int),vs=[.ref a,.int k]/\SqL K H a (ns.map V.int)/\0<=k/\ns.length<=63 /\ ∀ c,Q (.int c) H
theorem Bf{K:W.Frag}{a:Addr}{ns:List Int}{k:Int}{H:Hp}{Q:VK}{E:XK}(h:SqL K H a (ns.map V.int))(h0:0<=k)(hl:ns.length<=63)(q:∀ c,Q (.int c) H):oq K ([.ref a,.int k]++[]) H Q E:=⟨a,ns,k,rfl,h,h0,hl,q⟩
theorem tK(p:Int×Int):dG p=Str.ofString (toString p.1)++Str.ofString ":" ++ Str.ofString (toString p.2):=by
 unfold dG
 congr 2
 exact eC (by rw[bT];rfl)
theorem ya{p:Int×Int}(h:p.1.natAbs < 10 ^ 10/\p.2.natAbs < 10 ^ 10):(dG p).length<=23:=by
 have t1:=aZ h.1;have t2:=aZ h.2;have z1:(Str.ofString ":").length=1:=rfl;rw[tK,aV,aV];show(tx p.1).length+_+(tx p.2).length<=23;omega
theorem q5_(d:Dfn K mg "_law_cell_at" yA ["script","k"])(g:Gs K mg C CT CD cS PS):Fn P w K mg base "_law_cell_at" 1 ["script","k"] (oq K):=by
 refine d.fn A5 (fun vs H Q E h=>?_) (fun f' cdv A outer st H vs Q E hr h=>?_)
 . obtain⟨a,ns,k,rfl,_⟩:=h
   rfl
 obtain⟨a,ns,k,rfl,hs,h0,hl,q⟩:=h;have lim:sizeLine=16777216:=sizeLine_eq;refine⟨_,(B.scons (B.ifs (B.tcmp mY (B.v 1) (B.cB aP g.b_len SW.b_len (B.cons (B.v 0) B.nil))) (B.sone (B.ret (B.ix aG (B.v 0) (B.v 1)))) B.snil)
  (B.sone (B.ret B.int))),?_⟩
 walk_at "W";refine SW.eS (.inl hs) ?_;walk_at "W";refine lR (fun h=>?_) (fun _=>?_)
 . have h':k < (ns.length:Nat):=by simpa using h
   walk_at "W";obtain⟨v,hv,hm⟩:=il (xs:=ns.map V.int) h0 (by rw[List.length_map];exact h')
   obtain⟨c,_,rfl⟩:=List.mem_map.mp hm;exact⟨a,_,k,_,rfl,rfl,hs,hv,q c⟩
 walk_at "W";exact q 0
theorem Bd(d:Dfn K mg "_law_row" zR ["cell"]):Fn P w K mg base "_law_row" 1 ["cell"] pA:=by
 refine d.fn B_ (fun vs H Q E h=>?_) (fun f cdv A outer s H vs Q E hr h=>?_)
 . obtain⟨c,rfl,_⟩:=h
   rfl
 obtain⟨c,rfl,k⟩:=h;refine⟨_,(B.sone (B.ret (B.lst (B.cons (B.v 0) (B.cons (B.op dH (B.v 0) B.int) B.nil))))),?_⟩;walk_at "W";exact⟨by show(2:Nat)<=sizeLine;decide,fun p hp=>k p _ hp ⟨_,_,aa,by omega,by omega⟩⟩
theorem B5(d:Dfn K mg "_law_take" yu ["row","many"]):Fn P w K mg base "_law_take" 1 ["row","many"] ia:=by
 refine d.fn xR (fun vs H Q E h=>?_) (fun f cdv A outer s H vs Q E hr h=>?_)
 . obtain⟨p,m,rfl,_⟩:=h
   rfl
 obtain⟨p,m,rfl,hm0,hm1,⟨a,b,hp,hb0,hb1⟩,k⟩:=h;refine⟨_,(B.scons (B.ifs (B.tcmp xM (B.ix aG (B.v 0) B.int) (B.op jC B.int B.int)) (B.scons (B.set 2 xR.nd (B.op dH (B.ix aG (B.v 0) B.int) (B.v 1)))
  (B.scons (B.asg (B.op eT (B.ix aG (B.v 0) B.int) (B.v 1)) (B.gsub (B.v 0) B.int jX))
  (B.sone (B.ret (B.v 2))))) B.snil)
  (B.scons (B.asg (B.op dH (B.op bX (B.op bX (B.op eB (B.ix aG (B.v 0) B.int) (B.ix aG (B.v 0) B.int)) (B.op eB B.int (B.ix aG (B.v 0) B.int))) B.int) B.int) (B.gsub (B.v 0) B.int jX))
  (B.sone (B.ret (B.op dH (B.op eT (B.ix aG (B.v 0) B.int) B.int) (B.v 1)))))),?_⟩
 walk_at "W";refine lR (fun _=>?_) (fun _=>?_)
 . walk_at "W"
   exact k _ _ (Int.emod_nonneg _ (by omega)) (Int.emod_lt_of_pos _ hm0) ⟨_,_,aa,hb0,hb1⟩ ak.at
 walk_at "W";exact k _ _ (Int.emod_nonneg _ (by omega)) (Int.emod_lt_of_pos _ hm0) ⟨_,_,aa,Int.emod_nonneg _ (by decide),Int.lt_trans (Int.emod_lt_of_pos _ (by decide)) (by decide)⟩ ak.at
theorem Ce(d:Dfn K mg "_law_mixer" zX ["row"])(q29_:Fn P w K mg base "_law_take" 1 ["row","many"] ia):Fn P w K mg base "_law_mixer" 2 ["row"] jN:=by
 refine d.fn xJ (fun vs H Q E h=>?_) (fun f cdv A outer s H vs Q E hr h=>?_)
 . obtain⟨p,rfl,_⟩:=h
   rfl
 obtain⟨p,rfl,hp,k⟩:=h;refine⟨_,(B.scons (B.set 1 xJ.nd (B.lst (B.cons (B.tup (B.cons B.int (B.cons B.int B.nil))) (B.cons (B.tup (B.cons B.int (B.cons B.int B.nil))) (B.cons (B.tup (B.cons (B.op lZ B.int B.int) (B.cons B.int B.nil))) (B.cons (B.tup (B.cons B.int (B.cons B.int B.nil))) (B.cons (B.tup (B.cons B.int (B.cons B.int B.nil))) B.nil)))))))
  (B.scons (B.expr (B.m PySem.F.plainAttrs_list PySem.F.slot_list_append PySem.F.type_list_append fu (B.v 1) (B.cons (B.tup (B.cons (B.fn q29_ hr.up (B.cons (B.v 0) (B.cons B.int B.nil))) (B.cons (B.fn q29_ hr.up (B.cons (B.v 0) (B.cons B.int B.nil))) B.nil))) B.nil)))
  (B.sone (B.ret (B.ix aG (B.v 1) (B.fn q29_ hr.up (B.cons (B.v 0) (B.cons B.int B.nil)))))))),?_⟩
 have two:(2:Nat)<=sizeLine:=by decide
 walk_at "W";refine⟨two,fun t1 h1=>?_⟩;have M1:=(iE.nil).new t1 1 0 h1 (by decide)
 have S1:=(ao.new (o:=.tup [.int 1,.int 0]) h1);walk_at "W";refine⟨two,fun t2 h2=>?_⟩;have M2:=(M1).new t2 0 5 h2 (by decide)
 have S2:=S1.trans (ao.new (o:=.tup [.int 0,.int 5]) h2);walk_at "W";refine⟨two,fun t3 h3=>?_⟩;have M3:=(M2).new t3 (65536 - 1) 7 h3 (by decide)
 have S3:=S2.trans (ao.new (o:=.tup [.int (65536 - 1),.int 7]) h3);walk_at "W";refine⟨two,fun t4 h4=>?_⟩;have M4:=(M3).new t4 4096 3 h4 (by decide)
 have S4:=S3.trans (ao.new (o:=.tup [.int 4096,.int 3]) h4);walk_at "W";refine⟨two,fun t5 h5=>?_⟩;have M5:=(M4).new t5 40503 12345 h5 (by decide)
 have S5:=S4.trans (ao.new (o:=.tup [.int 40503,.int 12345]) h5);walk_at "W";refine⟨by show(5:Nat)<=sizeLine;decide,fun q hq=>?_⟩
 have R0:bZ _ p:=hp.same (S5.trans (ao.new (o:=.lst [.ref t1,.ref t2,.ref t3,.ref t4,.ref t5]) hq));have M10:=M5.map fun _ z=>z.same (ao.new (o:=.lst [.ref t1,.ref t2,.ref t3,.ref t4,.ref t5]) hq);have K0:ak p H _:=SW.ao.but (S5.trans (ao.new (o:=.lst [.ref t1,.ref t2,.ref t3,.ref t4,.ref t5]) hq));have nqp:q≠p:=fun z=>by
  obtain⟨_,_,e,_⟩:=hp;rw[z,S5 _ _ e]at hq;cases hq
 have q0:H q=none:=S5.free hq;walk_at "W";refine wBM ?_;walk_at "W";refine⟨.inl ⟨rfl,_,SqL.of aa⟩,?_⟩;walk_at "W";refine dz R0 (by decide) (by decide) fun r1 H10 a1 b1 R10 K10=>?_
 have q10:=K10 q _ nqp aa;have M11:=M10.map fun _ z=>z.keepW R0 K10;walk_at "W";refine dz R10 (by decide) (by decide) fun r2 H11 a2 b2 R11 K11=>?_
 have q11:=K11 q _ nqp q10;have M12:=M11.map fun _ z=>z.keepW R10 K11;walk_at "W";refine⟨two,fun t10 h10=>?_⟩;have M13:=M12.new t10 r1 r2 h10 (by omega)
 have q12:=ao.new (o:=.tup [.int r1,.int r2]) h10 _ _ q11;have R12:=R11.new (o:=.tup [.int r1,.int r2]) h10;walk_at "W";refine⟨q,_,_,rfl,rfl,q12,by show(5:Nat) < sizeLine;decide,?_⟩
 have M14:=M13.map fun _ z=>z.upd (o:=.lst ([.ref t1,.ref t2,.ref t3,.ref t4,.ref t5]++[.ref t10])) q12;have R14:bZ (upd (upd H11 t10 (.tup [.int r1,.int r2])) q (.lst ([.ref t1,.ref t2,.ref t3,.ref t4,.ref t5]++[.ref t10]))) p:=by
  obtain⟨a,b,e,z⟩:=R12;exact⟨a,b,by rw[af nqp.symm];exact e,z⟩
 have K14:=(((K0.trans K10).trans K11).trans (ak.new (o:=.tup [.int r1,.int r2]) h10)).upd (o:=.lst ([.ref t1,.ref t2,.ref t3,.ref t4,.ref t5]++[.ref t10])) q0;walk_at "W";refine dz R14 (by decide) (by decide) fun r H15 a b R15 K15=>?_
 have q15:=K15 q _ nqp aa;obtain⟨v,hv,hm⟩:=il (xs:=[V.ref t1,V.ref t2,V.ref t3,V.ref t4,V.ref t5]++[V.ref t10]) a b;refine fK q15 hv ?_;obtain⟨t,rfl,m⟩:=M14 v hm;exact k t H15 (m.keepW R14 K15) R15 (K14.trans K15)
theorem uu(a:True):True:=by
 have:=@q5_;have:=@Bd;have:=@B5;have:=@Ce;have:=@sZ
 trivial
structure D46(C CT CD PS q dq tb pd wk sl el:Addr)(f m:Int)(pc n:Nat)(M:MT)(tc:Int)(F:Addr->Prop)(r:av)(W:Wkd)(H:Hp):Prop where
 hq:H q=some (.ins CD dq [("table",.ref tb)])
 S:Tb C CT H tb f m pc M tc F
 gl:Lg n f m pc M tc
 X:X46 pc M tc
 hd:H pd=some (.dK (kvs r))
 ok:ROk r
 lk:∀ k,ax r k=aA f m M k
 cn:r.length=cnt M
 hw:H wk=some (.dK (wkv W.c sl el W.still W.pl W.mn))
 hs:H sl=some (.lst (W.stay.map V.int))
 he:H el=some (.lst (W.seen.map V.int))
 L:bI eN eP H PS
 nq:¬ F q
 np:¬ F pd
 nk:¬ F wk
 ns:¬ F sl
 ne:¬ F el
 e1:wk≠pd
 ls:W.stay.length<=600
 le:W.seen.length<=600*n
 hn:n<=600
abbrev bG(q pd wk sl el:Addr)(F:Addr->Prop)(b:Addr):Prop:=F b∨b=q∨b=pd∨b=wk∨b=sl∨b=el
section
variable{C CT CD PS q dq tb pd wk sl el row:Addr}{f m:Int}{pc n:Nat}{M:MT}{tc:Int}{F G:Addr->Prop}{r:av}{W:Wkd}{H H':Hp}
theorem D46.own(J:D46 C CT CD PS q dq tb pd wk sl el f m pc n M tc F r W H){b:Addr}(h:bG q pd wk sl el F b):fL H b:=by
 rcases h with h | h | h | h | h | h
 . exact J.S.own3 h
 . exact .inl ⟨_,_,_,h ▸ J.hq⟩
 . exact .inr (.inr ⟨_,h ▸ J.hd⟩)
 . exact .inr (.inr ⟨_,h ▸ J.hw⟩)
 . exact .inr (.inl ⟨_,h ▸ J.hs⟩)
 exact .inr (.inl ⟨_,h ▸ J.he⟩)
theorem D46.live(J:D46 C CT CD PS q dq tb pd wk sl el f m pc n M tc F r W H){b:Addr}(h:bG q pd wk sl el F b):H b≠none:=(J.own h).live
theorem D46.notP(J:D46 C CT CD PS q dq tb pd wk sl el f m pc n M tc F r W H){b:Addr}(h:bG q pd wk sl el F b):b≠PS:=fL.notP J.L (J.own h)
theorem D46.fr(J:D46 C CT CD PS q dq tb pd wk sl el f m pc n M tc F r W H)(k:SW.Fr G H H')(g:∀ b,bG q pd wk sl el F b -> ¬ G b)(dt:∀ b xs,H b=some (.tup xs) -> ¬ G b)(L':bI eN eP H' PS):D46 C CT CD PS q dq tb pd wk sl el f m pc n M tc F r W H':=
 ⟨k _ _ (g q (.inr (.inl rfl))) J.hq,J.S.keep k (fun b hb=>g b (.inl hb)) dt,J.gl,J.X,k _ _ (g pd (.inr (.inr (.inl rfl)))) J.hd,J.ok,J.lk,J.cn,k _ _ (g wk (.inr (.inr (.inr (.inl rfl))))) J.hw,k _ _ (g sl (.inr (.inr (.inr (.inr (.inl rfl)))))) J.hs,k _ _ (g el (.inr (.inr (.inr (.inr (.inr rfl)))))) J.he,L',J.nq,J.np,J.nk,J.ns,J.ne,J.e1,J.ls,J.le,J.hn⟩
theorem D46.same(J:D46 C CT CD PS q dq tb pd wk sl el f m pc n M tc F r W H)(s:ao H H'):D46 C CT CD PS q dq tb pd wk sl el f m pc n M tc F r W H':=
 J.fr (G:=fun _=>False) (fun b o _ e=>s b o e) (fun _ _ z=>z) (fun _ _ _ z=>z) (J.L.same s)
theorem D46.lam(J:D46 C CT CD PS q dq tb pd wk sl el f m pc n M tc F r W H)(L':bI eN eP H' PS)(k:ak PS H H'):D46 C CT CD PS q dq tb pd wk sl el f m pc n M tc F r W H':=
 J.fr k.fr' (fun b hb z=>J.notP hb z) (fun b xs e z=>by
  obtain⟨ps,y⟩:=J.L.tbl;rw[z,y]at e;cases e) L'
structure R46(q pd wk sl el:Addr)(F:Addr->Prop)(row:Addr)(H:Hp):Prop where
 R:bZ H row
 o:∀ b,bG q pd wk sl el F b->b≠row
theorem D46.draw(J:D46 C CT CD PS q dq tb pd wk sl el f m pc n M tc F r W H)(B:R46 q pd wk sl el F row H)(R':bZ H' row)(k:ak row H H'):D46 C CT CD PS q dq tb pd wk sl el f m pc n M tc F r W H'/\R46 q pd wk sl el F row H':=by
 obtain⟨_,_,e,_⟩:=id B.R;exact⟨J.fr k.fr' B.o (fun b xs e=>B.R.notup e) (J.L.but e k),R',B.o⟩
theorem R46.notP(B:R46 q pd wk sl el F row H)(L:bI eN eP H PS):row≠PS:=by
 obtain⟨_,_,e,_⟩:=B.R;exact fL.notP L (.inr (.inl ⟨_,e⟩))
theorem D46.walk{sl' el':Addr}{W':Wkd}(J:D46 C CT CD PS q dq tb pd wk sl el f m pc n M tc F r W H)(k:ak wk H H')(hw:H' wk=some (.dK (wkv W'.c sl' el' W'.still W'.pl W'.mn)))(hs:H' sl'=some (.lst (W'.stay.map V.int)))(he:H' el'=some (.lst (W'.seen.map V.int)))(ns:¬ F sl')(ne:¬ F el')(ls:W'.stay.length<=600)(le:W'.seen.length<=600*n):D46 C CT CD PS q dq tb pd wk sl' el' f m pc n M tc F r W' H':=
 ⟨k _ _ (aR J.hq J.hw (by intro z;cases z)) J.hq,J.S.keep k.fr' (fun b hb z=>J.nk (z ▸ hb)) (fun b xs e z=>by rw[z,J.hw]at e;cases e),J.gl,J.X,k _ _ J.e1.symm J.hd,J.ok,J.lk,J.cn,hw,hs,he,J.L.fr k.fr' (fun b hb _=>.inr (.inr ⟨_,hb ▸ J.hw⟩)),J.nq,J.np,J.nk,ns,ne,J.e1,ls,le,J.hn⟩
end
def ms:Sp:=fun vs H Q _=>∃(row pd:Addr) (r:av) (mn:Int),vs=[.ref row,.ref pd,.int mn]/\bZ H row/\H pd=some (.dK (kvs r))/\(∀ k∈r.map (·.1),0<=k/\k<=1000000000)/\r.length<=4000 /\ ∀(k:Int) H',0<=k->k<=1000000000->bZ H' row->ak row H H'->Q (.int k) H'
theorem yG{row pd:Addr}{r:av}{mn:Int}{H:Hp}{Q:VK}{E:XK}(R:bZ H row)(hd:H pd=some (.dK (kvs r)))(hb:∀ k∈r.map (·.1),0<=k/\k<=1000000000)(hl:r.length<=4000)(k:∀(k:Int) H',0<=k->k<=1000000000->bZ H' row->ak row H H'->Q (.int k) H'):ms ([.ref row,.ref pd,.int mn]++[]) H Q E:=⟨row,pd,r,mn,rfl,R,hd,hb,hl,k⟩
def dWv:cK->Int->Prop
 | .put _ v,w=>w=v
 | _,_=>True
def jZ:Sp:=fun vs H Q _=>∃(pd:Addr) (r:av) (d:cK) (v:Int),vs=[.str (dW d),.int (bF d),.int v,.ref pd]/\dWv d v/\H pd=some (.dK (kvs r))/\ROk r/\r.length<=4000/\(∀ v,ax r (bF d)=some v->v.natAbs < 10 ^ 10) /\ ∀ H',H' pd=some (.dK (kvs (ir r d)))->ak pd H H'->Q (.str (wTx (ax r (bF d)))) H'
theorem xg{pd:Addr}{r:av}{d:cK}{v k:Int}{x:PySem.Str}{H:Hp}{Q:VK}{E:XK}(ex:x=dW d)(ek:k=bF d)(ev:dWv d v)(hd:H pd=some (.dK (kvs r)))(ok:ROk r)(hl:r.length<=4000)(hb:∀ v,ax r (bF d)=some v->v.natAbs < 10 ^ 10)(q:∀ H',H' pd=some (.dK (kvs (ir r d)))->ak pd H H'->Q (.str (wTx (ax r (bF d)))) H'):jZ ([.str x,.int k,.int v,.ref pd]++[]) H Q E:=⟨pd,r,d,v,by rw[ex,ek];rfl,ev,hd,ok,hl,hb,q⟩
def jP:Sp:=fun vs H Q _=>∃(wk pd sl el:Addr) (r:av) (W:Wkd),vs=[.ref wk,.ref pd]/\H wk=some (.dK (wkv W.c sl el W.still W.pl W.mn))/\H sl=some (.lst (W.stay.map V.int))/\H pd=some (.dK (kvs r))/\W.stay.length<=4000/\wk≠pd /\ ∀(l:Addr) (st:List Int) H',H l=none->H' l=some (.lst (st.map V.int))->H' wk=some (.dK (wkv W.c l el W.still W.pl W.mn))->ak wk H H'->(∀ k∈st,k∈W.stay)->(∀ k∈st,k∈r.map (·.1))->st.length<=W.stay.length->Q .non H'
theorem xy{wk pd sl el:Addr}{r:av}{W:Wkd}{H:Hp}{Q:VK}{E:XK}(h1:H wk=some (.dK (wkv W.c sl el W.still W.pl W.mn)))(h2:H sl=some (.lst (W.stay.map V.int)))(h3:H pd=some (.dK (kvs r)))(h4:W.stay.length<=4000)(h5:wk≠pd)(k:∀(l:Addr) (st:List Int) H',H l=none->H' l=some (.lst (st.map V.int))->H' wk=some (.dK (wkv W.c l el W.still W.pl W.mn))->ak wk H H'->(∀ k∈st,k∈W.stay)->(∀ k∈st,k∈r.map (·.1))->st.length<=W.stay.length->Q .non H'):jP ([.ref wk,.ref pd]++[]) H Q E:=⟨wk,pd,sl,el,r,W,rfl,h1,h2,h3,h4,h5,k⟩
theorem BV(d:Dfn K mg "_law_key" y3 ["row","model","many"])(g:Gs K mg C CT CD cS PS)(q29_:Fn P w K mg base "_law_take" 1 ["row","many"] ia):Fn P w K mg base "_law_key" 2 ["row","model","many"] ms:=by
 refine d.fn xH (fun vs H Q E h=>?_) (fun f cdv A outer s H vs Q E hr h=>?_)
 . obtain⟨row,pd,r,mn,rfl,_⟩:=h
   rfl
 obtain⟨row,pd,r,mn,rfl,R,hd,hb,hl,k⟩:=h;have lim:sizeLine=16777216:=sizeLine_eq;have npr:pd≠row:=by
  obtain⟨_,_,e,_⟩:=R;exact aR hd e (by intro z;cases z)
 have z3:(10:Int) ^ (Int.toNat 9)=1000000000:=by decide
 refine⟨_,(B.scons (B.set 3 xH.nd (B.lst (B.cons (B.op dH (B.v 2) B.int) (B.cons (B.fn q29_ hr.up (B.cons (B.v 0) (B.cons B.int B.nil))) (B.cons (B.op lZ (B.op jC B.int B.int) (B.fn q29_ hr.up (B.cons (B.v 0) (B.cons B.int B.nil)))) B.nil)))))
  (B.scons (B.expr (B.m PySem.F.plainAttrs_list PySem.F.slot_list_append PySem.F.type_list_append fu (B.v 3) (B.cons (B.fn q29_ hr.up (B.cons (B.v 0) (B.cons (B.op bX (B.op jC B.int B.int) B.int) B.nil))) B.nil)))
  (B.scons (B.ifs (B.tw (B.wand (B.tcmp (SW.vQ (ot hr)) (B.v 1) B.dnew) (B.wand1 (B.tcmp bN (B.fn q29_ hr.up (B.cons (B.v 0) (B.cons B.int B.nil))) B.int)))) (B.sone (B.ret (B.ix aG (B.cB SW.fM g.b_sorted SW.b_sorted (B.cons (B.v 1) B.nil)) (B.fn q29_ hr.up (B.cons (B.v 0) (B.cons (B.cB h_ g.b_len SW.b_len (B.cons (B.v 1) B.nil)) B.nil)))))) B.snil)
  (B.sone (B.ret (B.ix aG (B.v 3) (B.fn q29_ hr.up (B.cons (B.v 0) (B.cons B.int B.nil))))))))),?_⟩
 walk_at "W";refine dz R (by decide) (by decide) fun r1 H1 a1 b1 R1 K1=>?_
 walk_at "W";refine dz R1 (by decide) (by decide) fun r2 H2 a2 b2 R2 K2=>?_
 walk_at "W";refine⟨by show(3:Nat)<=sizeLine;decide,fun q hq=>?_⟩
 rw[z3];have R3:=R2.new (o:=.lst [.int (mn % 1000),.int r1,.int (1000000000 - r2)]) hq;have e3:upd H2 q (.lst [.int (mn % 1000),.int r1,.int (1000000000 - r2)]) q=some (.lst [.int (mn % 1000),.int r1,.int (1000000000 - r2)]):=aa;have K3:=(K1.trans K2).trans (ak.new (o:=.lst [.int (mn % 1000),.int r1,.int (1000000000 - r2)]) hq);have nq:=(R2.ne0 hq).symm;have q0:H q=none:=by
  cases e:H q with
  | none=>rfl
  | some o=>rw[(K1.trans K2) _ _ nq e]at hq;cases hq
 generalize upd H2 q (.lst [.int (mn % 1000),.int r1,.int (1000000000 - r2)])=H3 at *;walk_at "W";refine wBM ?_;walk_at "W";refine⟨.inl ⟨rfl,_,SqL.of e3⟩,?_⟩;walk_at "W";rw[z3];refine dz R3 (by decide) (by decide) fun r4 H4 a4 b4 R4 K4=>?_
 have e4:=K4 _ _ nq e3;walk_at "W";refine⟨q,_,_,rfl,rfl,e4,by show(3:Nat) < sizeLine;decide,?_⟩
 have R5:bZ (upd H4 q (.lst ([.int (mn % 1000),.int r1,.int (1000000000 - r2)]++[.int r4]))) row:=by
  obtain⟨a,b,e,z⟩:=R4;exact⟨a,b,by rw[af nq.symm];exact e,z⟩
 have K5:=(K3.trans K4).upd (o:=.lst ([.int (mn % 1000),.int r1,.int (1000000000 - r2)]++[.int r4])) q0;have e5:upd H4 q (.lst ([.int (mn % 1000),.int r1,.int (1000000000 - r2)]++[.int r4])) q=some (.lst [.int (mn % 1000),.int r1,.int (1000000000 - r2),.int r4]):=aa;generalize upd H4 q (.lst ([.int (mn % 1000),.int r1,.int (1000000000 - r2)]++[.int r4]))=H5 at *;clear e3 e4 K3 K4 R3 R4 R1 R2 K1 K2;have hd5:=K5 _ _ npr hd;have sm:∀ v∈[V.int (mn % 1000),V.int r1,V.int (1000000000 - r2),V.int r4],∃ z:Int,v=V.int z/\0<=z/\z<=1000000000:=fun v hm=>by
  have m0:=Int.emod_nonneg mn (show(1000:Int)≠0 by decide)
  have m1:=Int.emod_lt_of_pos mn (show(0:Int) < 1000 by decide)
  simp only[List.mem_cons,List.not_mem_nil,or_false]at hm;rcases hm with rfl | rfl | rfl | rfl <;> exact⟨_,rfl,by omega,by omega⟩
 walk_at "W";rename_i N hN;have rest:∀ H',bZ H' row->ak row H5 H'->N [some (.ref row),some (.ref pd),some (.int mn),some (.ref q)] H':=fun H' R' K'=>by
  refine SW.wGo hN ?_;walk_at "W";refine dz R' (by decide) (by decide) fun r8 H8 a8 b8 R8 K8=>?_
  have e9:=K8 _ _ nq (K' _ _ nq e5);obtain⟨v,hv,hm⟩:=il (xs:=[V.int (mn % 1000),V.int r1,V.int (1000000000 - r2),V.int r4]) a8 b8;refine fK e9 hv ?_;obtain⟨z,rfl,z0,z1⟩:=sm v hm;exact k z H8 z0 z1 R8 ((K5.trans K').trans K8)
 clear hN;intro b hb';have s6:=ao.new (o:=.dK []) hb';have R6:=R5.same s6;have K6:ak row H5 (upd H5 b (.dK [])):=SW.ao.but s6;refine⟨pd,b,kvs r,rfl,rfl,s6 _ _ hd5,aa,?_⟩;have hd6:=s6 _ _ hd5;generalize upd H5 b (.dK [])=H6 at *;refine⟨_,rfl,?_⟩;cases er:(kvs r).isEmpty with
 | true=>
   refine bB ?_;walk_at "W";exact rest H6 R6 K6
 | false=>
   refine bL ?_;walk_at "W";refine dz R6 (by decide) (by decide) fun r7 H7 a7 b7 R7 K7=>?_
   have hd7:=K7 _ _ npr hd6;walk_at "W";refine lR (fun _=>?_) (fun _=>?_)
   . walk_at "W"
     refine⟨pd,r,rfl,hd7,rfl,fun l ns hl' pm=>?_⟩;have s8:=ao.new (o:=.lst (ns.map V.int)) hl';have R8:=R7.same s8;have nl:=(R7.ne0 hl').symm;have e8:upd H7 l (.lst (ns.map V.int)) l=some (.lst (ns.map V.int)):=aa;have hd8:=s8 _ _ hd7;have K8:=((K5.trans K6).trans K7).trans (SW.ao.but (p:=row) s8);generalize upd H7 l (.lst (ns.map V.int))=H8 at *;have hp:0 < ns.length:=by
      rw[pm.length_eq,List.length_map];cases r with
      | nil=>cases er
      | cons y ys=>exact Nat.succ_pos _
     have ln:ns.length=r.length:=by rw[pm.length_eq,List.length_map]
     walk_at "W";refine⟨pd,_,rfl,hd8,?_⟩;rw[dB,← ln];walk_at "W";refine dz R8 (by omega) (by omega) fun r9 H9 a9 b9 R9 K9=>?_
     obtain⟨v,hv,hm⟩:=il (xs:=ns.map V.int) a9 (by rw[List.length_map];exact b9)
     refine fK (K9 _ _ nl e8) hv ?_;obtain⟨z,hz,rfl⟩:=List.mem_map.mp hm;obtain⟨z0,z1⟩:=hb z (pm.mem_iff.mp hz);exact k z H9 z0 z1 R9 (K8.trans K9)
   walk_at "W";exact rest H7 R7 (K6.trans K7)
theorem q6_(d:Dfn K mg "_law_deed" zA ["way","key","worth","model"])(g:Gs K mg C CT CD cS PS):Fn P w K mg base "_law_deed" 1 ["way","key","worth","model"] jZ:=by
 refine d.fn vg (fun vs H Q E h=>?_) (fun f cdv A outer s H vs Q E hr h=>?_)
 . obtain⟨pd,r,d,v,rfl,_⟩:=h
   rfl
 obtain⟨pd,r,d,v,rfl,ev,hd,ok,hl,hb,k⟩:=h;have lim:sizeLine=16777216:=sizeLine_eq;have hlen:(kvs r).length < sizeLine:=by rw[dB];omega
 refine⟨_,(B.scons (B.set 4 vg.nd B.str)
  (B.scons (B.ifs (B.tdin (bj hr) (B.v 1) (B.v 3)) (B.sone (B.set 4 vg.nd (B.cT aQ g.b_str SW.b_str (B.cons (SW.B.dget (bj hr) (B.v 3) (B.v 1)) B.nil)))) B.snil)
  (B.scons (B.ifs (B.tcmp bN (B.v 0) B.str) (B.sone (B.dput (bj hr) (B.v 3) (B.v 1) (B.v 2))) B.snil)
  (B.scons (B.ifs (B.tw (B.wand (B.tcmp bN (B.v 0) B.str) (B.wand1 (B.tdin (bj hr) (B.v 1) (B.v 3))))) (B.sone (B.expr (B.dpop1 (B.v 3) (B.v 1) (m:=B.m1)))) B.snil)
  (B.sone (B.ret (B.v 4))))))),?_⟩
 walk_at "W";refine⟨pd,_,rfl,cR.k (k:=Sum.inl (bF d)) hd,?_⟩;rw[bC];rename_i N hN;have rest:N [some (.str (dW d)),some (.int (bF d)),some (.int v),some (.ref pd),some (.str (wTx (ax r (bF d))))] H:=by
  refine SW.wGo hN ?_;clear hN;cases d with
  | put x y=>
    have ev:v=y:=ev;subst ev;walk_at "W";refine⟨rfl,?_⟩;walk_at "W";refine ce rfl ?_;walk_at "W";refine⟨pd,_,rfl,ke.k (k:=Sum.inl (bF (.put x v))) hd hlen,?_⟩;rw[gH];walk_at "W";refine⟨rfl,?_⟩;walk_at "W";refine aF (sne (by decide)) ?_
    refine bB ?_;walk_at "W";exact k _ aa ak.at
  | look x=>
    walk_at "W";refine⟨rfl,?_⟩;walk_at "W";refine aF (sne (by decide)) ?_
    walk_at "W";refine⟨rfl,?_⟩;walk_at "W";refine aF (sne (by decide)) ?_
    refine bB ?_;walk_at "W";exact k _ hd (ak.refl _ _)
  | cut x=>
    walk_at "W";refine⟨rfl,?_⟩;walk_at "W";refine aF (sne (by decide)) ?_
    walk_at "W";refine⟨rfl,?_⟩;walk_at "W";refine ce rfl ?_;walk_at "W";refine⟨pd,_,rfl,cR.k (k:=Sum.inl (bF (.cut x))) hd,?_⟩;walk_at "W";rw[bC];cases e:ax r (bF (.cut x))with
    | none=>
      refine bB ?_;walk_at "W";have ec:cr r x=r:=iI ((bh x).mp e);have k':=k H (by show H pd=some (.dK (kvs (cr r x)));rw[ec];exact hd) (ak.refl _ _)
      rw[e]at k';exact k'
    | some y=>
      refine bL ?_;walk_at "W";refine⟨pd,rfl,.inl ⟨_,.inl hd⟩,?_⟩;walk_at "W";refine⟨_,Sum.inl x,V.int y,hd,rfl,by rw[bC];exact congrArg _ e,?_⟩
      rw[fH];walk_at "W";have k'':=k _ (aa (H:=H) (a:=pd) (o:=.dK (kvs (cr r x)))) ak.at;rw[e]at k'';exact k''
 clear hN;refine⟨_,rfl,?_⟩;cases e:ax r (bF d)with
 | none=>
   rw[e]at rest;refine bB ?_;walk_at "W";exact rest
 | some y=>
   rw[e]at rest;refine bL ?_;walk_at "W";refine⟨pd,V.int y,rfl,?_,?_⟩
   . have z:=cR.k (k:=Sum.inl (bF d)) hd
     rw[bC,e]at z;exact z
   walk_at "W";refine⟨_,rfl,aY (hb y e),?_⟩;walk_at "W";exact rest
theorem AK(d:Dfn K mg "_law_kept_in" zO ["walk","model"])(g:Gs K mg C CT CD cS PS):Fn P w K mg base "_law_kept_in" 1 ["walk","model"] jP:=by
 refine d.fn B4 (fun vs H Q E h=>?_) (fun f cdv A outer s H vs Q E hr h=>?_)
 . obtain⟨wk,pd,sl,el,r,W,rfl,_⟩:=h
   rfl
 obtain⟨wk,pd,sl,el,r,W,rfl,h1,h2,h3,h4,h5,k⟩:=h;have lim:sizeLine=16777216:=sizeLine_eq;refine⟨_,(B.sone (B.dput (bj hr) (B.v 0) B.str (SW.B.compIf [1] ["key","model"] (SW.aC.of rfl rfl (by decide +kernel) (by decide +kernel) rfl ⟨rfl,trivial⟩ rfl rfl rfl) (by decide +kernel) (B.ilist (SW.B.dget (bj hr) (B.v 0) B.str)) (fun _ _ _ _=>(B.tdin (bj hr) (B.v 0) (B.v 1))) (fun _ _ _ _=>(B.v 0))))),?_⟩
 walk_at "W";refine gh h1 jD ?_;refine⟨sl,rfl,⟨_,SqL.of h2⟩,fun D hD=>?_⟩;have s1:=ao.new (o:=.lst []) hD;refine fG (xs:=W.stay.map V.int) (fun i U' H'=>∃(v:Option V) (st:List Int),U'=[v,some (.ref pd)]/\ao H H'/\H' D=some (.lst (st.map V.int))/\(∀ k∈st,k∈W.stay)/\(∀ k∈st,k∈r.map (·.1))/\st.length<=i) ⟨none,[],rfl,s1,aa,(fun k hk=>nomatch hk),(fun k hk=>nomatch hk),Nat.le_refl 0⟩ (fun i U' H' _ ⟨v,st,_,s',_⟩=>SqL.of (s' _ _ h2)) ?_ ?_
 . rintro i x U' H' hx hi ⟨v,st,rfl,s',hD',p1,p2,p3⟩
   have hi:i < W.stay.length:=by rw[List.length_map]at hi;exact hi
   obtain⟨z,rfl⟩:=gU hx;have hz:z∈W.stay:=by
    rw[List.getElem?_map]at hx;cases e:W.stay[i]? with
    | none=>rw[e]at hx;cases hx
    | some y=>
      rw[e]at hx;cases hx;exact List.mem_of_getElem? e
   walk_at "W";refine⟨pd,_,rfl,cR.k (k:=Sum.inl z) (s' _ _ h3),?_⟩;rw[bC];refine⟨_,rfl,?_⟩;cases e:ax r z with
   | none=>
     refine bB ?_;exact CO.mk (by rw[List.length_map];exact hi) ⟨_,st,rfl,s',hD',p1,p2,by omega⟩
   | some y=>
     refine bL ?_;walk_at "W";refine CN.mk (by rw[List.length_map];exact hi) hD' (by rw[List.length_map];omega) ⟨_,st++[z],rfl,fun b o e=>by rw[af (ah e hD)];exact s' _ _ e,?_,fun k hk=>?_,fun k hk=>?_,?_⟩
     . rw[aa,List.map_append];rfl
     . rcases List.mem_append.mp hk with y | y
       . exact p1 k y
       rw[List.mem_singleton.mp y];exact hz
     . rcases List.mem_append.mp hk with y | y
       . exact p2 k y
       rw[List.mem_singleton.mp y];exact List.mem_map.mpr ⟨_,lj e,rfl⟩
     rw[List.length_append,List.length_singleton];omega
 rintro U' H' ⟨v,st,rfl,s',hD',p1,p2,p3⟩;walk_at "W";refine eV (s' _ _ h1) cv kZ ?_;have nD:D≠wk:=(ah h1 hD).symm;walk_at "W";refine k D st _ hD (by rw[af nD];exact hD') aa (fun b o nb e=>by rw[af nb];exact s' _ _ e) p1 p2 (by rw[List.length_map]at p3;exact p3)
theorem uo(a:True):True:=by
 have:=@BV;have:=@q6_;have:=@AK;have:=@uu
 trivial
def hU(C CT CD PS:Addr):Sp:=fun vs H Q _=>∃(q dq tb pd wk sl el:Addr) (f m:Int) (pc n:Nat) (M:MT) (tc:Int) (F:Addr->Prop) (r:av) (W:Wkd),vs=[.ref q,.ref pd,.int (pc:Nat),.ref wk]/\D46 C CT CD PS q dq tb pd wk sl el f m pc n M tc F r W H/\Q46 f m M r W /\ ∀(s:Bool) H',D46 C CT CD PS q dq tb pd wk sl el f m pc n M tc F r { W with still:=s,pl:=szM M } H'->P46 f m M r { W with still:=s,pl:=szM M } -> ak wk H H'->Q (.bl true) H'
theorem sW{C CT CD PS q dq tb pd wk sl el:Addr}{f m:Int}{pc n:Nat}{M:MT}{tc:Int}{F:Addr->Prop}{r:av}{W:Wkd}{H:Hp}{Q:VK}{E:XK}(J:D46 C CT CD PS q dq tb pd wk sl el f m pc n M tc F r W H)(q6:Q46 f m M r W)(k:∀(s:Bool) H',D46 C CT CD PS q dq tb pd wk sl el f m pc n M tc F r { W with still:=s,pl:=szM M } H'->P46 f m M r { W with still:=s,pl:=szM M } -> ak wk H H'->Q (.bl true) H'):hU C CT CD PS ([.ref q,.ref pd,.int (pc:Nat),.ref wk]++[]) H Q E:=⟨q,dq,tb,pd,wk,sl,el,f,m,pc,n,M,tc,F,r,W,rfl,J,q6,k⟩
theorem rP{n pc:Nat}{f m tc:Int}{M:MT}(g:Lg n f m pc M tc):∃ ws:List PySem.Str,ws≠[]/\szM M=Str.join (Str.ofString ">") ws/\(∀ y∈ws,62∉y.cps.toList)/\(∀ y∈ws,y.length<=11)/\ws.length<=2/\atI (ws.map V.str) (-1)=some (.str (tx (M.nw.length:Nat))):=by
 obtain⟨z1,z2⟩:=g.sizes;have sn:((M.nw.length:Nat):Int).natAbs < 10 ^ 10:=by rw[Int.natAbs_natCast];exact Nat.lt_of_le_of_lt z2 (by decide)
 cases e:M.el with
 | none=>
   refine⟨[tx (M.nw.length:Nat)],by simp,?_,fun y hy=>?_,fun y hy=>?_,Nat.le_of_ble_eq_true rfl,rfl⟩
   . unfold szM;rw[e];rfl
   . rw[List.mem_singleton.mp hy];exact eE _ (by decide)
   rw[List.mem_singleton.mp hy];exact aZ sn
 | some E=>
   have se:((E.length:Nat):Int).natAbs < 10 ^ 10:=by rw[Int.natAbs_natCast];exact Nat.lt_of_le_of_lt (z1 E.length (by rw[e];rfl)) (by decide)
   refine⟨[tx (E.length:Nat),tx (M.nw.length:Nat)],by simp,?_,fun y hy=>?_,fun y hy=>?_,Nat.le_of_ble_eq_true rfl,rfl⟩
   . unfold szM;rw[e];rfl
   . simp only[List.mem_cons,List.not_mem_nil,or_false]at hy
     rcases hy with rfl | rfl <;> exact eE _ (by decide)
   simp only[List.mem_cons,List.not_mem_nil,or_false]at hy;rcases hy with rfl | rfl
   . exact aZ se
   exact aZ sn
theorem q4_(d:Dfn K mg "_law_bounds_right" yy ["desk","model","pace","walk"])(g:Gs K mg C CT CD cS PS)(q67_:Mt P w K mg base CD "say" 10 ["self","row"] (kn C CT CD PS eN eP)):Fn P w K mg base "_law_bounds_right" 11 ["desk","model","pace","walk"] (hU C CT CD PS):=by
 refine d.fn xV (fun vs H Q E h=>?_) (fun f' cdv A outer st H vs Q E hr h=>?_)
 . obtain⟨q,dq,tb,pd,wk,sl,el,f,m,pc,n,M,tc,F,r,W,rfl,_⟩:=h
   rfl
 obtain⟨q,dq,tb,pd,wk,sl,el,f,m,pc,n,M,tc,F,r,W,rfl,J,q6,k⟩:=h;have lim:sizeLine=16777216:=sizeLine_eq;have g4:Lg 4000 f m pc M tc:=J.gl.mono (by have:=J.hn;omega)
 refine⟨_,(B.scons (B.set 4 xV.nd (B.meth (B.v 0) g.cl_Desk q67_ hr.up (B.cons B.str B.nil)))
  (B.scons (B.dput (bj hr) (B.v 3) B.str (B.and (SW.B.dget (bj hr) (B.v 3) B.str) (B.and (B.cmp bN (B.v 4) (SW.B.dget (bj hr) (B.v 3) B.str)) (B.one (B.cmpI lY B.str (B.v 4))))))
  (B.scons (B.dput (bj hr) (B.v 3) B.str (B.v 4))
  (B.scons (B.ifs (B.tw (B.wor (B.tcmp gL (B.meth (B.v 0) g.cl_Desk q67_ hr.up (B.cons B.str B.nil)) (B.cT aQ g.b_str SW.b_str (B.cons (B.cB h_ g.b_len SW.b_len (B.cons (B.v 1) B.nil)) B.nil))) (B.wor1 (B.tnot (B.tchain cF cF B.int (B.cT SW.cC g.b_int SW.b_int (B.cons (B.meth (B.v 0) g.cl_Desk q67_ hr.up (B.cons B.str B.nil)) B.nil)) (B.op bX (B.op eB B.int (B.v 2)) B.int)))))) (B.sone (B.ret B.bl)) B.snil)
  (B.sone (B.ret (B.or (B.cmp mY (B.v 2) B.int) (B.one (B.cmp cF (B.cB h_ g.b_len SW.b_len (B.cons (B.v 1) B.nil)) (B.op bX (B.cT SW.cC g.b_int SW.b_int (B.cons (B.ix aG (B.m PySem.F.plainAttrs_str PySem.F.slot_str_split PySem.F.type_str_split SW.gv (B.v 4) (B.cons B.str B.nil)) (B.un oF B.int)) B.nil)) B.int)))))))))),?_⟩
 walk_at "W";refine⟨q,dq,_,rfl,J.hq,rfl,?_⟩;walk_at "W";refine rZ (wd:="places") (ns:=[]) rfl J.hq (.ans rfl J.S g4 J.L (.places fun H1 s1=>?_));have J1:=J.same s1;rw[show pj (M.el.map List.length) M.nw.length=szM M from rfl];walk_at "W";refine gh J1.hw kU ?_;rename_i N hN;have rest:∀ s:Bool,(s=true->W.still=true/\W.pl=szM M/\og (szM M)=false)->N [some (.ref q),some (.ref pd),some (.int (pc:Nat)),some (.ref wk),some (.str (szM M))] (upd H1 wk (.dK (wkv W.c sl el s W.pl W.mn))):=fun s hs=>by
  refine SW.wGo hN ?_;walk_at "W";refine eV aa cv nr ?_;have K2:ak wk H1 (upd (upd H1 wk (.dK (wkv W.c sl el s W.pl W.mn))) wk (.dK (wkv W.c sl el s (szM M) W.mn))):=fun b o nb e=>by rw[af nb,af nb];exact e
  have e2:upd (upd H1 wk (.dK (wkv W.c sl el s W.pl W.mn))) wk (.dK (wkv W.c sl el s (szM M) W.mn)) wk=some (.dK (wkv W.c sl el s (szM M) W.mn)):=aa;generalize upd (upd H1 wk (.dK (wkv W.c sl el s W.pl W.mn))) wk (.dK (wkv W.c sl el s (szM M) W.mn))=H2 at *;have J2:D46 C CT CD PS q dq tb pd wk sl el f m pc n M tc F r { W with still:=s,pl:=szM M } H2:=J1.walk K2 e2 (K2 _ _ (aR J1.hs J1.hw (by intro z;cases z)) J1.hs) (K2 _ _ (aR J1.he J1.hw (by intro z;cases z)) J1.he) J1.ns J1.ne J1.ls J1.le
  have P2:P46 f m M r { W with still:=s,pl:=szM M }:=q6.bound hs;have K02:ak wk H H2:=(SW.ao.but s1).trans K2;walk_at "W";refine⟨q,dq,_,rfl,J2.hq,rfl,?_⟩;walk_at "W";refine rZ (wd:="keys") (ns:=[]) rfl J2.hq (.ans rfl J2.S g4 J2.L (.keys fun H3 s3=>?_));have J3:=J2.same s3;walk_at "W";refine⟨pd,_,rfl,J3.hd,?_⟩;rw[dB,J3.cn];walk_at "W";refine⟨_,rfl,aY (by rw[Int.natAbs_natCast];exact Nat.lt_of_le_of_lt g4.le (by decide)),?_⟩
  walk_at "W";refine⟨rfl,?_⟩;walk_at "W";refine eR rfl ?_;walk_at "W";refine⟨q,dq,_,rfl,J3.hq,rfl,?_⟩;walk_at "W";refine rZ (wd:="touched") (ns:=[]) rfl J3.hq (.ans rfl J3.S g4 J3.L (.touched fun H4 s4=>?_));have J4:=J3.same s4;have t0:=g4.t0;have t1:=g4.t1;have tx1:=J4.X.t;have tcs:tc.natAbs < 10 ^ 10:=Nat.lt_of_le_of_lt (show tc.natAbs<=100 by omega) (by decide)
  walk_at "W";refine⟨_,tc,rfl,Nat.le_trans (aZ tcs) (by decide),cw tcs,?_⟩
  show rI0 _ (V.int 0) (V.int tc) _ _;walk_at "W";refine ce (by omega) ?_
  walk_at "W";refine eR (by omega) ?_
  walk_at "W";have K04:ak wk H H4:=K02.trans ((SW.ao.but s3).trans (SW.ao.but s4));refine lR (fun _=>?_) (fun hp3=>?_)
  . walk_at "W"
    exact k s H4 J4 P2 K04
  have hp3:3<=pc:=by
   have hp3:¬ (pc:Int) < 3:=by simpa using hp3
   omega
  walk_at "W";refine⟨pd,_,rfl,J4.hd,?_⟩;rw[dB,J4.cn];walk_at "W";refine wBM ?_;walk_at "W";refine⟨rfl,?_⟩;walk_at "W";obtain⟨ws,w1,w2,w3,w4,w5,w6⟩:=rP J4.gl;obtain⟨c1,c2,c3,c4,c5⟩:=gN (ws:=ws) (B:=11) qB w1 w3 w4 (by omega)
  rw[← w2]at c2 c3 c4 c5;refine⟨_,_,rfl,rfl,c1,c2,c3,c4,fun l hl=>?_⟩;rw[c5];have s5:=ao.new (o:=.lst (ws.map V.str)) hl;have e5:upd H4 l (.lst (ws.map V.str)) l=some (.lst (ws.map V.str)):=aa;generalize upd H4 l (.lst (ws.map V.str))=H5 at *;have z2:=g4.sizes.2;have sn:((M.nw.length:Nat):Int).natAbs < 10 ^ 10:=by rw[Int.natAbs_natCast];exact Nat.lt_of_le_of_lt z2 (by decide)
  walk_at "W";refine fK e5 w6 ?_;walk_at "W";refine⟨_,_,rfl,Nat.le_trans (aZ sn) (by decide),cw sn,?_⟩
  have late:=J4.X.late hp3;show tC (V.int 1) _ _ _;walk_at "W";rw[decide_eq_true (by omega)]
  exact k s H5 (J4.same s5) P2 (K04.trans (SW.ao.but s5))
 clear hN;refine⟨_,rfl,?_⟩;cases es:W.still with
 | false=>
   refine bB ?_;walk_at "W";refine eV J1.hw cv d8 ?_;exact rest false (fun z=>nomatch z)
 | true=>
   refine bL ?_;walk_at "W";refine gh J1.hw pG ?_;walk_at "W";refine⟨rfl,?_⟩;refine⟨_,rfl,?_⟩;by_cases ep:V.str (szM M)=V.str W.pl
   . refine ce ep ?_
     have ep:W.pl=szM M:=by
      injection ep with ep;exact ep.symm
     walk_at "W";refine⟨_,_,rfl,rfl,?_⟩;walk_at "W";refine eV J1.hw cv d8 ?_;refine rest _ fun z=>⟨es,ep,?_⟩;unfold og;cases y:(!(Builtin.Str.occurrences (szM M) (Str.ofString ">") 0 (szM M).length 1).isEmpty)with
     | false=>rfl
     | true=>rw[y]at z;cases z
   refine aF ep ?_;walk_at "W";refine eV J1.hw cv d8 ?_;exact rest false (fun z=>nomatch z)
theorem sq(a:True):True:=by
 have:=@q4_;have:=@uo
 trivial
def SPs(H:Hp):List V->av->Prop:=Paired fun(x:V) (p:Int×Int)=>∃ a,x=V.ref a/\H a=some (.lst [.str (tx p.1),.str (tx p.2)])
theorem SPs.keep{H H':Hp}{xs:List V}{ps:av}(h:SPs H xs ps)(k:∀ a o,H a=some o->H' a=some o):SPs H' xs ps:=Paired.mapP h fun x p ⟨a,e,z⟩=>⟨a,e,k _ _ z⟩
theorem jr(z:Int)(l:List Int):inV (V.int z) (l.map V.int)=decide (z∈l):=by
 induction l with
 | nil=>rfl
 | cons y ys ih=>
   show(y == z || inV (V.int z) (ys.map V.int))=_;rw[ih];by_cases h:y=z
   . subst h;simp
   have h':¬ z=y:=fun e=>h e.symm;simp[h,h']
theorem ig(l:List Int):(l.map V.int).all gz=true:=by
 induction l with
 | nil=>rfl
 | cons y ys ih=>exact ih
def jb(C CT CD PS:Addr):Sp:=fun vs H Q _=>∃(q dq tb pd wk sl el:Addr) (f m:Int) (pc n:Nat) (M:MT) (tc:Int) (F:Addr->Prop) (r:av) (W:Wkd),vs=[.ref q,.ref pd,.ref wk]/\D46 C CT CD PS q dq tb pd wk sl el f m pc n M tc F r W H/\P46 f m M r W/\n < 600 /\ ∀(sl' el':Addr) (W':Wkd) H',D46 C CT CD PS q dq tb pd wk sl' el' f m pc (n+1) M tc F r W' H'->Q46 f m M r W'->(∀ b,bG q pd wk sl' el' F b->bG q pd wk sl el F b∨H b=none)->SW.Fr (fun b=>b=wk∨b=PS) H H'->Q (.bl true) H'
theorem wZ{C CT CD PS q dq tb pd wk sl el:Addr}{f m:Int}{pc n:Nat}{M:MT}{tc:Int}{F:Addr->Prop}{r:av}{W:Wkd}{H:Hp}{Q:VK}{E:XK}(J:D46 C CT CD PS q dq tb pd wk sl el f m pc n M tc F r W H)(P6:P46 f m M r W)(hn:n < 600)(k:∀(sl' el':Addr) (W':Wkd) H',D46 C CT CD PS q dq tb pd wk sl' el' f m pc (n+1) M tc F r W' H'->Q46 f m M r W'->(∀ b,bG q pd wk sl' el' F b->bG q pd wk sl el F b∨H b=none)->SW.Fr (fun b=>b=wk∨b=PS) H H'->Q (.bl true) H'):jb C CT CD PS ([.ref q,.ref pd,.ref wk]++[]) H Q E:=⟨q,dq,tb,pd,wk,sl,el,f,m,pc,n,M,tc,F,r,W,rfl,J,P6,hn,k⟩
theorem rR(p:Int×Int):dG p=Str.join (Str.ofString ":") [tx p.1,tx p.2]:=by rw[tK];rfl
theorem vX(p:Int×Int):32∉(dG p).cps.toList:=fun z=>by
 rw[tK,bT,bT]at z;rcases List.mem_append.mp z with z | z
 . rcases List.mem_append.mp z with z | z
   . exact eE p.1 (c:=32) (by decide) z
   exact absurd z (by decide)
 exact eE p.2 (c:=32) (by decide) z
section
variable{C CT CD PS q dq tb pd wk sl el:Addr}{f m:Int}{pc n:Nat}{M:MT}{tc:Int}{F:Addr->Prop}{r:av}{W:Wkd}{H H':Hp}
theorem D46.mono(J:D46 C CT CD PS q dq tb pd wk sl el f m pc n M tc F r W H)(h:n < 600):D46 C CT CD PS q dq tb pd wk sl el f m pc (n+1) M tc F r W H:=
 ⟨J.hq,J.S,J.gl.mono (Nat.le_succ n),J.X,J.hd,J.ok,J.lk,J.cn,J.hw,J.hs,J.he,J.L,J.nq,J.np,J.nk,J.ns,J.ne,J.e1,J.ls,Nat.le_trans J.le (by omega),h⟩
end
theorem AE(d:Dfn K mg "_law_step_right" x6 ["desk","model","walk"])(g:Gs K mg C CT CD cS PS)(q67_:Mt P w K mg base CD "say" 10 ["self","row"] (kn C CT CD PS eN eP)):Fn P w K mg base "_law_step_right" 11 ["desk","model","walk"] (jb C CT CD PS):=by
 refine d.fn im (fun vs H Q E h=>?_) (fun f' cdv A outer st H vs Q E hr h=>?_)
 . obtain⟨q,dq,tb,pd,wk,sl,el,f,m,pc,n,M,tc,F,r,W,rfl,_⟩:=h
   rfl
 obtain⟨q,dq,tb,pd,wk,sl0,el0,f,m,pc,n,M,tc,F,r,W0,rfl,J0,P6,hn,k⟩:=h;have lim:sizeLine=16777216:=sizeLine_eq;have e10:(10:Nat) ^ 10=10000000000:=by decide
 have g4:Lg 4000 f m pc M tc:=J0.gl.mono (by have:=J0.hn;omega)
 refine⟨_,(B.scons (B.ifs (B.tcmp bN (SW.B.dget (bj hr) (B.v 2) B.str) B.int) (B.scons (B.dput (bj hr) (B.v 2) B.str (B.cB SW.fM g.b_sorted SW.b_sorted (B.cons (B.v 1) B.nil)))
  (B.scons (B.dput (bj hr) (B.v 2) B.str (B.lst B.nil))
  (B.sone (B.dput (bj hr) (B.v 2) B.str B.bl)))) B.snil)
  (B.scons (B.set 3 im.nd (B.m PySem.F.plainAttrs_str PySem.F.slot_str_split PySem.F.type_str_split SW.gv (B.meth (B.v 0) g.cl_Desk q67_ hr.up (B.cons (B.op bD B.str (B.cT aQ g.b_str SW.b_str (B.cons (SW.B.dget (bj hr) (B.v 2) B.str) B.nil))) B.nil)) (B.cons B.str B.nil)))
  (B.scons (SW.B.compSet 4 [] ["word"] (SW.aC.of rfl rfl (by decide +kernel) (by decide +kernel) rfl trivial rfl rfl rfl) (by decide +kernel) im.nd (B.ilist (B.slice gM (B.v 3) (B.part B.int) B.nopart)) (fun _ _ _ _=>(SW.B.mK K PySem.F.plainAttrs_str PySem.F.slot_str_split PySem.F.type_str_split SW.gv (B.v 0) (B.cons B.str B.nil))))
  (B.scons (B.fors (B.ilist (B.v 4)) (SW.B.glst (B.gcons (B.gname (i:=5) im.nd) (B.gcons (B.gname (i:=6) im.nd) B.gnil))) (B.sone (B.ifs (B.tw (B.wor (SW.B.tdnotin (bj hr) (B.cT SW.cC g.b_int SW.b_int (B.cons (B.v 5) B.nil)) (B.v 1)) (B.wor1 (B.tcmp gL (B.cT aQ g.b_str SW.b_str (B.cons (SW.B.dget (bj hr) (B.v 1) (B.cT SW.cC g.b_int SW.b_int (B.cons (B.v 5) B.nil))) B.nil)) (B.v 6))))) (B.sone (B.ret B.bl)) B.snil)))
  (B.scons (SW.B.compNSet 7 ["key","worth"] [] ["key","worth"] (SW.be.of rfl rfl (by decide +kernel) (by decide +kernel) trivial rfl rfl rfl) im.nd (B.ilist (B.v 4)) (fun _ _ _ _=>(SW.B.glstK K (n:=2) (B.gcons (B.gname (i:=0) (show(["key","worth"]:List Str).Nodup by decide +kernel)) (B.gcons (B.gname (i:=1) (show(["key","worth"]:List Str).Nodup by decide +kernel)) B.gnil)))) (fun _ _ _ _=>(B.cT SW.cC g.b_int SW.b_int (B.cons (B.v 0) B.nil))))
  (B.scons (B.set 8 im.nd (B.cT SW.cC g.b_int SW.b_int (B.cons (B.ix aG (B.v 3) B.int) B.nil)))
  (B.scons (B.ifs (B.tw (B.wor (B.tcmp mY (B.cB SW.kI g.b_len SW.b_len (B.cons (B.cT SW.lJ g.b_set SW.b_set (B.cons (B.v 7) B.nil)) B.nil)) (B.cB aP g.b_len SW.b_len (B.cons (B.v 7) B.nil))) (B.wor1 (B.tw (B.wand (B.tcmp gL (B.v 8) B.int) (B.wand1 (B.tcmp cF (B.v 8) (SW.B.dget (bj hr) (B.v 2) B.str)))))))) (B.sone (B.ret B.bl)) B.snil)
  (B.scons (SW.B.compSetIf 9 [2] ["key","walk"] (SW.aC.of rfl rfl (by decide +kernel) (by decide +kernel) rfl ⟨rfl,trivial⟩ rfl rfl rfl) (by decide +kernel) im.nd (B.ilist (B.v 7)) (fun _ _ _ _=>(B.tw (B.wand (B.tcmpI (SW.tX K) (B.v 0) (SW.B.dget (bj hr) (B.v 1) B.str)) (B.wand1 (B.tcmpI (SW.tX K) (B.v 0) (SW.B.dget (bj hr) (B.v 1) B.str)))))) (fun _ _ _ _=>(B.v 0)))
  (B.scons (B.ifs (B.tw (B.wand (B.tval (SW.B.dget (bj hr) (B.v 2) B.str)) (B.wand1 (B.tcmp (SW.vT (ot hr)) (B.v 9) (B.lst B.nil))))) (B.sone (B.ret B.bl)) B.snil)
  (B.scons (B.dput (bj hr) (B.v 2) B.str (B.op mG (SW.B.dget (bj hr) (B.v 2) B.str) (B.v 7)))
  (B.scons (B.dput (bj hr) (B.v 2) B.str (B.v 8))
  (B.sone (B.ret (B.or (B.cmp gL (B.v 8) B.int) (B.one (B.cmp (wc (ot hr)) (SW.B.compIf [2] ["key","walk"] (SW.aC.of rfl rfl (by decide +kernel) (by decide +kernel) rfl ⟨rfl,trivial⟩ rfl rfl rfl) (by decide +kernel) (B.ilist (SW.B.dget (bj hr) (B.v 2) B.str)) (fun _ _ _ _=>(B.tcmpI (SW.qM K) (B.v 0) (SW.B.dget (bj hr) (B.v 1) B.str))) (fun _ _ _ _=>(B.v 0))) (B.lst B.nil))))))))))))))))),?_⟩
 rw[show L2.cg _ [V.ref q,V.ref pd,V.ref wk]=[some (.ref q),some (.ref pd),some (.ref wk),none,none,none,none,none,none,none]from rfl];walk_at "W";refine gh J0.hw fU ?_;walk_at "W";rename_i N hN;have rest:∀(sl el:Addr) (W:Wkd) (H1:Hp),D46 C CT CD PS q dq tb pd wk sl el f m pc n M tc F r W H1->B46 f m M r W->(∀ b,bG q pd wk sl el F b->bG q pd wk sl0 el0 F b∨H b=none)->ak wk H H1->N [some (.ref q),some (.ref pd),some (.ref wk),none,none,none,none,none,none,none] H1:=by
  intro sl el W H1 J1 B own1 K1;refine SW.wGo hN ?_;clear hN;have c0:=B.c0;have c1:=B.c1;have sc:W.c.natAbs < 10 ^ 10:=by rw[e10];omega
  have lc:=aZ sc;have l0:(Str.ofString "step ").length=5:=rfl;walk_at "W";refine wBM ?_;walk_at "W";refine⟨q,dq,_,rfl,J1.hq,rfl,?_⟩;walk_at "W";refine gh J1.hw fU ?_;walk_at "W";refine⟨_,rfl,aY sc,?_⟩;rw[show Str.ofString (toString W.c)=tx W.c from rfl];walk_at "W";refine⟨_,_,rfl,rfl,by omega,?_⟩
  walk_at "W";refine rZ (wd:="step") (ns:=[W.c]) (yR (w:=Str.ofString "step") (by decide)) J1.hq (.ans rfl J1.S g4 J1.L (.step c0 c1 fun H2 L2' K2=>?_))
  have J2:=J1.lam L2' K2;obtain⟨z1,z2⟩:=g4.step c0 c1;have hps:(bt M W.c).length<=600:=by
   have:=J1.gl.le;have:=J1.hn;omega
  obtain⟨x1,x2,x3,x4,x5⟩:=gN (ws:=tx (bhA M W.c)::(bt M W.c).map dG) (B:=23) mV (by simp) (fun y hy=>by
   rcases List.mem_cons.mp hy with rfl | z
   . exact eE _ (by decide)
   . obtain⟨pr,_,rfl⟩:=List.mem_map.mp z
     exact vX pr) (fun y hy=>by
   rcases List.mem_cons.mp hy with rfl | z
   . exact Nat.le_trans (aZ (fA M W.c)) (by decide)
   obtain⟨pr,hpr,rfl⟩:=List.mem_map.mp z;exact ya (z1 pr hpr).2.small) (by rw[List.length_cons,List.length_map];omega)
  refine⟨rfl,?_⟩;walk_at "W";refine⟨vx (bhA M W.c) (bt M W.c),_,rfl,rfl,x1,x2,x3,x4,fun wl hwl=>?_⟩;rw[show Txt.split (vx (bhA M W.c) (bt M W.c)) (Str.ofString " ")=tx (bhA M W.c)::(bt M W.c).map dG from x5];clear x1 x2 x3 x4 x5;have s3:=ao.new (o:=.lst ((tx (bhA M W.c)::(bt M W.c).map dG).map V.str)) hwl;have e3:upd H2 wl (.lst ((tx (bhA M W.c)::(bt M W.c).map dG).map V.str)) wl=some (.lst (.str (tx (bhA M W.c))::((bt M W.c).map dG).map V.str)):=aa;have J3:=J2.same s3;generalize upd H2 wl (.lst ((tx (bhA M W.c)::(bt M W.c).map dG).map V.str))=H3 at *;have F3:SW.Fr (fun b=>b=wk∨b=PS) H H3:=fun b o nb e=>s3 _ _ (K2 _ _ (fun z=>nb (.inr z)) (K1 _ _ (fun z=>nb (.inl z)) e));have lv3:∀ b,H3 b=none->H b=none:=fun b h=>by
   cases e:H b with
   | none=>rfl
   | some o=>
     by_cases y1:b=wk
     . exact absurd (y1 ▸ h) (J3.live (.inr (.inr (.inr (.inl rfl)))))
     by_cases y2:b=PS
     . exact absurd (y2 ▸ h) J3.L.live
     rw[F3 b o (fun z=>z.elim y1 y2) e]at h;cases h
  clear J2 K2 L2' hwl s3 K1 J1;generalize hPS:bt M W.c=ps at *;show iB 3 (V.ref wl) _ _ _;walk_at "W";refine⟨1,rfl,wl,_,rfl,SqL.of e3,fun l1 hl1=>?_⟩;rw[t9];have s4:=ao.new (o:=.lst ((ps.map dG).map V.str)) hl1;have e4:upd H3 l1 (.lst ((ps.map dG).map V.str)) l1=some (.lst ((ps.map dG).map V.str)):=aa;generalize upd H3 l1 (.lst ((ps.map dG).map V.str))=H4 at *;refine⟨l1,rfl,⟨_,SqL.of e4⟩,fun D hD=>?_⟩;refine dj (xs:=(ps.map dG).map V.str) (fun i U' H'=>∃(v:Option V) (xs:List V),U'=[v]/\ao H4 H'/\H' D=some (.lst xs)/\SPs H' xs (ps.take i)) ⟨none,[],rfl,ao.new hD,aa,.nil⟩ (fun i U' H' _ ⟨v,xs,_,s',_⟩=>SqL.of (s' _ _ e4)) ?_ ?_
  . rintro i x U' H' hx hi ⟨v,xs,rfl,s',hD',sp⟩
    rw[List.getElem?_map,List.getElem?_map]at hx;cases hz:ps[i]? with
    | none=>rw[hz]at hx;cases hx
    | some p=>
      rw[hz]at hx;cases hx;have hp:=List.mem_of_getElem? hz;have hi':i < ps.length:=(List.getElem?_eq_some_iff.mp hz).1;obtain⟨b1,b2⟩:=(z1 p hp).2.small;obtain⟨x1,x2,x3,x4,x5⟩:=gN (ws:=[tx p.1,tx p.2]) (B:=11) sB (by simp) (fun y hy=>by
       simp only[List.mem_cons,List.not_mem_nil,or_false]at hy;rcases hy with rfl | rfl <;> exact eE _ (by decide)) (fun y hy=>by
       simp only[List.mem_cons,List.not_mem_nil,or_false]at hy;rcases hy with rfl | rfl
       . exact aZ b1
       exact aZ b2) (Nat.le_of_ble_eq_true rfl)
      rw[← rR]at x2 x3 x4 x5;walk_at "W";refine wBM ?_;walk_at "W";refine⟨rfl,?_⟩;walk_at "W";refine⟨dG p,_,rfl,rfl,x1,x2,x3,x4,fun l hl=>?_⟩;rw[x5];clear x1 x2 x3 x4 x5;have s5:=ao.new (o:=.lst ([tx p.1,tx p.2].map V.str)) hl;have e5:upd H' l (.lst ([tx p.1,tx p.2].map V.str)) l=some (.lst [.str (tx p.1),.str (tx p.2)]):=aa;generalize upd H' l (.lst ([tx p.1,tx p.2].map V.str))=H5 at *;have hD5:=s5 _ _ hD';have lx:=ez sp;rw[List.length_take]at lx;have nlD:l≠D:=(ah hD' hl).symm;have kD:∀ a o,a≠D->H5 a=some o->upd H5 D (.lst (xs++[.ref l])) a=some o:=fun a o na e=>by rw[af na];exact e
      refine CN.mk hi hD5 (by omega) ⟨_,xs++[.ref l],rfl,fun b o e=>kD _ _ (ah e hD) (s5 _ _ (s' _ _ e)),aa,?_⟩
      rw[cj hz];refine dF (.cons ⟨l,rfl,kD _ _ nlD e5⟩ .nil) ?_;refine Paired.mapP sp fun x p ⟨a,e,z⟩=>⟨a,e,kD _ _ ?_ (s5 _ _ z)⟩;intro y;rw[y,hD']at z;injection z with z;injection z with z;rw[z]at sp;obtain⟨_,_,_,e',_⟩:=c_ sp (i:=0) rfl;cases e'
  rintro U' H' ⟨v,xs,rfl,s',hD',sp⟩;rw[List.length_map,List.length_map,List.take_length]at sp;have s5:=s4.trans s';have J5:=J3.same s5;have e5:=s5 _ _ e3;have F5:SW.Fr (fun b=>b=wk∨b=PS) H H':=fun b o nb e=>s5 _ _ (F3 b o nb e);have lv5:∀ b,H' b=none->H b=none:=fun b h=>lv3 b (s5.free h);clear s4 s' s5 J3 e3 e4 F3 lv3 hl1 hD;walk_at "W";refine⟨D,rfl,⟨_,SqL.of hD'⟩,?_⟩;have hxl:=ez sp;have Bin:=B.in_ g4.T g4.R J5.lk;rw[hPS]at Bin;refine SW.fj (xs:=xs) (fun i U H1=>∃ v5 v6:Option V,U=[some (.ref q),some (.ref pd),some (.ref wk),some (.ref wl),some (.ref D),v5,v6,none,none,none]/\H1=H') ⟨none,none,rfl,rfl⟩ (fun i U H1 _ ⟨_,_,_,e⟩=>by rw[e];exact SqL.of hD') ?_ ?_
  . rintro i x U H1 hx ⟨v5,v6,rfl,rfl⟩
    obtain⟨p,ep,a,rfl,ha⟩:=c_ sp hx;have hp:=List.mem_of_getElem? ep;obtain⟨b1,b2⟩:=(z1 p hp).2.small;intro N2 hN2;walk_at "W";refine⟨a,_,rfl,SqL.of ha,rfl,_,_,rfl,_,_,rfl,rfl,?_⟩;walk_at "W";refine⟨_,p.1,rfl,Nat.le_trans (aZ b1) (by decide),cw b1,?_⟩
    show d_ 1 _ _ _;walk_at "W";refine⟨pd,_,rfl,cR.k (k:=Sum.inl p.1) J5.hd,?_⟩;rw[bC,Bin p hp];refine⟨_,rfl,?_⟩;refine bB ?_;walk_at "W";refine⟨_,p.1,rfl,Nat.le_trans (aZ b1) (by decide),cw b1,?_⟩
    refine⟨pd,V.int p.2,rfl,?_,?_⟩
    . have z:=cR.k (k:=Sum.inl p.1) J5.hd
      rw[bC,Bin p hp]at z;exact z
    walk_at "W";refine⟨_,rfl,aY b2,?_⟩;show d_ 6 _ _ _;walk_at "W";refine⟨rfl,?_⟩;walk_at "W";refine eR rfl ?_;walk_at "W";subst hN2;exact⟨_,_,rfl,rfl⟩
  rintro U H1 ⟨v5,v6,rfl,rfl⟩;walk_at "W";refine⟨D,rfl,⟨_,SqL.of hD'⟩,fun D2 hD2=>?_⟩;refine j6 (tt:=fun _ H Q=>Q true H) (xs:=xs) (fun i U' H'=>(∃ v0 v1:Option V,U'=[v0,v1])/\ao H1 H'/\H' D2=some (.lst (((ps.take i).map (·.1)).map V.int))) ⟨⟨none,none,rfl⟩,ao.new hD2,by rw[List.take_zero];exact aa⟩ (fun i U' H' _ ⟨_,s',_⟩=>SqL.of (s' _ _ hD')) ?_ ?_
  . rintro i x U' H' hx hi ⟨⟨v0,v1,rfl⟩,s',hD2'⟩
    obtain⟨p,ep,a,rfl,ha⟩:=c_ sp hx;have hp:=List.mem_of_getElem? ep;obtain⟨b1,b2⟩:=(z1 p hp).2.small;have hi':i < ps.length:=(List.getElem?_eq_some_iff.mp ep).1;refine⟨a,_,rfl,SqL.of (s' _ _ ha),rfl,_,_,rfl,_,_,rfl,rfl,?_⟩;refine bL ?_;walk_at "W";refine⟨_,p.1,rfl,Nat.le_trans (aZ b1) (by decide),cw b1,?_⟩
    refine CN.mk hi hD2' (by rw[List.length_map,List.length_map,List.length_take];omega) ⟨⟨_,_,rfl⟩,fun b o e=>by rw[af (ah e hD2)];exact s' _ _ e,?_⟩
    rw[aa,cj ep,List.map_append,List.map_append]
    rfl
  rintro U' H' ⟨_,s',hD2'⟩;rw[hxl,List.take_length]at hD2';generalize hks:ps.map (·.1)=ks at *;have J6:=J5.same s';have e6:=s' _ _ e5;have F6:SW.Fr (fun b=>b=wk∨b=PS) H H':=fun b o nb e=>s' _ _ (F5 b o nb e);have lv6:∀ b,H' b=none->H b=none:=fun b h=>lv5 b (s'.free h);have kl:ks.length=ps.length:=by rw[← hks,List.length_map]
  clear J5 e5 F5 lv5 hD';walk_at "W";refine fK e6 (wM _ _) ?_;walk_at "W";refine⟨_,bhA M W.c,rfl,Nat.le_trans (aZ (fA M W.c)) (by decide),cw (fA M W.c),?_⟩
  show iB 8 _ _ _ _;walk_at "W";refine⟨D2,ks,rfl,SqL.of hD2',by omega,rfl,fun a S hset=>?_⟩
  have s7:=ao.new (o:=.set S (cf ks)) hset;have e7:upd H' a (.set S (cf ks)) a=some (.set S (cf ks)):=aa;have J7:=J6.same s7;have hD7:=s7 _ _ hD2';generalize upd H' a (.set S (cf ks))=H7 at *;have F7:SW.Fr (fun b=>b=wk∨b=PS) H H7:=fun b o nb e=>s7 _ _ (F6 b o nb e);have lv7:∀ b,H7 b=none->H b=none:=fun b h=>lv6 b (s7.free h);clear J6 e6 F6 lv6 s' hset s7;have nd:ks.Nodup:=by
   have:=jw g4.T g4.R c0 (show W.c < 65536 by omega)
   rw[hPS]at this;rw[← hks];exact this
  rw[(qN ks).mpr nd]at e7;walk_at "W";refine⟨a,_,_,rfl,e7,?_⟩;walk_at "W";refine SW.eS (.inl (SqL.of hD7)) ?_;rw[List.length_map];walk_at "W";refine aF (by omega) ?_
  rename_i N5 hN5;have rest5:N5 [some (.ref q),some (.ref pd),some (.ref wk),some (.ref wl),some (.ref D),v5,v6,some (.ref D2),some (.int (bhA M W.c)),none] H7:=by
   refine SW.wGo hN5 ?_;clear hN5;walk_at "W";refine⟨D2,rfl,⟨_,SqL.of hD7⟩,fun D3 hD3=>?_⟩;refine fG (xs:=ks.map V.int) (fun i U' H'=>∃(v:Option V) (ag:List Int),U'=[v,some (.ref wk)]/\ao H7 H'/\H' D3=some (.lst (ag.map V.int))/\(W.still=true->ag=[])/\ag.length<=i) ⟨none,[],rfl,ao.new hD3,aa,fun _=>rfl,Nat.le_refl 0⟩ (fun i U' H' _ ⟨v,ag,_,s',_⟩=>SqL.of (s' _ _ hD7)) ?_ ?_
   . rintro i x U' H' hx hi ⟨v,ag,rfl,s',hD3',hst,hal⟩
     have hi:i < ks.length:=by rw[List.length_map]at hi;exact hi
     obtain⟨z,rfl⟩:=gU hx;have hz:z∈ks:=by
      rw[List.getElem?_map]at hx;cases e:ks[i]? with
      | none=>rw[e]at hx;cases hx
      | some y=>
        rw[e]at hx;cases hx;exact List.mem_of_getElem? e
     have nog:W.still=true->z∉W.seen:=fun hs=>by
      have:=B.again g4.T g4.R hs;rw[hPS]at this;rw[← hks]at hz;obtain⟨p,hp,rfl⟩:=List.mem_map.mp hz;exact this p hp
     walk_at "W";refine gh (s' _ _ J7.hw) jU ?_;refine⟨el,_,rfl,.inl (SqL.of (s' _ _ J7.he)),rfl,ig _,?_⟩;rw[jr];refine⟨_,rfl,?_⟩;have hi2:i < (ks.map V.int).length:=by rw[List.length_map];exact hi
     have skip:CO (fun i U' H'=>∃(v:Option V) (ag:List Int),U'=[v,some (.ref wk)]/\ao H7 H'/\H' D3=some (.lst (ag.map V.int))/\(W.still=true->ag=[])/\ag.length<=i) (ks.map V.int).length i ([v,some (.ref wk)].set 0 (some (.int z))) H':=CO.mk hi2 ⟨_,ag,rfl,s',hD3',hst,by omega⟩
     by_cases hin:z∈W.seen
     . refine ce hin ?_
       walk_at "W";refine gh (s' _ _ J7.hw) jD ?_;refine⟨sl,_,rfl,.inl (SqL.of (s' _ _ J7.hs)),rfl,ig _,?_⟩;rw[jr];refine⟨_,rfl,?_⟩;by_cases hin2:z∈W.stay
       . refine ce hin2 ?_
         walk_at "W";refine CN.mk hi2 hD3' (by rw[List.length_map];omega) ⟨_,ag++[z],rfl,fun b o e=>by rw[af (ah e hD3)];exact s' _ _ e,?_,fun hs=>absurd hin (nog hs),by rw[List.length_append,List.length_singleton];omega⟩
         rw[aa,List.map_append];rfl
       refine aF hin2 ?_;exact skip
     refine aF hin ?_;refine bB ?_;exact skip
   rintro U' H' ⟨v,ag,_,s',hD3',hst,hal⟩;have J8:=J7.same s';have F8:SW.Fr (fun b=>b=wk∨b=PS) H H':=fun b o nb e=>s' _ _ (F7 b o nb e);have lv8:∀ b,H' b=none->H b=none:=fun b h=>lv7 b (s'.free h);have hD8:=s' _ _ hD7;clear J7 F7 lv7 hD7 s' hD3;walk_at "W";refine gh J8.hw kU ?_;rename_i N6 hN6;have rest6:∀ H9,ao H' H9->N6 [some (.ref q),some (.ref pd),some (.ref wk),some (.ref wl),some (.ref D),v5,v6,some (.ref D2),some (.int (bhA M W.c)),some (.ref D3)] H9:=fun H9 s9=>by
    refine SW.wGo hN6 ?_;clear hN6;have J9:=J8.same s9;have hD9:=s9 _ _ hD8;have F9:SW.Fr (fun b=>b=wk∨b=PS) H H9:=fun b o nb e=>s9 _ _ (F8 b o nb e);have lv9:∀ b,H9 b=none->H b=none:=fun b h=>lv8 b (s9.free h);walk_at "W";refine gh J9.hw jU ?_;walk_at "W";have le:=J9.le;have hn6:=J9.hn;have lsm:W.seen.length<=600*600:=Nat.le_trans le (Nat.mul_le_mul_left 600 hn6);refine⟨el,D2,_,_,rfl,rfl,J9.he,hD9,by rw[List.length_map,List.length_map,lim];omega,fun e2 he2=>?_⟩
    rw[← List.map_append];have s10:=ao.new (o:=.lst ((W.seen++ks).map V.int)) he2;have e10':upd H9 e2 (.lst ((W.seen++ks).map V.int)) e2=some (.lst ((W.seen++ks).map V.int)):=aa;have J10:=J9.same s10;generalize upd H9 e2 (.lst ((W.seen++ks).map V.int))=H10 at *;walk_at "W";refine eV J10.hw cv lg ?_;walk_at "W";refine eV aa cv nU ?_;have ne2:e2≠wk:=(ah J9.hw he2).symm;have K11:ak wk H10 (upd (upd H10 wk (.dK (wkv W.c sl e2 W.still W.pl W.mn))) wk (.dK (wkv (bhA M W.c) sl e2 W.still W.pl W.mn))):=fun b o nb e=>by rw[af nb,af nb];exact e
    have w11:upd (upd H10 wk (.dK (wkv W.c sl e2 W.still W.pl W.mn))) wk (.dK (wkv (bhA M W.c) sl e2 W.still W.pl W.mn)) wk=some (.dK (wkv (bhA M W.c) sl e2 W.still W.pl W.mn)):=aa;generalize upd (upd H10 wk (.dK (wkv W.c sl e2 W.still W.pl W.mn))) wk (.dK (wkv (bhA M W.c) sl e2 W.still W.pl W.mn))=H11 at *;have Q6:=B.next g4.T g4.R J9.lk;rw[hPS,hks]at Q6;have J11:D46 C CT CD PS q dq tb pd wk sl e2 f m pc (n+1) M tc F r { W with c:=bhA M W.c,seen:=W.seen++ks } H11:=(J10.mono hn).walk K11 w11 (K11 _ _ (aR J10.hs J10.hw (by intro z;cases z)) J10.hs) (K11 _ _ ne2 e10') J10.ns (fun z=>J9.S.fresh he2 z) J10.ls (by show(W.seen++ks).length<=_;rw[List.length_append];omega)
    have own11:∀ b,bG q pd wk sl e2 F b->bG q pd wk sl0 el0 F b∨H b=none:=fun b hb=>by
     rcases hb with h | h | h | h | h | h
     . exact own1 b (.inl h)
     . exact own1 b (.inr (.inl h))
     . exact own1 b (.inr (.inr (.inl h)))
     . exact own1 b (.inr (.inr (.inr (.inl h))))
     . exact own1 b (.inr (.inr (.inr (.inr (.inl h)))))
     exact .inr (h ▸ lv9 e2 he2)
    have F11:SW.Fr (fun b=>b=wk∨b=PS) H H11:=fun b o nb e=>K11 _ _ (fun z=>nb (.inl z)) (s10 _ _ (F9 b o nb e));walk_at "W";by_cases hb0:bhA M W.c=0
    . refine eR (by rw[hb0]) ?_
      have all:=B.end_ g4.T g4.R J9.lk hb0;rw[hPS,hks]at all;walk_at "W";refine gh w11 jD ?_;refine⟨sl,rfl,⟨_,SqL.of J11.hs⟩,fun D4 hD4=>?_⟩;refine fG (xs:=W.stay.map V.int) (fun i U' H'=>(∃ v:Option V,U'=[v,some (.ref wk)])/\ao H11 H'/\H' D4=some (.lst [])) ⟨⟨none,rfl⟩,ao.new hD4,aa⟩ (fun i U' H' _ ⟨_,s',_⟩=>SqL.of (s' _ _ J11.hs)) ?_ ?_
      . rintro i x U' H' hx hi ⟨⟨v,rfl⟩,s',hD4'⟩
        obtain⟨z,rfl⟩:=gU hx;have hz:z∈W.stay:=by
         rw[List.getElem?_map]at hx;cases e:W.stay[i]? with
         | none=>rw[e]at hx;cases hx
         | some y=>
           rw[e]at hx;cases hx;exact List.mem_of_getElem? e
        walk_at "W";refine gh (s' _ _ w11) jU ?_;refine⟨e2,_,rfl,.inl (SqL.of (s' _ _ J11.he)),rfl,ig _,?_⟩;rw[jr,decide_eq_true (all z hz)];refine⟨_,rfl,?_⟩;refine bB ?_;exact CO.mk hi ⟨⟨_,rfl⟩,s',hD4'⟩
      rintro U' H' ⟨_,s',hD4'⟩;walk_at "W";refine⟨by show(0:Nat)<=sizeLine;decide,fun l9 hl9=>?_⟩
      have s12:=ao.new (o:=.lst []) hl9;refine⟨D4,l9,_,rfl,rfl,SqL.of (s12 _ _ hD4'),SqL.of aa,?_⟩;generalize upd H' l9 (.lst [])=H12 at *;exact k sl e2 _ H12 ((J11.same s').same s12) Q6 own11 fun b o nb e=>s12 _ _ (s' _ _ (F11 b o nb e))
    refine mW (fun z=>hb0 (by injection z)) ?_
    exact k sl e2 _ H11 J11 Q6 own11 F11
   clear hN6;refine⟨_,rfl,?_⟩;cases hst':W.still with
   | false=>
     refine bB ?_;refine bB ?_;walk_at "W";exact rest6 H' fun _ _ e=>e
   | true=>
     refine bL ?_;walk_at "W";refine⟨by show(0:Nat)<=sizeLine;decide,fun l9 hl9=>?_⟩
     have s9:=ao.new (o:=.lst []) hl9;refine⟨D3,l9,_,rfl,rfl,SqL.of (s9 _ _ hD3'),SqL.of aa,?_⟩;rw[hst hst'];refine⟨_,rfl,?_⟩;refine bB ?_;walk_at "W";exact rest6 _ s9
  clear hN5;walk_at "W";by_cases hb0:bhA M W.c=0
  . refine eR (by rw[hb0]) ?_
    refine bB ?_;walk_at "W";exact rest5
  refine mW (fun z=>hb0 (by injection z)) ?_
  walk_at "W";refine gh J7.hw fU ?_;walk_at "W";have:=(B.up g4.T hb0).1;refine aF (by omega) ?_
  walk_at "W";exact rest5
 clear hN;by_cases hc0:W0.c=0
 . refine ce (by rw[hc0]) ?_
   walk_at "W";refine⟨pd,r,rfl,J0.hd,rfl,fun s2 ks hs2 pm=>?_⟩;have s1:=ao.new (o:=.lst (ks.map V.int)) hs2;have e1:upd H s2 (.lst (ks.map V.int)) s2=some (.lst (ks.map V.int)):=aa;have J1:=J0.same s1;generalize upd H s2 (.lst (ks.map V.int))=H1 at *;walk_at "W";refine eV J1.hw cv kZ ?_;walk_at "W";refine⟨by show(0:Nat)<=sizeLine;decide,fun l2 hl2=>?_⟩
   have n2:l2≠wk:=fun z=>by rw[z,aa]at hl2;cases hl2
   have hl2':H1 l2=none:=by rw[af n2]at hl2;exact hl2
   walk_at "W";have w2:upd (upd H1 wk (.dK (wkv W0.c s2 el0 W0.still W0.pl W0.mn))) l2 (.lst []) wk=some (.dK (wkv W0.c s2 el0 W0.still W0.pl W0.mn)):=by rw[af n2.symm];exact aa
   have ee2:upd (upd H1 wk (.dK (wkv W0.c s2 el0 W0.still W0.pl W0.mn))) l2 (.lst []) l2=some (.lst []):=aa;have K2:ak wk H1 (upd (upd H1 wk (.dK (wkv W0.c s2 el0 W0.still W0.pl W0.mn))) l2 (.lst [])):=fun b o nb e=>by rw[af (ah e hl2'),af nb];exact e
   generalize upd (upd H1 wk (.dK (wkv W0.c s2 el0 W0.still W0.pl W0.mn))) l2 (.lst [])=H2 at *;refine eV w2 cv lg ?_;walk_at "W";refine eV aa cv d8 ?_;have w3:upd (upd H2 wk (.dK (wkv W0.c s2 l2 W0.still W0.pl W0.mn))) wk (.dK (wkv W0.c s2 l2 true W0.pl W0.mn)) wk=some (.dK (wkv W0.c s2 l2 true W0.pl W0.mn)):=aa;have K3:ak wk H2 (upd (upd H2 wk (.dK (wkv W0.c s2 l2 W0.still W0.pl W0.mn))) wk (.dK (wkv W0.c s2 l2 true W0.pl W0.mn))):=fun b o nb e=>by rw[af nb,af nb];exact e
   generalize upd (upd H2 wk (.dK (wkv W0.c s2 l2 W0.still W0.pl W0.mn))) wk (.dK (wkv W0.c s2 l2 true W0.pl W0.mn))=H3 at *;have K13:=K2.trans K3;have ns2:s2≠wk:=(ah J0.hw hs2).symm;have lk':ks.length=r.length:=by rw[pm.length_eq,List.length_map]
   have J3:D46 C CT CD PS q dq tb pd wk s2 l2 f m pc n M tc F r { W0 with stay:=ks,seen:=[],still:=true } H3:=J1.walk K13 w3 (K13 _ _ ns2 e1) (K3 _ _ n2 ee2) (fun z=>J0.S.fresh hs2 z) (fun z=>J1.S.fresh hl2' z) (by
    show ks.length<=600;have:=J0.cn;have:=J0.gl.le;have:=J0.hn
    omega) (Nat.zero_le _)
   refine rest s2 l2 _ H3 J3 (P6.begin0 hc0 pm) (fun b hb=>?_) ((SW.ao.but s1).trans K13);rcases hb with h | h | h | h | h | h
   . exact .inl (.inl h)
   . exact .inl (.inr (.inl h))
   . exact .inl (.inr (.inr (.inl h)))
   . exact .inl (.inr (.inr (.inr (.inl h))))
   . exact .inr (h ▸ hs2)
   exact .inr (h ▸ s1.free hl2')
 refine aF (fun z=>hc0 (by injection z)) ?_
 walk_at "W";exact rest sl0 el0 W0 H J0 (P6.begin1 hc0) (fun b hb=>.inl hb) (ak.refl _ _)
theorem vj(a:True):True:=by
 have:=@AE;have:=@sq
 trivial
section
variable{C CT CD PS q dq tb pd wk sl el row:Addr}{f m:Int}{pc n:Nat}{M:MT}{tc:Int}{F:Addr->Prop}{r:av}{W:Wkd}{H H':Hp}
theorem D46.deed{dd:cK}{F':Addr->Prop}{H1 H2:Hp}(J:D46 C CT CD PS q dq tb pd wk sl el f m pc n M tc F r W H)(hb:DB dd)(hn:n < 600)(S1:Tb C CT H1 tb f m pc (bM f m pc M dd) (tch f m pc M (bF dd)) F')(g1:Gr H F F')(f1:SW.Fr F H H1)(hd2:H2 pd=some (.dK (kvs (ir r dd))))(k2:ak pd H1 H2) :
 D46 C CT CD PS q dq tb pd wk sl el f m pc (n+1) (bM f m pc M dd) (tch f m pc M (bF dd)) F' (ir r dd) W H2:=by
 have out:∀ b,bG q pd wk sl el F b -> ¬ F b -> ¬ F' b:=fun b ho nb z=>(g1 b z).elim nb (J.live ho);have kp:∀ b o,¬ F b->b≠pd->H b=some o->H2 b=some o:=fun b o nb np e=>k2 _ _ np (f1 _ _ nb e);have npd:=out pd (.inr (.inr (.inl rfl))) J.np;have hd1:=f1 _ _ J.np J.hd;obtain⟨T',al⟩:=qq (pc:=pc) J.gl.T dd;obtain⟨a1,a2,a3⟩:=al r J.ok J.lk J.cn;exact⟨kp _ _ J.nq (aR J.hq J.hd (by intro z;cases z)) J.hq,S1.keep k2.fr' (fun b hb z=>npd (z ▸ hb)) (fun b xs e z=>by rw[z,hd1]at e;cases e),J.gl.deed hb,J.X.deed J.gl (by omega),hd2,a1,a2,a3,
  kp _ _ J.nk J.e1 J.hw,kp _ _ J.ns (aR J.hs J.hd (by intro z;cases z)) J.hs,kp _ _ J.ne (aR J.he J.hd (by intro z;cases z)) J.he,(J.L.fr f1 fun b hb _=>J.S.own3 hb).fr k2.fr' (fun b hb _=>.inr (.inr ⟨_,hb ▸ hd1⟩)),
  out q (.inr (.inl rfl)) J.nq,npd,out wk (.inr (.inr (.inr (.inl rfl)))) J.nk,out sl (.inr (.inr (.inr (.inr (.inl rfl))))) J.ns,out el (.inr (.inr (.inr (.inr (.inr rfl))))) J.ne,J.e1,J.ls,Nat.le_trans J.le (by omega),hn⟩
end
def pT(C CT CD PS q dq tb pd wk row:Addr)(f m:Int)(pc n:Nat)(O0:Addr->Prop)(H0:Hp)(H:Hp):Prop:=∃(sl el:Addr) (M:MT) (tc:Int) (F:Addr->Prop) (r:av) (W:Wkd),D46 C CT CD PS q dq tb pd wk sl el f m pc n M tc F r W H/\P46 f m M r W/\R46 q pd wk sl el F row H/\(∀ b,bG q pd wk sl el F b->O0 b∨H0 b=none)/\SW.Fr (fun b=>O0 b∨b=row∨b=PS) H0 H
def jV(C CT CD PS:Addr):Sp:=fun vs H Q _=>∃(row q dq tb pd wk sl el:Addr) (f m:Int) (pc n:Nat) (M:MT) (tc:Int) (F:Addr->Prop) (r:av) (W:Wkd),vs=[.ref row,.ref q,.ref pd,.int (pc:Nat),.ref wk]/\D46 C CT CD PS q dq tb pd wk sl el f m pc n M tc F r W H/\P46 f m M r W/\R46 q pd wk sl el F row H/\n+12<=600 /\ ∀ H' n',n'<=n+12->pT C CT CD PS q dq tb pd wk row f m pc n' (bG q pd wk sl el F) H H'->Q (.bl true) H'
theorem wJ{C CT CD PS row q dq tb pd wk sl el:Addr}{f m:Int}{pc n:Nat}{M:MT}{tc:Int}{F:Addr->Prop}{r:av}{W:Wkd}{H:Hp}{Q:VK}{E:XK}(J:D46 C CT CD PS q dq tb pd wk sl el f m pc n M tc F r W H)(P6:P46 f m M r W)(R6:R46 q pd wk sl el F row H)(hn:n+12<=600)(k:∀ H' n',n'<=n+12->pT C CT CD PS q dq tb pd wk row f m pc n' (bG q pd wk sl el F) H H'->Q (.bl true) H'):jV C CT CD PS ([.ref row,.ref q,.ref pd,.int (pc:Nat),.ref wk]++[]) H Q E:=⟨row,q,dq,tb,pd,wk,sl,el,f,m,pc,n,M,tc,F,r,W,rfl,J,P6,R6,hn,k⟩
def tM(y:PySem.Str):Prop:=y=Str.ofString "put" ∨ y=Str.ofString "cut" ∨ y=Str.ofString "look" ∨ y=Str.ofString "step"
theorem P46.many{f m:Int}{M:MT}{r:av}{W:Wkd}{x:Int}(h:P46 f m M r W):P46 f m M r { W with mn:=x }:=⟨⟨h.q.c0,h.q.c1,h.q.st,h.q.tl,h.q.ai⟩,h.pl,h.el⟩
structure dA(C CT CD PS q dq tb pd wk row:Addr)(f m:Int)(pc n:Nat)(O0:Addr->Prop)(H0:Hp)(sl el:Addr)(M:MT)(tc:Int)(F:Addr->Prop)(r:av)(W:Wkd)(H:Hp):Prop where
 J:D46 C CT CD PS q dq tb pd wk sl el f m pc n M tc F r W H
 B:R46 q pd wk sl el F row H
 own:∀ b,bG q pd wk sl el F b->O0 b∨H0 b=none
 fr:SW.Fr (fun b=>O0 b∨b=row∨b=PS) H0 H
 rw0:H0 row≠none
section
variable{C CT CD PS q dq tb pd wk row sl el sl' el':Addr}{f m:Int}{pc n n':Nat}{O0:Addr->Prop}{H0 H H':Hp}{M M':MT}{tc tc':Int}{F F' G:Addr->Prop}{r r':av}{W W':Wkd}
theorem dA.draw(I:dA C CT CD PS q dq tb pd wk row f m pc n O0 H0 sl el M tc F r W H)(R':bZ H' row)(k:ak row H H'):dA C CT CD PS q dq tb pd wk row f m pc n O0 H0 sl el M tc F r W H':=
 ⟨(I.J.draw I.B R' k).1,(I.J.draw I.B R' k).2,I.own,fun b o nb e=>k _ _ (fun z=>nb (.inr (.inl z))) (I.fr b o nb e),I.rw0⟩
theorem dA.same(I:dA C CT CD PS q dq tb pd wk row f m pc n O0 H0 sl el M tc F r W H)(s:ao H H'):dA C CT CD PS q dq tb pd wk row f m pc n O0 H0 sl el M tc F r W H':=
 ⟨I.J.same s,⟨I.B.R.same s,I.B.o⟩,I.own,fun b o nb e=>s _ _ (I.fr b o nb e),I.rw0⟩
theorem dA.back(I:dA C CT CD PS q dq tb pd wk row f m pc n O0 H0 sl el M tc F r W H)(hO:∀ b,O0 b->H b≠none){b:Addr}(h:H b=none):H0 b=none:=by
 cases e:H0 b with
 | none=>rfl
 | some o=>
   by_cases z:O0 b∨b=row∨b=PS
   . rcases z with z | z | z
     . exact absurd h (hO b z)
     . obtain⟨_,_,y,_⟩:=I.B.R
       rw[z,y]at h;cases h
     exact absurd (z ▸ h) I.J.L.live
   rw[I.fr b o z e]at h;cases h
theorem dA.next(I:dA C CT CD PS q dq tb pd wk row f m pc n O0 H0 sl el M tc F r W H)(J':D46 C CT CD PS q dq tb pd wk sl' el' f m pc n' M' tc' F' r' W' H')(k:SW.Fr G H H')(hG:∀ b,G b->bG q pd wk sl el F b∨b=PS)(ow:∀ b,bG q pd wk sl' el' F' b->bG q pd wk sl el F b∨H b=none):dA C CT CD PS q dq tb pd wk row f m pc n' O0 H0 sl' el' M' tc' F' r' W' H':=by
 have nP:row≠PS:=I.B.notP I.J.L;have nG:¬ G row:=fun z=>(hG row z).elim (fun y=>I.B.o row y rfl) nP;have back:∀ b,H b=none->O0 b∨H0 b=none:=fun b h=>by
  cases e:H0 b with
  | none=>exact .inr rfl
  | some o=>
    by_cases z:O0 b∨b=row∨b=PS
    . rcases z with z | z | z
      . exact .inl z
      . obtain⟨_,_,y,_⟩:=I.B.R
        rw[z,y]at h;cases h
      exact absurd (z ▸ h) I.J.L.live
    rw[I.fr b o z e]at h;cases h
 refine⟨J',⟨I.B.R.fr k nG,fun b hb z=>?_⟩,fun b hb=>?_,fun b o nb e=>k b o (fun z=>?_) (I.fr b o nb e),I.rw0⟩
 . rcases ow b hb with y | y
   . exact I.B.o b y z
   obtain⟨_,_,e,_⟩:=I.B.R;rw[z,e]at y;cases y
 . exact(ow b hb).elim (I.own b) (back b)
 rcases hG b z with y | y
 . rcases I.own b y with x | x
   . exact nb (.inl x)
   rw[x]at e;cases e
 exact nb (.inr (.inr y))
end
theorem BN(d:Dfn K mg "_law_rows_right" zk ["row","desk","model","pace","walk"])(g:Gs K mg C CT CD cS PS)(q67_:Mt P w K mg base CD "say" 10 ["self","row"] (kn C CT CD PS eN eP))(q29_:Fn P w K mg base "_law_take" 1 ["row","many"] ia)(q24_:Fn P w K mg base "_law_key" 2 ["row","model","many"] ms)(q22_:Fn P w K mg base "_law_deed" 1 ["way","key","worth","model"] jZ)(q23_:Fn P w K mg base "_law_kept_in" 1 ["walk","model"] jP)(q28_:Fn P w K mg base "_law_step_right" 11 ["desk","model","walk"] (jb C CT CD PS))(q20_:Fn P w K mg base "_law_bounds_right" 11 ["desk","model","pace","walk"] (hU C CT CD PS)):Fn P w K mg base "_law_rows_right" 12 ["row","desk","model","pace","walk"] (jV C CT CD PS):=by
 refine d.fn iz (fun vs H Q E h=>?_) (fun f' cdv A outer st H vs Q E hr h=>?_)
 . obtain⟨row,q,dq,tb,pd,wk,sl,el,f,m,pc,n,M,tc,F,r,W,rfl,_⟩:=h
   rfl
 obtain⟨row,q,dq,tb,pd,wk,sl0,el0,f,m,pc,n,M0',tc0,F0,r0,W0,rfl,J0,P0,R0,hn,k⟩:=h;have lim:sizeLine=16777216:=sizeLine_eq;have e10:(10:Nat) ^ 10=10000000000:=by decide
 refine⟨_,(B.scons (B.set 5 iz.nd (B.fn q29_ hr.up (B.cons (B.v 0) (B.cons B.int B.nil))))
  (B.scons (B.fors (B.irange g.b_range (B.cons (B.op bX B.int (B.fn q29_ hr.up (B.cons (B.v 0) (B.cons B.int B.nil)))) B.nil)) (B.gname (i:=6) iz.nd) (B.scons (B.dput (bj hr) (B.v 4) B.str (B.op bX (SW.B.dget (bj hr) (B.v 4) B.str) B.int))
  (B.scons (B.set 7 iz.nd (B.ix aG (B.lst (B.cons B.str (B.cons B.str (B.cons B.str (B.cons B.str (B.cons B.str (B.cons B.str (B.cons B.str (B.cons B.str B.nil))))))))) (B.fn q29_ hr.up (B.cons (B.v 0) (B.cons B.int B.nil)))))
  (B.scons (B.ifs (B.tw (B.wand (B.tcmp bN (B.v 5) B.int) (B.wand1 (B.tcmp gL (B.v 7) B.str)))) (B.sone (B.set 7 iz.nd (B.ix aG (B.lst (B.cons B.str (B.cons B.str B.nil))) (B.cT kH g.b_int SW.b_int (B.cons (B.cmp bN (B.op dH (B.op eT (SW.B.dget (bj hr) (B.v 4) B.str) B.int) B.int) B.int) B.nil))))) B.snil)
  (B.scons (B.ifs (B.tcmp bN (B.v 7) B.str) (B.sone (B.ifs (B.tnot (B.tval (B.fn q28_ hr.up (B.cons (B.v 1) (B.cons (B.v 2) (B.cons (B.v 4) B.nil)))))) (B.sone (B.ret B.bl)) B.snil)) (B.scons (B.set 8 iz.nd (B.fn q24_ hr.up (B.cons (B.v 0) (B.cons (B.v 2) (B.cons (SW.B.dget (bj hr) (B.v 4) B.str) B.nil)))))
  (B.scons (B.set 9 iz.nd (B.op lZ (B.fn q29_ hr.up (B.cons (B.v 0) (B.cons (B.op bX (B.op eB B.int (B.op jC B.int B.int)) B.int) B.nil))) (B.op jC B.int B.int)))
  (B.scons (B.set 10 iz.nd (B.op bD (B.op bD (B.op bD (B.v 7) B.str) (B.cT aQ g.b_str SW.b_str (B.cons (B.v 8) B.nil))) (B.ix aG (B.lst (B.cons (B.op bD B.str (B.cT aQ g.b_str SW.b_str (B.cons (B.v 9) B.nil))) (B.cons B.str B.nil))) (B.cT kH g.b_int SW.b_int (B.cons (B.cmp gL (B.v 7) B.str) B.nil)))))
  (B.scons (B.ifs (B.tcmp gL (B.meth (B.v 1) g.cl_Desk q67_ hr.up (B.cons (B.v 10) B.nil)) (B.fn q22_ hr.up (B.cons (B.v 7) (B.cons (B.v 8) (B.cons (B.v 9) (B.cons (B.v 2) B.nil)))))) (B.sone (B.ret B.bl)) B.snil)
  (B.sone (B.expr (B.fn q23_ hr.up (B.cons (B.v 4) (B.cons (B.v 2) B.nil))))))))))
  (B.sone (B.ifs (B.tnot (B.tval (B.fn q20_ hr.up (B.cons (B.v 1) (B.cons (B.v 2) (B.cons (B.v 3) (B.cons (B.v 4) B.nil))))))) (B.sone (B.ret B.bl)) B.snil)))))))
  (B.sone (B.ret B.bl)))),?_⟩
 rw[show L2.cg _ [V.ref row,V.ref q,V.ref pd,V.int (pc:Nat),V.ref wk]=[some (.ref row),some (.ref q),some (.ref pd),some (.int (pc:Nat)),some (.ref wk),none,none,none,none,none,none]from rfl];walk_at "W";refine dz R0.R (by decide) (by decide) fun sd H1 a1 b1 R1 K1=>?_
 obtain⟨J1,B1⟩:=J0.draw R0 R1 K1;walk_at "W";refine dz R1 (by decide) (by decide) fun rn H2 a2 b2 R2 K2=>?_
 obtain⟨J2,B2⟩:=J1.draw B1 R2 K2;have I2:pT C CT CD PS q dq tb pd wk row f m pc n (bG q pd wk sl0 el0 F0) H H2:=⟨sl0,el0,M0',tc0,F0,r0,W0,J2,P0,B2,fun b hb=>.inl hb,fun b o nb e=>K2 _ _ (fun z=>nb (.inr (.inl z))) (K1 _ _ (fun z=>nb (.inr (.inl z))) e)⟩;clear J1 B1 R1 K1 R2 K2 J2 B2;walk_at "W";refine⟨_,rfl,by omega,by omega,?_⟩
 refine SW.rC (fun i U H'=>∃ v6 v7 v8 v9 v10:Option V,U=[some (.ref row),some (.ref q),some (.ref pd),some (.int (pc:Nat)),some (.ref wk),some (.int sd),v6,v7,v8,v9,v10]/\pT C CT CD PS q dq tb pd wk row f m pc (n+i) (bG q pd wk sl0 el0 F0) H H') ⟨none,none,none,none,none,rfl,I2⟩ ?_ ?_
 . clear I2
   rintro i U H3 hi ⟨v6,v7,v8,v9,v10,rfl,sl,el,M,tc,F,r,W,J3,P3,B3,own3,fr3⟩;have hi':i < 12:=by omega
   have I3:dA C CT CD PS q dq tb pd wk row f m pc (n+i) (bG q pd wk sl0 el0 F0) H sl el M tc F r W H3:=⟨J3,B3,own3,fr3,by
    obtain⟨_,_,e,_⟩:=R0.R;rw[e];exact fun z=>nomatch z⟩
   clear J3 B3 own3 fr3;intro N hN;walk_at "W";refine gh I3.J.hw j5 ?_;walk_at "W";refine eV I3.J.hw cv rf ?_;have K4:ak wk H3 (upd H3 wk (.dK (wkv W.c sl el W.still W.pl (W.mn+1)))):=ak.at;have w4:upd H3 wk (.dK (wkv W.c sl el W.still W.pl (W.mn+1))) wk=some (.dK (wkv W.c sl el W.still W.pl (W.mn+1))):=aa;generalize upd H3 wk (.dK (wkv W.c sl el W.still W.pl (W.mn+1)))=H4 at *;have J4:D46 C CT CD PS q dq tb pd wk sl el f m pc (n+i) M tc F r { W with mn:=W.mn+1 } H4:=I3.J.walk K4 w4 (K4 _ _ (aR I3.J.hs I3.J.hw (by intro z;cases z)) I3.J.hs) (K4 _ _ (aR I3.J.he I3.J.hw (by intro z;cases z)) I3.J.he) I3.J.ns I3.J.ne I3.J.ls I3.J.le
   have I4:=I3.next J4 K4.fr' (fun b hb=>.inl (.inr (.inr (.inr (.inl hb))))) fun b hb=>.inl hb;have P4:P46 f m M r { W with mn:=W.mn+1 }:=P46.many P3;generalize ({ W with mn:=W.mn+1 }:Wkd)=W4 at *;clear J4 K4 w4 I3 P3;walk_at "W";refine⟨by show(8:Nat)<=sizeLine;decide,fun wl hwl=>?_⟩
   have s5:=ao.new (o:=.lst [.str "put",.str "put",.str "put",.str "cut",.str "look",.str "step",.str "cut",.str "put"]) hwl;have e5:upd H4 wl (.lst [.str "put",.str "put",.str "put",.str "cut",.str "look",.str "step",.str "cut",.str "put"]) wl=some (.lst [.str "put",.str "put",.str "put",.str "cut",.str "look",.str "step",.str "cut",.str "put"]):=aa;have I5:=I4.same s5;have n5:=(I4.B.R.ne0 hwl).symm;generalize upd H4 wl (.lst [.str "put",.str "put",.str "put",.str "cut",.str "look",.str "step",.str "cut",.str "put"])=H5 at *;clear I4 s5;walk_at "W";refine dz I5.B.R (by decide) (by decide) fun r6 H6 a6 b6 R6 K6=>?_
   have I6:=I5.draw R6 K6;obtain⟨v,hv,hm⟩:=il (xs:=[V.str "put",V.str "put",V.str "put",V.str "cut",V.str "look",V.str "step",V.str "cut",V.str "put"]) a6 b6;refine fK (K6 _ _ n5 e5) hv ?_;obtain⟨y6,rfl,hy6⟩:∃ y,v=V.str y/\tM y:=by
    simp only[List.mem_cons,List.not_mem_nil,or_false]at hm;unfold tM;rcases hm with rfl | rfl | rfl | rfl | rfl | rfl | rfl | rfl
    . exact⟨_,rfl,.inl rfl⟩
    . exact⟨_,rfl,.inl rfl⟩
    . exact⟨_,rfl,.inl rfl⟩
    . exact⟨_,rfl,.inr (.inl rfl)⟩
    . exact⟨_,rfl,.inr (.inr (.inl rfl))⟩
    . exact⟨_,rfl,.inr (.inr (.inr rfl))⟩
    . exact⟨_,rfl,.inr (.inl rfl)⟩
    exact⟨_,rfl,.inl rfl⟩
   clear hv hm I5 K6 e5;walk_at "W";rename_i N5 hN5;have mid:∀(y:PySem.Str) (H7:Hp),tM y->dA C CT CD PS q dq tb pd wk row f m pc (n+i) (bG q pd wk sl0 el0 F0) H sl el M tc F r W4 H7->N5 [some (.ref row),some (.ref q),some (.ref pd),some (.int (pc:Nat)),some (.ref wk),some (.int sd),some (.int (0+(i:Nat))),some (.str y),v8,v9,v10] H7:=by
    intro y H7 hy I7;refine SW.wGo hN5 ?_;clear hN5;walk_at "W";rename_i N8 hN8;have fin:∀(sl' el':Addr) (M':MT) (tc':Int) (F':Addr->Prop) (r':av) (W':Wkd) (H8:Hp) (v8 v9 v10:Option V),dA C CT CD PS q dq tb pd wk row f m pc (n+i+1) (bG q pd wk sl0 el0 F0) H sl' el' M' tc' F' r' W' H8->Q46 f m M' r' W'->N8 [some (.ref row),some (.ref q),some (.ref pd),some (.int (pc:Nat)),some (.ref wk),some (.int sd),some (.int (0+(i:Nat))),some (.str y),v8,v9,v10] H8:=by
     intro sl' el' M' tc' F' r' W' H8 v8 v9 v10 I8 Q8;refine SW.wGo hN8 ?_;walk_at "W";refine sW I8.J Q8 fun s H9 J9 P9 K9=>?_;have I9:=I8.next J9 K9.fr' (fun b hb=>.inl (.inr (.inr (.inr (.inl hb))))) fun b hb=>.inl hb;walk_at "W";refine bB ?_;walk_at "W";subst hN;exact⟨_,_,_,_,_,rfl,sl',el',M',tc',F',r',_,I9.J,P9,I9.B,I9.own,I9.fr⟩
    clear hN8;refine⟨rfl,?_⟩;refine⟨_,rfl,?_⟩;by_cases hstep:y=Str.ofString "step"
    . refine ce (by rw[hstep]) ?_
      walk_at "W";refine wZ I7.J P4 (by omega) fun sl' el' W' H8 J8 Q8 own8 fr8=>?_
      have I8:=I7.next J8 fr8 (fun b hb=>hb.imp (fun z=>.inr (.inr (.inr (.inl z)))) id) own8;walk_at "W";refine bB ?_;walk_at "W";exact fin sl' el' M tc F r W' H8 _ _ _ I8 Q8
    refine aF (fun z=>hstep (by injection z)) ?_
    walk_at "W";refine gh I7.J.hw j5 ?_;walk_at "W";have bds:∀ k∈r.map (·.1),0<=k/\k<=1000000000:=fun k hk=>by
     obtain⟨v,hv⟩:=xG hk;rw[I7.J.lk]at hv;exact(I7.J.gl.bd k v hv).1
    have hrl:r.length<=4000:=by
     have:=I7.J.cn;have:=I7.J.gl.le;have:=I7.J.hn;omega
    refine yG I7.B.R I7.J.hd bds hrl fun key H8 k0 k1 R8 K8=>?_;have I8:=I7.draw R8 K8;walk_at "W";have z3:(10:Int) ^ (Int.toNat 9)=1000000000:=by decide
    rw[z3];refine dz R8 (by decide) (by decide) fun r9 H9 a9 b9 R9 K9=>?_
    have I9:=I8.draw R9 K9;walk_at "W";rw[z3];obtain⟨y9,hy9⟩:∃ y9,y9=r9 - 1000000000:=⟨_,rfl⟩;rw[← hy9];have sk:key.natAbs < 10 ^ 10:=by rw[e10];omega
    have sy:y9.natAbs < 10 ^ 10:=by rw[e10];omega
    have lk:=aZ sk;have ly:=aZ sy;have lb:(Str.ofString " ").length=1:=rfl;have l4:y.length<=4:=by rcases hy with h | h | h | h <;> rw[h] <;> decide
    clear I7 I8 K8 K9 R8;refine⟨_,_,rfl,rfl,by omega,?_⟩
    walk_at "W";refine⟨_,rfl,aY sk,?_⟩;rw[show Str.ofString (toString key)=tx key from rfl];walk_at "W";refine⟨_,_,rfl,rfl,by rw[aV];omega,?_⟩
    walk_at "W";refine⟨_,rfl,aY sy,?_⟩;rw[show Str.ofString (toString y9)=tx y9 from rfl];walk_at "W";refine⟨_,_,rfl,rfl,by omega,?_⟩
    walk_at "W";refine⟨by show(2:Nat)<=sizeLine;decide,fun l10 hl10=>?_⟩
    have s10:=ao.new (o:=.lst [.str (Str.ofString " " ++ tx y9),.str (Str.ofString "")]) hl10;have e10':upd H9 l10 (.lst [.str (Str.ofString " " ++ tx y9),.str (Str.ofString "")]) l10=some (.lst [.str (Str.ofString " " ++ tx y9),.str (Str.ofString "")]):=aa;have I10:=I9.same s10;generalize upd H9 l10 (.lst [.str (Str.ofString " " ++ tx y9),.str (Str.ofString "")])=H10 at *;walk_at "W";refine⟨rfl,?_⟩;walk_at "W";obtain⟨dd,tl,d1,d2,d3,d4,d5,d6,d7⟩:∃(dd:cK) (tl:PySem.Str),y=dW dd/\key=bF dd/\dWv dd y9/\DB dd/\atI [V.str (Str.ofString " " ++ tx y9),V.str (Str.ofString "")] (if(!decide (V.str y=V.str (Str.ofString "put")))=true then 1 else 0)=some (.str tl)/\tl.length<=12/\y++Str.ofString " " ++ tx key++tl=rO (dW dd) (dN dd):=by
     rcases hy with h | h | h | h
     . refine⟨.put key y9,Str.ofString " " ++ tx y9,h,rfl,rfl,⟨⟨k0,k1⟩,by omega,by omega⟩,?_,by rw[aV];omega,?_⟩
       . rw[h];rfl
       rw[h,← oA];exact C5 (w:=Str.ofString "put") rfl
     . refine⟨.cut key,Str.ofString "",h,rfl,trivial,⟨k0,k1⟩,?_,by decide,?_⟩
       . rw[h,decide_eq_false (sne (by decide))];rfl
       rw[h,show Str.ofString "cut" ++ Str.ofString " " ++ tx key++Str.ofString ""=Str.ofString "cut" ++ Str.ofString " " ++ tx key from eC (by rw[bT _ (Str.ofString "")];exact List.append_nil _)]
       exact yR (w:=Str.ofString "cut") rfl
     . refine⟨.look key,Str.ofString "",h,rfl,trivial,⟨k0,k1⟩,?_,by decide,?_⟩
       . rw[h,decide_eq_false (sne (by decide))];rfl
       rw[h,show Str.ofString "look" ++ Str.ofString " " ++ tx key++Str.ofString ""=Str.ofString "look" ++ Str.ofString " " ++ tx key from eC (by rw[bT _ (Str.ofString "")];exact List.append_nil _)]
       exact yR (w:=Str.ofString "look") rfl
     exact absurd h hstep
    refine fK e10' d5 ?_;refine⟨_,_,rfl,rfl,by rw[aV,aV];omega,?_⟩
    have J10:=I10.J;have g4:Lg 4000 f m pc M tc:=J10.gl.mono (by have:=J10.hn;omega)
    show iB 10 _ _ _ _;walk_at "W";refine⟨q,dq,_,rfl,J10.hq,rfl,?_⟩;walk_at "W";refine rZ (wd:=dW dd) (ns:=dN dd) d7 J10.hq (.ans rfl J10.S g4 J10.L (.deed dd d4 fun H11 F' S11 g11 f11=>?_));walk_at "W";have hd11:=f11 _ _ J10.np J10.hd;refine xg d1 d2 d3 hd11 J10.ok hrl (fun v e=>by rw[J10.lk]at e;exact g4.look _ v e) fun H12 hd12 K12=>?_
    have J12:=J10.deed d4 (by omega) S11 g11 f11 hd12 K12
    have I12:=I10.next (G:=fun b=>F b∨b=pd) J12 (fun b o nb e=>K12 _ _ (fun z=>nb (.inr z)) (f11 _ _ (fun z=>nb (.inl z)) e)) (fun b hb=>.inl (hb.elim .inl fun z=>.inr (.inr (.inl z)))) fun b hb=>by
     rcases hb with h | h
     . exact(g11 b h).imp .inl id
     exact .inl (.inr h)
    rw[J10.lk];refine⟨rfl,?_⟩;walk_at "W";refine eR rfl ?_;walk_at "W";refine xy J12.hw J12.hs J12.hd (by have:=J12.ls;omega) J12.e1 fun l st H13 hl13 e13 w13 K13 p1 p2 p3=>?_
    have J13:D46 C CT CD PS q dq tb pd wk l el f m pc (n+i+1) (bM f m pc M dd) (tch f m pc M (bF dd)) F' (ir r dd) { W4 with stay:=st } H13:=J12.walk K13 w13 e13 (K13 _ _ (aR J12.he J12.hw (by intro z;cases z)) J12.he) (fun z=>J12.S.fresh hl13 z) J12.ne (by have:=J12.ls;show st.length<=600;omega) J12.le
    have I13:=I12.next J13 K13.fr' (fun b hb=>.inl (.inr (.inr (.inr (.inl hb))))) fun b hb=>by
     rcases hb with h | h | h | h | h | h
     . exact .inl (.inl h)
     . exact .inl (.inr (.inl h))
     . exact .inl (.inr (.inr (.inl h)))
     . exact .inl (.inr (.inr (.inr (.inl h))))
     . exact .inr (h ▸ hl13)
     exact .inl (.inr (.inr (.inr (.inr (.inr h)))))
    walk_at "W";exact fin l el _ _ F' _ _ H13 _ _ _ I13 (P4.deed g4.sizes.2 J12.gl.sizes.2 p1 p2)
   clear hN5;by_cases hsd:sd=0
   . refine ce (by rw[hsd]) ?_
     walk_at "W";refine⟨rfl,?_⟩;walk_at "W";by_cases hst:y6=Str.ofString "step"
     . refine eR (by rw[hst]) ?_
       walk_at "W";exact mid y6 H6 hy6 I6
     refine mW (fun z=>hst (by injection z)) ?_
     walk_at "W";refine⟨by show(2:Nat)<=sizeLine;decide,fun l7 hl7=>?_⟩
     have s7:=ao.new (o:=.lst [.str "put",.str "cut"]) hl7;have e7:upd H6 l7 (.lst [.str "put",.str "cut"]) l7=some (.lst [.str "put",.str "cut"]):=aa;have I7:=I6.same s7;generalize upd H6 l7 (.lst [.str "put",.str "cut"])=H7 at *;walk_at "W";refine gh I7.J.hw j5 ?_;walk_at "W";obtain⟨v,hv,hm⟩:=il (xs:=[V.str "put",V.str "cut"]) (i:=if decide (V.int (W4.mn / 120 % 2)=V.int 1)=true then 1 else 0) (by split <;> decide) (by split <;> decide)
     refine fK e7 hv ?_;walk_at "W";simp only[List.mem_cons,List.not_mem_nil,or_false]at hm;rcases hm with rfl | rfl
     . exact mid _ H7 (.inl rfl) I7
     exact mid _ H7 (.inr (.inl rfl)) I7
   refine aF (fun z=>hsd (by injection z)) ?_
   refine bB ?_;walk_at "W";exact mid y6 H6 hy6 I6
 rintro U H3 ⟨v6,v7,v8,v9,v10,rfl,I3⟩;walk_at "W";exact k H3 _ (by omega) I3
theorem Bn(a:True):True:=by
 have:=@BN;have:=@vj
 trivial
theorem qO{xs:List V}{a b:Int}{c:Nat}(ha:0<=a)(hb:0<=b)(h:b - a<=c):(iD xs (some a) (some b)).length<=c:=by
 obtain⟨n,rfl⟩:=Int.eq_ofNat_of_zero_le ha;obtain⟨k,rfl⟩:=Int.eq_ofNat_of_zero_le hb;unfold iD;rw[HT.mI,HT.mI,List.length_take];omega
theorem BE{Qf:List (Key×V)->Prop}{H:Hp}{p:Addr}{c:Int}{sl el:Addr}{st:Bool}{pl:PySem.Str}{mn:Int}(hp:H p=some (.dK []))(q:Qf (wkv c sl el st pl mn)) :
 H p=some (.dK []) /\ ∃ kvs:List (Key×V),[(V.str "cursor",V.int c),(V.str "stay",V.ref sl),(V.str "seen",V.ref el),(V.str "still",V.bl st),(V.str "places",V.str pl),(V.str "many",V.int mn)]=kvs.map (fun kv=>(kV kv.1,kv.2))/\kvs.length<=15/\Qf kvs:=
 ⟨hp,wkv c sl el st pl mn,rfl,by show(6:Nat)<=15;decide,q⟩
def mj(K:W.Frag)(PS:Addr):Sp:=fun vs H Q _=>∃(a:Addr) (ns:List Int),vs=[.ref a]/\SqL K H a (ns.map V.int)/\ns.length<=63/\H PS=some (.tbl #[]) /\ ∀ H',Q (.bl true) H'
theorem AA{f:Addr}{fd:FuncData}(F:Fun K "law" "law" qR f fd)(g:Gs K mg C CT CD cS PS)(q64_:Mkr P w K mg base CD "Desk" 1 ["self"] (mE CD))(q67_:Mt P w K mg base CD "say" 10 ["self","row"] (kn C CT CD PS eN eP))(q21_:Fn P w K mg base "_law_cell_at" 1 ["script","k"] (oq K))(q26_:Fn P w K mg base "_law_row" 1 ["cell"] pA)(q29_:Fn P w K mg base "_law_take" 1 ["row","many"] ia)(q25_:Fn P w K mg base "_law_mixer" 2 ["row"] jN)(q27_:Fn P w K mg base "_law_rows_right" 12 ["row","desk","model","pace","walk"] (jV C CT CD PS)) :
 eO P w K mg base CX0 13 f fd ["script"] (mj K PS):=by
 refine Aa F iA (fun vs H Q E h=>?_) (fun cdv A outer s H vs Q E hr h=>?_)
 . obtain⟨a,ns,rfl,_⟩:=h
   rfl
 obtain⟨a,ns,rfl,hS,hlen,hPS,k⟩:=h;have lim:sizeLine=16777216:=sizeLine_eq;have e10:(10:Nat) ^ 10=10000000000:=by decide
 refine⟨_,(B.scons (B.set 1 iA.nd (B.fn q26_ hr.up (B.cons (B.fn q21_ hr.up (B.cons (B.v 0) (B.cons B.int B.nil))) B.nil)))
  (B.scons (B.set 2 iA.nd (B.fn q25_ hr.up (B.cons (B.v 1) B.nil)))
  (B.scons (B.set 3 iA.nd (B.op bX B.int (B.fn q29_ hr.up (B.cons (B.v 1) (B.cons B.int B.nil)))))
  (B.scons (B.set 4 iA.nd (SW.B.make0 q64_ hr.up))
  (B.scons (B.ifs (B.tcmp gL (B.meth (B.v 4) g.cl_Desk q67_ hr.up (B.cons (B.op bD (B.op bD (B.op bD (B.op bD (B.op bD B.str (B.cT aQ g.b_str SW.b_str (B.cons (B.ix bJ (B.v 2) B.int) B.nil))) B.str) (B.cT aQ g.b_str SW.b_str (B.cons (B.ix bJ (B.v 2) B.int) B.nil))) B.str) (B.cT aQ g.b_str SW.b_str (B.cons (B.v 3) B.nil))) B.nil)) B.str) (B.sone (B.ret B.bl)) B.snil)
  (B.scons (B.set 5 iA.nd B.dnew)
  (B.scons (B.set 6 iA.nd (SW.B.disp (SW.B.ppcons B.str B.int (SW.B.ppcons B.str (B.lst B.nil) (SW.B.ppcons B.str (B.lst B.nil) (SW.B.ppcons B.str B.bl (SW.B.ppcons B.str B.str (SW.B.ppcons B.str B.int SW.B.ppnil))))))))
  (B.scons (B.fors (B.ilist (B.op mG (B.slice gM (B.v 0) (B.part B.int) (B.part B.int)) (B.lst (B.cons B.int B.nil)))) (B.gname (i:=7) iA.nd) (B.sone (B.ifs (B.tnot (B.tval (B.fn q27_ hr.up (B.cons (B.fn q26_ hr.up (B.cons (B.v 7) B.nil)) (B.cons (B.v 4) (B.cons (B.v 5) (B.cons (B.v 3) (B.cons (B.v 6) B.nil)))))))) (B.sone (B.ret B.bl)) B.snil)))
  (B.sone (B.ret B.bl)))))))))),?_⟩
 walk_at "W";refine Bf hS (by decide) hlen fun c0=>?_
 walk_at "W";refine xW fun row o hro R1=>?_;have s1:=ao.new (o:=o) hro;have hP1:=s1 _ _ hPS;have hS1:=s1.seq hS;generalize upd H row o=H1 at *;walk_at "W";refine vY R1 fun t H2 ⟨f,m,ht,f0,f1,m0,m1⟩ R2 K2=>?_;walk_at "W";refine dz R2 (by decide) (by decide) fun rp H3 a3 b3 R3 K3=>?_
 have ht3:=K3 _ _ (R2.notup ht) ht;have K13:=K2.trans K3;have nPr:PS≠row:=by
  obtain⟨_,_,e,_⟩:=R1;exact aR hP1 e (by intro z;cases z)
 have L3:bI eN eP H3 PS:=.inl (K13 _ _ nPr hP1);have nar:a≠row ∨ ∃ o its n,K.lookup a=some o/\o.cls=.type "list" /\ o.dict=none/\o.data=.seq its n/\its.size<=sizeLine/\aH (ns.map V.int) its.toList:=by
  rcases hS with (h | ⟨o',h⟩) | ⟨o,its,n,h⟩
  . exact .inl (ah h hro)
  . exact .inl (ah h hro)
  exact .inr ⟨o,its,n,h⟩
 have hS3:SqL K H3 a (ns.map V.int):=by
  rcases nar with na | ⟨o,its,n,h⟩
  . rcases hS1 with (h | ⟨o',h⟩) | h
    . exact .inl (.inl (K13 _ _ na h))
    . exact .inl (.inr ⟨o',K13 _ _ na h⟩)
    exact .inr h
  exact .inr ⟨o,its,n,h⟩
 clear K2 K3 R2 ht hS hS1 nar K13 R1 s1;walk_at "W";refine AT fun q dq H4 hq0 hq4 s4=>?_;have ht4:=s4 _ _ ht3;have L4:=L3.same s4;have hS4:=s4.seq hS3;walk_at "W";refine⟨q,dq,_,rfl,hq4,rfl,?_⟩;walk_at "W";have sf:f.natAbs < 10 ^ 10:=by rw[e10];omega
 have sm:m.natAbs < 10 ^ 10:=by rw[e10];omega
 have sr:(1+rp).natAbs < 10 ^ 10:=by rw[e10];omega
 have lf:=aZ sf;have lm:=aZ sm;have lr:=aZ sr;have l0:(Str.ofString "table ").length=6:=rfl;have l1:(Str.ofString " ").length=1:=rfl;refine⟨_,rfl,aY sf,?_⟩;rw[show Str.ofString (toString f)=tx f from rfl];walk_at "W";refine⟨_,_,rfl,rfl,by omega,?_⟩
 walk_at "W";refine⟨_,_,rfl,rfl,by rw[aV];omega,?_⟩
 walk_at "W";refine⟨_,rfl,aY sm,?_⟩;rw[show Str.ofString (toString m)=tx m from rfl];walk_at "W";refine⟨_,_,rfl,rfl,by rw[aV,aV];omega,?_⟩
 walk_at "W";refine⟨_,_,rfl,rfl,by rw[aV,aV,aV];omega,?_⟩
 walk_at "W";refine⟨_,rfl,aY sr,?_⟩;rw[show Str.ofString (toString (1+rp))=tx (1+rp)from rfl];walk_at "W";refine⟨_,_,rfl,rfl,by rw[aV,aV,aV,aV];omega,?_⟩
 walk_at "W";refine rZ (wd:="table") (ns:=[f,m,1+rp]) (Df (w:=Str.ofString "table") (by decide)) hq4 (.table f0 f1 m0 m1 (by omega) (by omega) fun tb H5 F S5 fF hq5 K5=>?_)
 have L5:bI eN eP H5 PS:=L4.fr K5.fr' fun b hb _=>.inl ⟨_,_,_,hb ▸ hq4⟩;have hS5:SqL K H5 a (ns.map V.int):=by
  rcases hS4 with (h | ⟨o',h⟩) | h
  . exact .inl (.inl (K5 _ _ (fun z=>by rw[z,hq4]at h;cases h) h))
  . exact .inl (.inr ⟨o',K5 _ _ (fun z=>by rw[z,hq4]at h;cases h) h⟩)
  exact .inr h
 have nFq:¬ F q:=fun z=>by rw[fF q z]at hq4;cases hq4
 clear hS4 L4 L3 hS3 K5;walk_at "W";refine⟨rfl,?_⟩;walk_at "W";refine eR rfl ?_;walk_at "W";intro pd hpd;have s6:=ao.new (o:=.dK []) hpd;have e6:upd H5 pd (.dK []) pd=some (.dK []):=aa;generalize upd H5 pd (.dK [])=H6 at *;walk_at "W";refine SW.AC fun wk hwk=>?_;have s7:=ao.new (o:=.dK []) hwk;have e7:upd H6 wk (.dK []) wk=some (.dK []):=aa;generalize upd H6 wk (.dK [])=H7 at *;walk_at "W";refine⟨by show(0:Nat)<=sizeLine;decide,fun sl hsl=>?_⟩
 have s8:=ao.new (o:=.lst []) hsl;have e8:upd H7 sl (.lst []) sl=some (.lst []):=aa;generalize upd H7 sl (.lst [])=H8 at *;walk_at "W";refine⟨by show(0:Nat)<=sizeLine;decide,fun el hel=>?_⟩
 have s9:=ao.new (o:=.lst []) hel;have e9:upd H8 el (.lst []) el=some (.lst []):=aa;generalize upd H8 el (.lst [])=H9 at *;walk_at "W";have s59:=((s6.trans s7).trans s8).trans s9;have w9:=s9 _ _ (s8 _ _ e7);refine BE w9 ?_;rw[rc];have K10:ak wk H9 (upd H9 wk (.dK (wkv 0 sl el true "4" 0))):=ak.at;have w10:upd H9 wk (.dK (wkv 0 sl el true "4" 0)) wk=some (.dK (wkv 0 sl el true "4" 0)):=aa;generalize upd H9 wk (.dK (wkv 0 sl el true "4" 0))=H10 at *;have nwl:∀{b:Addr}{xs:List V},H9 b=some (.lst xs)->b≠wk:=fun e=>aR e w9 (by intro z;cases z)
 have npw:pd≠wk:=ah e6 hwk;have pd9:=s9 _ _ (s8 _ _ (s7 _ _ e6));have nF:∀ b,(∃ o,H9 b=some o)->H5 b=none -> ¬ F b:=fun b _ h z=>S5.fresh h z;have er:(((1+rp).toNat:Nat):Int)=1+rp:=by omega
 have q9:=s59 _ _ hq5;have nqw:q≠wk:=aR q9 w9 (by intro z;cases z)
 have S10:Tb C CT H10 tb f m (1+rp).toNat M0 0 F:=(S5.same s59).keep K10.fr' (fun b hb z=>(S5.same s6).fresh hwk (z ▸ hb)) fun b xs e z=>by rw[z,w9]at e;cases e
 have L10:bI eN eP H10 PS:=(L5.same s59).fr K10.fr' fun b hb _=>.inr (.inr ⟨_,hb ▸ w9⟩);have J10:D46 C CT CD PS q dq tb pd wk sl el f m (1+rp).toNat 0 M0 0 F [] ⟨0,[],[],true,tx 4,0⟩ H10:=
  ⟨K10 _ _ nqw q9,S10,Lg.zero xU (by omega),X46.zero (by omega),K10 _ _ npw pd9,List.nodup_nil,fun k=>(pJ (f:=f) (m:=m) (k:=k)).symm,rfl,w10,K10 _ _ (nwl (s9 _ _ e8)) (s9 _ _ e8),K10 _ _ (nwl e9) e9,L10,nFq,fun z=>S5.fresh hpd z,fun z=>(S5.same s6).fresh hwk z,fun z=>((S5.same s6).same s7).fresh hsl z,fun z=>(((S5.same s6).same s7).same s8).fresh hel z,npw.symm,Nat.zero_le _,Nat.zero_le _,by decide⟩
 have hS10:SqL K H10 a (ns.map V.int):=by
  have hS9:=s59.seq hS5;rcases hS9 with (h | ⟨o',h⟩) | h
  . exact .inl (.inl (K10 _ _ (fun z=>by rw[z,w9]at h;cases h) h))
  . exact .inl (.inr ⟨o',K10 _ _ (fun z=>by rw[z,w9]at h;cases h) h⟩)
  exact .inr h
 clear K10 w10 S10 L10 s59 s6 s7 s8 s9 e6 e7 e8 e9 w9 pd9 q9 nF hS5 L5 S5 nwl;walk_at "W";refine⟨1,rfl,?_⟩;walk_at "W";refine⟨41,rfl,a,_,rfl,hS10,fun l1 h1=>?_⟩;obtain⟨cs,ecs,hcs'⟩:=sK ns (some 1) (some 41);have hcs:cs.length<=40:=by
  have:=qO (xs:=ns.map V.int) (a:=1) (b:=41) (c:=40) (by decide) (by decide) (by decide)
  rw[ecs,List.length_map]at this;exact this
 rw[ecs];have s11:=ao.new (o:=.lst (cs.map V.int)) h1;have g11:upd H10 l1 (.lst (cs.map V.int)) l1=some (.lst (cs.map V.int)):=aa;generalize upd H10 l1 (.lst (cs.map V.int))=H11 at *;walk_at "W";refine⟨by show(1:Nat)<=sizeLine;decide,fun l2 h2=>?_⟩
 have s12:=ao.new (o:=.lst [.int 0]) h2;have g12:=s12 _ _ g11;have f12:upd H11 l2 (.lst [.int 0]) l2=some (.lst [.int 0]):=aa;generalize upd H11 l2 (.lst [.int 0])=H12 at *;walk_at "W";refine⟨l1,l2,_,_,rfl,rfl,g12,f12,by rw[List.length_map];show _+1<=sizeLine;omega,fun ql hql=>?_⟩
 obtain⟨ds,hds⟩:∃ ds:List Int,ds=cs++[0]:=⟨_,rfl⟩;have hdl2:ds.length<=41:=by rw[hds,List.length_append,List.length_singleton];omega
 rw[show cs.map V.int++[V.int 0]=ds.map V.int by rw[hds,List.map_append];rfl]at *
 have J12:=(J10.same s11).same s12;have nO:¬ bG q pd wk sl el F ql:=fun z=>J12.live z hql;have s13:=ao.new (o:=.lst (ds.map V.int)) hql;have J13:=J12.same s13;have g13:upd H12 ql (.lst (ds.map V.int)) ql=some (.lst (ds.map V.int)):=aa;generalize upd H12 ql (.lst (ds.map V.int))=H13 at *;clear J12 J10 s11 s12 s13 g11 g12 f12 hql h1 h2;refine⟨ql,rfl,⟨_,SqL.of g13⟩,?_⟩;refine SW.fj (xs:=ds.map V.int) (fun i U H'=>∃(v7:Option V) (sl el:Addr) (n:Nat) (M:MT) (tc:Int) (F:Addr->Prop) (r:av) (W:Wkd),U=[some (.ref a),some (.ref row),some (.ref t),some (.int (1+rp)),some (.ref q),some (.ref pd),some (.ref wk),v7]/\D46 C CT CD PS q dq tb pd wk sl el f m (1+rp).toNat n M tc F r W H'/\P46 f m M r W/\n<=12*i /\ ¬ bG q pd wk sl el F ql/\H' ql=some (.lst (ds.map V.int))) ⟨none,sl,el,0,M0,0,F,[],_,rfl,J13,P46.zero,Nat.zero_le _,nO,g13⟩ ?_ ?_ ?_
 . rintro i U H' _ ⟨v7,sl,el,n,M,tc,F,r,W,rfl,_,_,_,_,h⟩
   exact SqL.of h
 . clear J13 nO g13
   rintro i y U H14 hi ⟨v7,sl,el,n,M,tc,F,r,W,rfl,J14,P14,hn,nO,g14⟩;have hi':i < 41:=by
    have:=(List.getElem?_eq_some_iff.mp hi).1;rw[List.length_map]at this;omega
   obtain⟨c,rfl⟩:=gU hi;intro N hN;walk_at "W";refine xW fun rw' o hro' R15=>?_;have s15:=ao.new (o:=o) hro';have B15:R46 q pd wk sl el F rw' (upd H14 rw' o):=⟨R15,fun b hb z=>J14.live hb (z ▸ hro')⟩;have J15:=J14.same s15;have g15:=s15 _ _ g14;have nqr:ql≠rw':=ah g14 hro';generalize upd H14 rw' o=H15 at *;walk_at "W";rw[show V.int (1+rp)=V.int (((1+rp).toNat:Nat):Int) by rw[er]]
   refine wJ J15 P14 B15 (by omega) fun H16 n' hn' zz=>?_
   obtain⟨sl',el',M',tc',F',r',W',J16,P16,B16,own16,fr16⟩:=zz;have g16:=fr16 _ _ (fun z=>by
    rcases z with z | z | z
    . exact nO z
    . exact nqr z
    obtain⟨ps,y⟩:=J15.L.tbl;rw[z,y]at g15;cases g15) g15
   walk_at "W";refine bB ?_;walk_at "W";subst hN;refine⟨some (V.int c),sl',el',n',M',tc',F',r',W',?_,J16,P16,by omega,fun z=>?_,g16⟩
   . rw[er];rfl
   rcases own16 ql z with y | y
   . exact nO y
   rw[y]at g15;cases g15
 rintro U H14 ⟨v7,sl,el,n,M,tc,F,r,W,rfl,_⟩;walk_at "W";exact k H14
theorem zZ{l:W.OpenLaw}{w:World}{K:W.Frag}{h:Heap}{mg:Str->Option Value}{fa:Addr}(X:K.In h)(G:h.Ns mainGlobals mg)(hfa:mg "law"=some (.ref fa))
 {C_Shelf:Addr}
 {C_Table:Addr}
 {C_Desk:Addr}
 {f0:Addr}{g0:FuncData}
 {f1:Addr}{g1:FuncData}
 {f2:Addr}{g2:FuncData}
 {f3:Addr}{g3:FuncData}
 {f4:Addr}{g4:FuncData}
 {f5:Addr}{g5:FuncData}
 {f6:Addr}{g6:FuncData}
 {f7:Addr}{g7:FuncData}
 {f8:Addr}{g8:FuncData}
 {f9:Addr}{g9:FuncData}
 {f10:Addr}{g10:FuncData}
 {f11:Addr}{g11:FuncData}
 {f12:Addr}{g12:FuncData}
 {f13:Addr}{g13:FuncData}
 {f14:Addr}{g14:FuncData}
 {f15:Addr}{g15:FuncData}
 {f16:Addr}{g16:FuncData}
 {f17:Addr}{g17:FuncData}
 {f18:Addr}{g18:FuncData}
 {f19:Addr}{g19:FuncData}
 {f20:Addr}{g20:FuncData}
 {f21:Addr}{g21:FuncData}
 {f22:Addr}{g22:FuncData}
 {f23:Addr}{g23:FuncData}
 {f24:Addr}{g24:FuncData}
 {f25:Addr}{g25:FuncData}
 {f26:Addr}{g26:FuncData}
 {f27:Addr}{g27:FuncData}
 {f28:Addr}{g28:FuncData}
 {f29:Addr}{g29:FuncData}
 {f30:Addr}{g30:FuncData}
 {f31:Addr}{g31:FuncData}
 {f32:Addr}{g32:FuncData}
 {f33:Addr}{g33:FuncData}
 {f34:Addr}{g34:FuncData}
 {f35:Addr}{g35:FuncData}
 {f36:Addr}{g36:FuncData}
 {f37:Addr}{g37:FuncData}
 {f38:Addr}{g38:FuncData}
 {f39:Addr}{g39:FuncData}
 {f40:Addr}{g40:FuncData}
 {f41:Addr}{g41:FuncData}
 {f42:Addr}{g42:FuncData}
 {f43:Addr}
 {lOc:Value}{lOd lcD:Option Addr}{lkV lDoc lPm lCt:Value}{lAn:Option Addr}{lSl lcS lbS:Array (Option Value)}{lC lP lB:Addr}{lV:Array Value}{lFile:Str}{lTf lTg lTt:Tok}{lFl lTx:Int}{lIn:Bool}
 {f44:Addr}{g44:FuncData}
 {f45:Addr}{g45:FuncData}
 {f46:Addr}{g46:FuncData}
 {f47:Addr}{g47:FuncData}
 {f48:Addr}{g48:FuncData}
 {f49:Addr}{g49:FuncData}
 {f50:Addr}{g50:FuncData}
 {f51:Addr}{g51:FuncData}
 {f52:Addr}{g52:FuncData}
 {f53:Addr}{g53:FuncData}
 {f54:Addr}{g54:FuncData}
 {f55:Addr}{g55:FuncData}
 {f56:Addr}{g56:FuncData}
 {f57:Addr}{g57:FuncData}
 {f58:Addr}{g58:FuncData}
 {f59:Addr}{g59:FuncData}
 {f60:Addr}{g60:FuncData}
 {f61:Addr}{g61:FuncData}
 {f62:Addr}{g62:FuncData}
 {f63:Addr}{g63:FuncData}
 {tk0:Tok}
 {tk1:Tok}
 {tk2:Tok}
 {tk3:Tok}
 {tk4:Tok}
 {tk5:Tok}
 {tk6:Tok}
 {tk7:Tok}
 {tA_SIZES:Addr}{tD_SIZES:Option Addr}{tN_SIZES:Nat}{tS_SIZES:Array (Option Value)}{tT_SIZES_0 tT_SIZES_1 tT_SIZES_2 tT_SIZES_3 tT_SIZES_4 tT_SIZES_5 tT_SIZES_6 tT_SIZES_7 tT_SIZES_8 tT_SIZES_9 tT_SIZES_10:Tok}
 {eA_ eB_ eC0 eC1 eC2 eC3:Addr}{eD0 eD1 eD2 eD3 eD4 eD5:Option Addr}{eN0 eN1 eN2 eN3 eN4 eN5:Nat}{eS0 eS1 eS2 eS3 eS4 eS5:Array (Option Value)}{eT_:Tok}
 (q_Shelf:W.nsIn K mainGlobals "Shelf"=some (some (.ref C_Shelf)))
 (pg_Shelf:W.plainGet K C_Shelf Str.empty=true)
 (hd_Shelf:W.hasDictIn K C_Shelf=true)
 (po_Shelf:W.plainOver K C_Shelf=true)
 (sa_Shelf:W.findIn K (.ref C_Shelf) "__setattr__"=some (some (.builtin "object.__setattr__")))
 (mk_Shelf:W.makesIn K C_Shelf=true)
 (kc_Shelf:W.keepIn K (.ref C_Shelf)=true)
 (na_Shelf_mixer:W.findIn K (.ref C_Shelf) "mixer"=some none)
 (na_Shelf_rows:W.findIn K (.ref C_Shelf) "rows"=some none)
 (na_Shelf_held:W.findIn K (.ref C_Shelf) "held"=some none)
 (q_Table:W.nsIn K mainGlobals "Table"=some (some (.ref C_Table)))
 (pg_Table:W.plainGet K C_Table Str.empty=true)
 (hd_Table:W.hasDictIn K C_Table=true)
 (po_Table:W.plainOver K C_Table=true)
 (sa_Table:W.findIn K (.ref C_Table) "__setattr__"=some (some (.builtin "object.__setattr__")))
 (mk_Table:W.makesIn K C_Table=true)
 (kc_Table:W.keepIn K (.ref C_Table)=true)
 (na_Table_mixer:W.findIn K (.ref C_Table) "mixer"=some none)
 (na_Table_pace:W.findIn K (.ref C_Table) "pace"=some none)
 (na_Table_elder:W.findIn K (.ref C_Table) "elder"=some none)
 (na_Table_moved:W.findIn K (.ref C_Table) "moved"=some none)
 (na_Table_newer:W.findIn K (.ref C_Table) "newer"=some none)
 (na_Table_touches:W.findIn K (.ref C_Table) "touches"=some none)
 (q_Desk:W.nsIn K mainGlobals "Desk"=some (some (.ref C_Desk)))
 (pg_Desk:W.plainGet K C_Desk Str.empty=true)
 (hd_Desk:W.hasDictIn K C_Desk=true)
 (po_Desk:W.plainOver K C_Desk=true)
 (sa_Desk:W.findIn K (.ref C_Desk) "__setattr__"=some (some (.builtin "object.__setattr__")))
 (mk_Desk:W.makesIn K C_Desk=true)
 (kc_Desk:W.keepIn K (.ref C_Desk)=true)
 (na_Desk_table:W.findIn K (.ref C_Desk) "table"=some none)
 (a0:W.findIn K (.ref C_Shelf) "size"=some (some (.ref f0)))
 (i0:W.isFn K (.ref f0)=true)
 (u0:Fun K "size" "Shelf.size" yD f0 g0)
 (a1:W.findIn K (.ref C_Table) "due_places"=some (some (.ref f1)))
 (i1:W.isFn K (.ref f1)=true)
 (u1:Fun K "due_places" "Table.due_places" zx f1 g1)
 (a2:W.nsIn K mainGlobals "is_whole"=some (some (.ref f2)))
 (u2:Fun K "is_whole" "is_whole" zG f2 g2)
 (a3:W.findIn K (.ref C_Shelf) "check_place"=some (some (.ref f3)))
 (i3:W.isFn K (.ref f3)=true)
 (u3:Fun K "check_place" "Shelf.check_place" z3_ f3 g3)
 (a4:W.findIn K (.ref C_Shelf) "row"=some (some (.ref f4)))
 (i4:W.isFn K (.ref f4)=true)
 (u4:Fun K "row" "Shelf.row" z4 f4 g4)
 (a5:W.findIn K (.ref C_Shelf) "empty"=some (some (.ref f5)))
 (i5:W.isFn K (.ref f5)=true)
 (u5:Fun K "empty" "Shelf.empty" z5_ f5 g5)
 (a6:W.nsIn K mainGlobals "mark_of"=some (some (.ref f6)))
 (u6:Fun K "mark_of" "mark_of" yc f6 g6)
 (a7:W.nsIn K mainGlobals "place_of"=some (some (.ref f7)))
 (u7:Fun K "place_of" "place_of" Aj f7 g7)
 (a8:W.findIn K (.ref C_Shelf) "place_with"=some (some (.ref f8)))
 (i8:W.isFn K (.ref f8)=true)
 (u8:Fun K "place_with" "Shelf.place_with" z8_ f8 g8)
 (a9:W.findIn K (.ref C_Shelf) "row_with"=some (some (.ref f9)))
 (i9:W.isFn K (.ref f9)=true)
 (u9:Fun K "row_with" "Shelf.row_with" yS f9 g9)
 (a10:W.findIn K (.ref C_Shelf) "put"=some (some (.ref f10)))
 (i10:W.isFn K (.ref f10)=true)
 (u10:Fun K "put" "Shelf.put" z9_ f10 g10)
 (a11:W.findIn K (.ref C_Table) "move_place"=some (some (.ref f11)))
 (i11:W.isFn K (.ref f11)=true)
 (u11:Fun K "move_place" "Table.move_place" yM f11 g11)
 (a12:W.findIn K (.ref C_Table) "end_move"=some (some (.ref f12)))
 (i12:W.isFn K (.ref f12)=true)
 (u12:Fun K "end_move" "Table.end_move" Ar f12 g12)
 (a13:W.findIn K (.ref C_Table) "stands_on_elder"=some (some (.ref f13)))
 (i13:W.isFn K (.ref f13)=true)
 (u13:Fun K "stands_on_elder" "Table.stands_on_elder" Ae f13 g13)
 (a14:W.findIn K (.ref C_Table) "go_on"=some (some (.ref f14)))
 (i14:W.isFn K (.ref f14)=true)
 (u14:Fun K "go_on" "Table.go_on" xX f14 g14)
 (a15:W.findIn K (.ref C_Shelf) "look"=some (some (.ref f15)))
 (i15:W.isFn K (.ref f15)=true)
 (u15:Fun K "look" "Shelf.look" z6_ f15 g15)
 (a16:W.findIn K (.ref C_Table) "shelf_with"=some (some (.ref f16)))
 (i16:W.isFn K (.ref f16)=true)
 (u16:Fun K "shelf_with" "Table.shelf_with" Ai f16 g16)
 (a17:W.findIn K (.ref C_Shelf) "many"=some (some (.ref f17)))
 (i17:W.isFn K (.ref f17)=true)
 (u17:Fun K "many" "Shelf.many" z7_ f17 g17)
 (a18:W.findIn K (.ref C_Table) "wanted_size"=some (some (.ref f18)))
 (i18:W.isFn K (.ref f18)=true)
 (u18:Fun K "wanted_size" "Table.wanted_size" zJ f18 g18)
 (a19:W.nsIn K mainGlobals "is_size"=some (some (.ref f19)))
 (u19:Fun K "is_size" "is_size" zL f19 g19)
 (a20:W.findIn K (.ref C_Shelf) "__init__"=some (some (.ref f20)))
 (i20:W.isFn K (.ref f20)=true)
 (u20:Fun K "__init__" "Shelf.__init__" z2_ f20 g20)
 (a21:W.findIn K (.ref C_Table) "begin_move"=some (some (.ref f21)))
 (i21:W.isFn K (.ref f21)=true)
 (u21:Fun K "begin_move" "Table.begin_move" yW f21 g21)
 (a22:W.findIn K (.ref C_Table) "put"=some (some (.ref f22)))
 (i22:W.isFn K (.ref f22)=true)
 (u22:Fun K "put" "Table.put" zT f22 g22)
 (a23:W.findIn K (.ref C_Shelf) "cut"=some (some (.ref f23)))
 (i23:W.isFn K (.ref f23)=true)
 (u23:Fun K "cut" "Shelf.cut" z4_ f23 g23)
 (a24:W.findIn K (.ref C_Table) "cut"=some (some (.ref f24)))
 (i24:W.isFn K (.ref f24)=true)
 (u24:Fun K "cut" "Table.cut" yL f24 g24)
 (a25:W.findIn K (.ref C_Table) "look"=some (some (.ref f25)))
 (i25:W.isFn K (.ref f25)=true)
 (u25:Fun K "look" "Table.look" yj f25 g25)
 (a26:W.nsIn K mainGlobals "done"=some (some (.ref f26)))
 (u26:Fun K "done" "done" Ag f26 g26)
 (a27:W.nsIn K mainGlobals "is_key"=some (some (.ref f27)))
 (u27:Fun K "is_key" "is_key" yN f27 g27)
 (a28:W.nsIn K mainGlobals "is_worth"=some (some (.ref f28)))
 (u28:Fun K "is_worth" "is_worth" zh f28 g28)
 (a29:W.nsIn K mainGlobals "is_mixer_part"=some (some (.ref f29)))
 (u29:Fun K "is_mixer_part" "is_mixer_part" ze f29 g29)
 (a30:W.nsIn K mainGlobals "is_pace"=some (some (.ref f30)))
 (u30:Fun K "is_pace" "is_pace" yz f30 g30)
 (a31:W.nsIn K mainGlobals "is_point"=some (some (.ref f31)))
 (u31:Fun K "is_point" "is_point" Ac f31 g31)
 (a32:W.nsIn K mainGlobals "point_of"=some (some (.ref f32)))
 (u32:Fun K "point_of" "point_of" zb f32 g32)
 (a33:W.nsIn K mainGlobals "stretch_of"=some (some (.ref f33)))
 (u33:Fun K "stretch_of" "stretch_of" yC f33 g33)
 (a34:W.nsIn K mainGlobals "shelf_of"=some (some (.ref f34)))
 (u34:Fun K "shelf_of" "shelf_of" yZ f34 g34)
 (a35:W.findIn K (.ref C_Table) "__init__"=some (some (.ref f35)))
 (i35:W.isFn K (.ref f35)=true)
 (u35:Fun K "__init__" "Table.__init__" yF f35 g35)
 (a36:W.findIn K (.ref C_Table) "shelves"=some (some (.ref f36)))
 (i36:W.isFn K (.ref f36)=true)
 (u36:Fun K "shelves" "Table.shelves" zu f36 g36)
 (a37:W.findIn K (.ref C_Table) "many"=some (some (.ref f37)))
 (i37:W.isFn K (.ref f37)=true)
 (u37:Fun K "many" "Table.many" ym f37 g37)
 (a38:W.findIn K (.ref C_Table) "touched"=some (some (.ref f38)))
 (i38:W.isFn K (.ref f38)=true)
 (u38:Fun K "touched" "Table.touched" x_ f38 g38)
 (a39:W.findIn K (.ref C_Table) "sizes"=some (some (.ref f39)))
 (i39:W.isFn K (.ref f39)=true)
 (u39:Fun K "sizes" "Table.sizes" zS f39 g39)
 (a40:W.nsIn K mainGlobals "place_at"=some (some (.ref f40)))
 (u40:Fun K "place_at" "place_at" yt f40 g40)
 (a41:W.nsIn K mainGlobals "parts_left"=some (some (.ref f41)))
 (u41:Fun K "parts_left" "parts_left" Ab f41 g41)
 (a42:W.nsIn K mainGlobals "point_behind"=some (some (.ref f42)))
 (u42:Fun K "point_behind" "point_behind" y8 f42 g42)
 (a43:W.nsIn K mainGlobals "step"=some (some (.ref f43)))
 (ll_:K.lookup f43=some ⟨lOc,lOd,.func (W.fnOf "step" "step" (cb uG) (bv uG) (ae uG) .none lkV lDoc lPm lAn (.ref lC) lCt),lSl⟩)
 (lm_:W.codeIn K (.ref lC) "step"=true)
 (lk_:W.keepIn K (.ref f43)=true)
 (lo_:K.lookup lC=some ⟨.type "code",lcD,.fields lV,lcS⟩)
 (le11:lV[11]?=some (.ref lP))
 (le18:lV[18]?=some (.str lFile lTf))
 (le7:lV[7]?=some (.int lFl lTg))
 (le9:lV[9]?=some (.bool lIn))
 (le10:lV[10]?=some (.int lTx lTt))
 (lp_:K.lookup lP=some (W.tabObj #[]))
 (le0:(lC == lP)=false)
 (lb_:W.nsIn K mainGlobals "__builtins__"=some (some (.ref lB)))
 (lc_:K.lookup lB=some ⟨.type "module",some builtinsNs,.plain,lbS⟩)
 (le1:(lB == builtinsNs)=false)
 (le2:(lB == mainGlobals)=false)
 (a44:W.findIn K (.ref C_Desk) "__init__"=some (some (.ref f44)))
 (i44:W.isFn K (.ref f44)=true)
 (u44:Fun K "__init__" "Desk.__init__" z0_ f44 g44)
 (a45:W.nsIn K mainGlobals "are_figures"=some (some (.ref f45)))
 (u45:Fun K "are_figures" "are_figures" Af f45 g45)
 (a46:W.nsIn K mainGlobals "number_of"=some (some (.ref f46)))
 (u46:Fun K "number_of" "number_of" zj f46 g46)
 (a47:W.nsIn K mainGlobals "is_such_row"=some (some (.ref f47)))
 (u47:Fun K "is_such_row" "is_such_row" yH f47 g47)
 (a48:W.nsIn K mainGlobals "text_of_sizes"=some (some (.ref f48)))
 (u48:Fun K "text_of_sizes" "text_of_sizes" yY f48 g48)
 (a49:W.nsIn K mainGlobals "text_of_step"=some (some (.ref f49)))
 (u49:Fun K "text_of_step" "text_of_step" zK f49 g49)
 (a50:W.nsIn K mainGlobals "text_of_worth"=some (some (.ref f50)))
 (u50:Fun K "text_of_worth" "text_of_worth" x9 f50 g50)
 (a51:W.nsIn K mainGlobals "answer_of"=some (some (.ref f51)))
 (u51:Fun K "answer_of" "answer_of" yg f51 g51)
 (a52:W.findIn K (.ref C_Desk) "say"=some (some (.ref f52)))
 (i52:W.isFn K (.ref f52)=true)
 (u52:Fun K "say" "Desk.say" z1_ f52 g52)
 (a53:W.nsIn K mainGlobals "_law_cell_at"=some (some (.ref f53)))
 (u53:Fun K "_law_cell_at" "_law_cell_at" yA f53 g53)
 (a54:W.nsIn K mainGlobals "_law_row"=some (some (.ref f54)))
 (u54:Fun K "_law_row" "_law_row" zR f54 g54)
 (a55:W.nsIn K mainGlobals "_law_take"=some (some (.ref f55)))
 (u55:Fun K "_law_take" "_law_take" yu f55 g55)
 (a56:W.nsIn K mainGlobals "_law_mixer"=some (some (.ref f56)))
 (u56:Fun K "_law_mixer" "_law_mixer" zX f56 g56)
 (a57:W.nsIn K mainGlobals "_law_key"=some (some (.ref f57)))
 (u57:Fun K "_law_key" "_law_key" y3 f57 g57)
 (a58:W.nsIn K mainGlobals "_law_deed"=some (some (.ref f58)))
 (u58:Fun K "_law_deed" "_law_deed" zA f58 g58)
 (a59:W.nsIn K mainGlobals "_law_kept_in"=some (some (.ref f59)))
 (u59:Fun K "_law_kept_in" "_law_kept_in" zO f59 g59)
 (a60:W.nsIn K mainGlobals "_law_step_right"=some (some (.ref f60)))
 (u60:Fun K "_law_step_right" "_law_step_right" x6 f60 g60)
 (a61:W.nsIn K mainGlobals "_law_bounds_right"=some (some (.ref f61)))
 (u61:Fun K "_law_bounds_right" "_law_bounds_right" yy f61 g61)
 (a62:W.nsIn K mainGlobals "_law_rows_right"=some (some (.ref f62)))
 (u62:Fun K "_law_rows_right" "_law_rows_right" zk f62 g62)
 (a63:W.nsIn K mainGlobals "law"=some (some (.ref f63)))
 (u63:Fun K "law" "law" qR f63 g63)
 (cst0:W.nsIn K mainGlobals "MARK_BITS"=some (some (.int 16 tk0)))
 (cst1:W.nsIn K mainGlobals "MARKS"=some (some (.int 65536 tk1)))
 (cst2:W.nsIn K mainGlobals "GREATEST"=some (some (.int 1000000000 tk2)))
 (cst3:W.nsIn K mainGlobals "LAST_POINT"=some (some (.int 65535 tk3)))
 (cst4:W.nsIn K mainGlobals "GREATEST_MIXER_PART"=some (some (.int 65535 tk4)))
 (cst5:W.nsIn K mainGlobals "GREATEST_PACE"=some (some (.int 8 tk5)))
 (cst6:W.nsIn K mainGlobals "FIGURES"=some (some (.str "0123456789" tk6)))
 (cst7:W.nsIn K mainGlobals "MOST_FIGURES"=some (some (.int 10 tk7)))
 (ta_SIZES:W.nsIn K mainGlobals "SIZES"=some (some (.ref tA_SIZES)))
 (tl_SIZES:K.lookup tA_SIZES=some ⟨.type "tuple",tD_SIZES,.seq #[.int 4 tT_SIZES_0,.int 8 tT_SIZES_1,.int 16 tT_SIZES_2,.int 32 tT_SIZES_3,.int 64 tT_SIZES_4,.int 128 tT_SIZES_5,.int 256 tT_SIZES_6,.int 512 tT_SIZES_7,.int 1024 tT_SIZES_8,.int 2048 tT_SIZES_9,.int 4096 tT_SIZES_10] tN_SIZES,tS_SIZES⟩)
 (ea_:W.nsIn K mainGlobals "EMPTY"=some (some (.ref eA_)))
 (eb_:K.lookup eA_=some ⟨.type "tuple",eD0,.seq #[.none,.int 0 eT_,.ref eB_] eN0,eS0⟩)
 (ec_:K.lookup eB_=some ⟨.type "tuple",eD1,.seq #[.ref eC0,.ref eC1,.ref eC2,.ref eC3] eN1,eS1⟩)
 (ed0:K.lookup eC0=some ⟨.type "tuple",eD2,.seq #[] eN2,eS2⟩)
 (ed1:K.lookup eC1=some ⟨.type "tuple",eD3,.seq #[] eN3,eS3⟩)
 (ed2:K.lookup eC2=some ⟨.type "tuple",eD4,.seq #[] eN4,eS4⟩)
 (ed3:K.lookup eC3=some ⟨.type "tuple",eD5,.seq #[] eN5,eS5⟩)
 (blt0:W.nsIn K mainGlobals "int"=some none)
 (blt1:W.nsIn K mainGlobals "bool"=some none)
 (blt2:W.nsIn K mainGlobals "isinstance"=some none)
 (blt3:W.nsIn K mainGlobals "range"=some none)
 (blt4:W.nsIn K mainGlobals "len"=some none)
 (blt5:W.nsIn K mainGlobals "list"=some none)
 (blt6:W.nsIn K mainGlobals "tuple"=some none)
 (blt7:W.nsIn K mainGlobals "sum"=some none)
 (blt8:W.nsIn K mainGlobals "min"=some none)
 (blt9:W.nsIn K mainGlobals "max"=some none)
 (blt10:W.nsIn K mainGlobals "set"=some none)
 (blt11:W.nsIn K mainGlobals "str"=some none)
 (blt12:W.nsIn K mainGlobals "sorted"=some none)
 (blt13:W.nsIn K mainGlobals "all"=some none) :
 ∃(c P:Addr) (fd:FuncData),K.lookup P=some (W.tabObj #[])/\W.CodeHd h c P/\(∀(s:Shared) (v:Value),BindsTo s fd ⟨[v],[]⟩ [("script",v)]) /\ ∀ base:Heap,(wo K P).In base->base.Ns mainGlobals mg->eO l.prog w (wo K P) mg base CX0 13 fa fd ["script"] (mj (wo K P) P):=by
 have e:=hfa.symm.trans (W.mg_of X G a63);cases e;have pg_Shelf:=(fb lp_).trans pg_Shelf;have hd_Shelf:=(d9 lp_).trans hd_Shelf;have po_Shelf:=(dZ lp_).trans po_Shelf;have sa_Shelf:=(ap lp_).trans sa_Shelf;have mk_Shelf:=fY lp_ mk_Shelf;have kc_Shelf:=dL lp_ kc_Shelf;have na_Shelf_mixer:=(ap lp_).trans na_Shelf_mixer;have na_Shelf_rows:=(ap lp_).trans na_Shelf_rows;have na_Shelf_held:=(ap lp_).trans na_Shelf_held;have pg_Table:=(fb lp_).trans pg_Table;have hd_Table:=(d9 lp_).trans hd_Table;have po_Table:=(dZ lp_).trans po_Table;have sa_Table:=(ap lp_).trans sa_Table;have mk_Table:=fY lp_ mk_Table;have kc_Table:=dL lp_ kc_Table;have na_Table_mixer:=(ap lp_).trans na_Table_mixer;have na_Table_pace:=(ap lp_).trans na_Table_pace;have na_Table_elder:=(ap lp_).trans na_Table_elder;have na_Table_moved:=(ap lp_).trans na_Table_moved;have na_Table_newer:=(ap lp_).trans na_Table_newer;have na_Table_touches:=(ap lp_).trans na_Table_touches;have pg_Desk:=(fb lp_).trans pg_Desk;have hd_Desk:=(d9 lp_).trans hd_Desk;have po_Desk:=(dZ lp_).trans po_Desk;have sa_Desk:=(ap lp_).trans sa_Desk;have mk_Desk:=fY lp_ mk_Desk;have kc_Desk:=dL lp_ kc_Desk;have na_Desk_table:=(ap lp_).trans na_Desk_table;have a0:=(ap lp_).trans a0;have i0:=aO lp_ i0;have u0:=Fun.wo lp_ u0;have a1:=(ap lp_).trans a1;have i1:=aO lp_ i1;have u1:=Fun.wo lp_ u1;have u2:=Fun.wo lp_ u2;have a3:=(ap lp_).trans a3;have i3:=aO lp_ i3;have u3:=Fun.wo lp_ u3;have a4:=(ap lp_).trans a4;have i4:=aO lp_ i4;have u4:=Fun.wo lp_ u4;have a5:=(ap lp_).trans a5;have i5:=aO lp_ i5;have u5:=Fun.wo lp_ u5;have u6:=Fun.wo lp_ u6;have u7:=Fun.wo lp_ u7;have a8:=(ap lp_).trans a8;have i8:=aO lp_ i8;have u8:=Fun.wo lp_ u8;have a9:=(ap lp_).trans a9;have i9:=aO lp_ i9;have u9:=Fun.wo lp_ u9;have a10:=(ap lp_).trans a10;have i10:=aO lp_ i10;have u10:=Fun.wo lp_ u10;have a11:=(ap lp_).trans a11;have i11:=aO lp_ i11;have u11:=Fun.wo lp_ u11;have a12:=(ap lp_).trans a12;have i12:=aO lp_ i12;have u12:=Fun.wo lp_ u12;have a13:=(ap lp_).trans a13;have i13:=aO lp_ i13;have u13:=Fun.wo lp_ u13;have a14:=(ap lp_).trans a14;have i14:=aO lp_ i14;have u14:=Fun.wo lp_ u14;have a15:=(ap lp_).trans a15;have i15:=aO lp_ i15;have u15:=Fun.wo lp_ u15;have a16:=(ap lp_).trans a16;have i16:=aO lp_ i16;have u16:=Fun.wo lp_ u16;have a17:=(ap lp_).trans a17;have i17:=aO lp_ i17;have u17:=Fun.wo lp_ u17;have a18:=(ap lp_).trans a18;have i18:=aO lp_ i18;have u18:=Fun.wo lp_ u18;have u19:=Fun.wo lp_ u19;have a20:=(ap lp_).trans a20;have i20:=aO lp_ i20;have u20:=Fun.wo lp_ u20;have a21:=(ap lp_).trans a21;have i21:=aO lp_ i21;have u21:=Fun.wo lp_ u21;have a22:=(ap lp_).trans a22;have i22:=aO lp_ i22;have u22:=Fun.wo lp_ u22;have a23:=(ap lp_).trans a23;have i23:=aO lp_ i23;have u23:=Fun.wo lp_ u23;have a24:=(ap lp_).trans a24;have i24:=aO lp_ i24;have u24:=Fun.wo lp_ u24;have a25:=(ap lp_).trans a25;have i25:=aO lp_ i25;have u25:=Fun.wo lp_ u25;have u26:=Fun.wo lp_ u26;have u27:=Fun.wo lp_ u27;have u28:=Fun.wo lp_ u28;have u29:=Fun.wo lp_ u29;have u30:=Fun.wo lp_ u30;have u31:=Fun.wo lp_ u31;have u32:=Fun.wo lp_ u32;have u33:=Fun.wo lp_ u33;have u34:=Fun.wo lp_ u34;have a35:=(ap lp_).trans a35;have i35:=aO lp_ i35;have u35:=Fun.wo lp_ u35;have a36:=(ap lp_).trans a36;have i36:=aO lp_ i36;have u36:=Fun.wo lp_ u36;have a37:=(ap lp_).trans a37;have i37:=aO lp_ i37;have u37:=Fun.wo lp_ u37;have a38:=(ap lp_).trans a38;have i38:=aO lp_ i38;have u38:=Fun.wo lp_ u38;have a39:=(ap lp_).trans a39;have i39:=aO lp_ i39;have u39:=Fun.wo lp_ u39;have u40:=Fun.wo lp_ u40;have u41:=Fun.wo lp_ u41;have u42:=Fun.wo lp_ u42;have a44:=(ap lp_).trans a44;have i44:=aO lp_ i44;have u44:=Fun.wo lp_ u44;have u45:=Fun.wo lp_ u45;have u46:=Fun.wo lp_ u46;have u47:=Fun.wo lp_ u47;have u48:=Fun.wo lp_ u48;have u49:=Fun.wo lp_ u49;have u50:=Fun.wo lp_ u50;have u51:=Fun.wo lp_ u51;have a52:=(ap lp_).trans a52;have i52:=aO lp_ i52;have u52:=Fun.wo lp_ u52;have u53:=Fun.wo lp_ u53;have u54:=Fun.wo lp_ u54;have u55:=Fun.wo lp_ u55;have u56:=Fun.wo lp_ u56;have u57:=Fun.wo lp_ u57;have u58:=Fun.wo lp_ u58;have u59:=Fun.wo lp_ u59;have u60:=Fun.wo lp_ u60;have u61:=Fun.wo lp_ u61;have u62:=Fun.wo lp_ u62;have u63:=Fun.wo lp_ u63;have tl_SIZES:=e_ lp_ tl_SIZES (fun z=>by cases z)
 have eb_:=e_ lp_ eb_ (fun z=>by cases z)
 have ec_:=e_ lp_ ec_ (fun z=>by cases z)
 have ed0:=e_ lp_ ed0 (fun z=>by cases z)
 have ed1:=e_ lp_ ed1 (fun z=>by cases z)
 have ed2:=e_ lp_ ed2 (fun z=>by cases z)
 have ed3:=e_ lp_ ed3 (fun z=>by cases z)
 have lamk:=BH X G lp_ lo_ le11 le18 le7 le9 le10 le0 lb_ lc_ le1 le2;have g:Gs (wo K lP) mg C_Shelf C_Table C_Desk lC lP:=⟨⟨_,W.mg_of X G cst0⟩,⟨_,W.mg_of X G cst1⟩,⟨_,W.mg_of X G ta_SIZES,fun H=>.inr ⟨_,_,_,tl_SIZES,rfl,rfl,by show(11:Nat)<=sizeLine;decide,.cons ⟨_,rfl⟩ (.cons ⟨_,rfl⟩ (.cons ⟨_,rfl⟩ (.cons ⟨_,rfl⟩ (.cons ⟨_,rfl⟩ (.cons ⟨_,rfl⟩ (.cons ⟨_,rfl⟩ (.cons ⟨_,rfl⟩ (.cons ⟨_,rfl⟩ (.cons ⟨_,rfl⟩ (.cons ⟨_,rfl⟩ (.nil)))))))))))⟩⟩,⟨_,_,W.mg_of X G ea_,fun H=>.inr ⟨_,_,_,eb_,rfl,rfl,by show(3:Nat)<=sizeLine;decide,.cons rfl (.cons ⟨_,rfl⟩ (.cons rfl .nil))⟩,fun H=>⟨[.ref _,.ref _,.ref _,.ref _],.inr ⟨_,_,_,ec_,rfl,rfl,by show(4:Nat)<=sizeLine;decide,.cons rfl (.cons rfl (.cons rfl (.cons rfl .nil)))⟩,.cons ⟨_,[],rfl,.inr ⟨_,_,_,ed0,rfl,rfl,by show(0:Nat)<=sizeLine;decide,.nil⟩,.nil⟩ (.cons ⟨_,[],rfl,.inr ⟨_,_,_,ed1,rfl,rfl,by show(0:Nat)<=sizeLine;decide,.nil⟩,.nil⟩ (.cons ⟨_,[],rfl,.inr ⟨_,_,_,ed2,rfl,rfl,by show(0:Nat)<=sizeLine;decide,.nil⟩,.nil⟩ (.cons ⟨_,[],rfl,.inr ⟨_,_,_,ed3,rfl,rfl,by show(0:Nat)<=sizeLine;decide,.nil⟩,.nil⟩ .nil)))⟩⟩,⟨pg_Shelf,hd_Shelf,po_Shelf,sa_Shelf⟩,na_Shelf_mixer,na_Shelf_rows,na_Shelf_held,⟨pg_Table,hd_Table,po_Table,sa_Table⟩,na_Table_mixer,na_Table_pace,na_Table_elder,na_Table_moved,na_Table_newer,na_Table_touches,⟨pg_Desk,hd_Desk,po_Desk,sa_Desk⟩,na_Desk_table,W.mg_none_of X G blt0,W.mg_none_of X G blt1,W.mg_none_of X G blt2,W.mg_none_of X G blt3,W.mg_none_of X G blt4,W.mg_none_of X G blt5,W.mg_none_of X G blt6,W.mg_none_of X G blt7,W.mg_none_of X G blt8,W.mg_none_of X G blt9,W.mg_none_of X G blt10,W.mg_none_of X G blt11,W.mg_none_of X G blt12,W.mg_none_of X G blt13,⟨_,W.mg_of X G cst2⟩,⟨_,W.mg_of X G cst3⟩,⟨_,W.mg_of X G cst4⟩,⟨_,W.mg_of X G cst5⟩,⟨_,W.mg_of X G cst6⟩,⟨_,W.mg_of X G cst7⟩,lamk⟩
 have FL:=u63;obtain⟨oc,od,kV,dc,pm,an,cd,ct,sl,rfl,_,_⟩:=id FL.ex;refine⟨lC,lP,W.fnOf "law" "law" (cb qR) (bv qR) (ae qR) .none kV dc pm an cd ct,lp_,pR X lo_ le11 le18 le7 le9 le10 le0,fun s v=>.of_eq rfl,fun base _ _=>?_⟩;have T0:=Bh (P:=l.prog) (w:=w) (base:=base) ⟨_,_,u0,⟨a0,i0,u0.kp⟩,SW.bd1 u0⟩ g;have T1:=AM (P:=l.prog) (w:=w) (base:=base) ⟨_,_,u1,⟨a1,i1,u1.kp⟩,SW.bd1 u1⟩ g T0;have T2:=Dt (P:=l.prog) (w:=w) (base:=base) ⟨_,_,u2,W.mg_of X G a2,SW.bd1 u2⟩ g;have T3:=Dv (P:=l.prog) (w:=w) (base:=base) ⟨_,_,u3,⟨a3,i3,u3.kp⟩,SW.bd2 u3⟩ g T2;have T4:=AG (P:=l.prog) (w:=w) (base:=base) ⟨_,_,u4,⟨a4,i4,u4.kp⟩,SW.bd2 u4⟩ g T3;have T5:=Dl (P:=l.prog) (w:=w) (base:=base) ⟨_,_,u5,⟨a5,i5,u5.kp⟩,SW.bd2 u5⟩ g T4;have T6:=CA (P:=l.prog) (w:=w) (base:=base) ⟨_,_,u6,W.mg_of X G a6,SW.bd2 u6⟩ g;have T7:=C1 (P:=l.prog) (w:=w) (base:=base) ⟨_,_,u7,W.mg_of X G a7,SW.bd2 u7⟩;have T8:=CL (P:=l.prog) (w:=w) (base:=base) ⟨_,_,u8,⟨a8,i8,u8.kp⟩,SW.bd2 u8⟩ g T6 T7;have T9:=BC (P:=l.prog) (w:=w) (base:=base) ⟨_,_,u9,⟨a9,i9,u9.kp⟩,SW.bd2 u9⟩ g T8;have T10:=B8 (P:=l.prog) (w:=w) (base:=base) ⟨_,_,u10,⟨a10,i10,u10.kp⟩,SW.bd3 u10⟩ g T9;have T11:=Ci (P:=l.prog) (w:=w) (base:=base) ⟨_,_,u11,⟨a11,i11,u11.kp⟩,SW.bd2 u11⟩ g T5 T10 T8;have T12:=Cr (P:=l.prog) (w:=w) (base:=base) ⟨_,_,u12,⟨a12,i12,u12.kp⟩,SW.bd1 u12⟩ g T0;have T13:=Bb (P:=l.prog) (w:=w) (base:=base) ⟨_,_,u13,⟨a13,i13,u13.kp⟩,SW.bd2 u13⟩ g T8;have T14:=CC (P:=l.prog) (w:=w) (base:=base) ⟨_,_,u14,⟨a14,i14,u14.kp⟩,SW.bd2 u14⟩ g T1 T11 T12 T13 T8;have T15:=Cv (P:=l.prog) (w:=w) (base:=base) ⟨_,_,u15,⟨a15,i15,u15.kp⟩,SW.bd2 u15⟩ T9 g;have T16:=A7 (P:=l.prog) (w:=w) (base:=base) ⟨_,_,u16,⟨a16,i16,u16.kp⟩,SW.bd2 u16⟩ g T15;have T17:=C2 (P:=l.prog) (w:=w) (base:=base) ⟨_,_,u17,⟨a17,i17,u17.kp⟩,SW.bd1 u17⟩ g;have T18:=BU (P:=l.prog) (w:=w) (base:=base) ⟨_,_,u18,⟨a18,i18,u18.kp⟩,SW.bd1 u18⟩ g T0 T17;have T19:=Do (P:=l.prog) (w:=w) (base:=base) ⟨_,_,u19,W.mg_of X G a19,SW.bd1 u19⟩ g T2;have T20:=C9 (P:=l.prog) (w:=w) (base:=base) ⟨_,_,u20,⟨mk_Shelf,a20,i20,kc_Shelf⟩,W.mg_of X G q_Shelf,SW.bd3 u20⟩ g T19;have T21:=BR (P:=l.prog) (w:=w) (base:=base) ⟨_,_,u21,⟨a21,i21,u21.kp⟩,SW.bd1 u21⟩ g T18 T0 T20;have T22:=AQ (P:=l.prog) (w:=w) (base:=base) ⟨_,_,u22,⟨a22,i22,u22.kp⟩,SW.bd3 u22⟩ g T14 T16 T21 T10;have T23:=CH (P:=l.prog) (w:=w) (base:=base) ⟨_,_,u23,⟨a23,i23,u23.kp⟩,SW.bd2 u23⟩ g T9;have T24:=AY (P:=l.prog) (w:=w) (base:=base) ⟨_,_,u24,⟨a24,i24,u24.kp⟩,SW.bd2 u24⟩ g T14 T16 T21 T23;have T25:=Bk (P:=l.prog) (w:=w) (base:=base) ⟨_,_,u25,⟨a25,i25,u25.kp⟩,SW.bd2 u25⟩ g T14 T16 T21 T15;have T26:=q7_ (P:=l.prog) (w:=w) (base:=base) ⟨_,_,u26,W.mg_of X G a26,SW.bd2 u26⟩ g T22 T24 T25;have T27:=Ca (P:=l.prog) (w:=w) (base:=base) ⟨_,_,u27,W.mg_of X G a27,SW.bd1 u27⟩ g T2;have T28:=BY (P:=l.prog) (w:=w) (base:=base) ⟨_,_,u28,W.mg_of X G a28,SW.bd1 u28⟩ g T2;have T29:=BG (P:=l.prog) (w:=w) (base:=base) ⟨_,_,u29,W.mg_of X G a29,SW.bd1 u29⟩ g T2;have T30:=Cd (P:=l.prog) (w:=w) (base:=base) ⟨_,_,u30,W.mg_of X G a30,SW.bd1 u30⟩ g T2;have T31:=Bo (P:=l.prog) (w:=w) (base:=base) ⟨_,_,u31,W.mg_of X G a31,SW.bd1 u31⟩ g T2;have T32:=C8 (P:=l.prog) (w:=w) (base:=base) ⟨_,_,u32,W.mg_of X G a32,SW.bd1 u32⟩ g;have T33:=Cu (P:=l.prog) (w:=w) (base:=base) ⟨_,_,u33,W.mg_of X G a33,SW.bd2 u33⟩ g T32;have T34:=q48_ (P:=l.prog) (w:=w) (base:=base) ⟨_,_,u34,W.mg_of X G a34,SW.bd2 u34⟩ g T20 T10;have T35:=AH (P:=l.prog) (w:=w) (base:=base) ⟨_,_,u35,⟨mk_Table,a35,i35,kc_Table⟩,W.mg_of X G q_Table,SW.bd4 u35⟩ g T34;have T36:=BK (P:=l.prog) (w:=w) (base:=base) ⟨_,_,u36,⟨a36,i36,u36.kp⟩,SW.bd1 u36⟩ g;have T37:=Bv (P:=l.prog) (w:=w) (base:=base) ⟨_,_,u37,⟨a37,i37,u37.kp⟩,SW.bd1 u37⟩ g T36 T17;have T38:=BZ (P:=l.prog) (w:=w) (base:=base) ⟨_,_,u38,⟨a38,i38,u38.kp⟩,SW.bd1 u38⟩ g;have T39:=B6 (P:=l.prog) (w:=w) (base:=base) ⟨_,_,u39,⟨a39,i39,u39.kp⟩,SW.bd1 u39⟩ g T0;have T40:=q40_ (P:=l.prog) (w:=w) (base:=base) ⟨_,_,u40,W.mg_of X G a40,SW.bd2 u40⟩ g T32 T7;have T41:=Dz (P:=l.prog) (w:=w) (base:=base) ⟨_,_,u41,W.mg_of X G a41,SW.bd3 u41⟩ g T33;have T42:=q3_ (P:=l.prog) (w:=w) (base:=base) ⟨_,_,u42,W.mg_of X G a42,SW.bd2 u42⟩ g T33;have T43:=q50_ (P:=l.prog) (w:=w) (base:=base) ⟨_,_,_,_,_,_,_,_,_,e_ lp_ ll_ (fun z=>by cases z),lq lp_ lm_,dL lp_ lk_,W.mg_of X G a43,bW.all fun us hl=>len2 us hl (by intros;rfl)⟩ g T36 T0 T4 T40 T41 T42
 have T44:=sT (P:=l.prog) (w:=w) (base:=base) ⟨_,_,u44,⟨mk_Desk,a44,i44,kc_Desk⟩,W.mg_of X G q_Desk,SW.bd1 u44⟩ g;have T45:=q8_ (P:=l.prog) (w:=w) (base:=base) ⟨_,_,u45,W.mg_of X G a45,SW.bd1 u45⟩ g;have T46:=Bc (P:=l.prog) (w:=w) (base:=base) ⟨_,_,u46,W.mg_of X G a46,SW.bd1 u46⟩ g T45;have T47:=BF (P:=l.prog) (w:=w) (base:=base) ⟨_,_,u47,W.mg_of X G a47,SW.bd2 u47⟩ g T27 T28 T29 T30 T31;have T48:=Bz (P:=l.prog) (w:=w) (base:=base) ⟨_,_,u48,W.mg_of X G a48,SW.bd1 u48⟩ g;have T49:=BJ (P:=l.prog) (w:=w) (base:=base) ⟨_,_,u49,W.mg_of X G a49,SW.bd1 u49⟩ g;have T50:=B9 (P:=l.prog) (w:=w) (base:=base) ⟨_,_,u50,W.mg_of X G a50,SW.bd1 u50⟩ g;have T51:=q0_ (P:=l.prog) (w:=w) (base:=base) ⟨_,_,u51,W.mg_of X G a51,SW.bd3 u51⟩ g T37 T39 T38 T48 T43 T49 T26 T50;have T52:=xT (P:=l.prog) (w:=w) (base:=base) ⟨_,_,u52,⟨a52,i52,u52.kp⟩,SW.bd2 u52⟩ g T46 T47 T35 T51;have T53:=q5_ (P:=l.prog) (w:=w) (base:=base) ⟨_,_,u53,W.mg_of X G a53,SW.bd2 u53⟩ g;have T54:=Bd (P:=l.prog) (w:=w) (base:=base) ⟨_,_,u54,W.mg_of X G a54,SW.bd1 u54⟩;have T55:=B5 (P:=l.prog) (w:=w) (base:=base) ⟨_,_,u55,W.mg_of X G a55,SW.bd2 u55⟩;have T56:=Ce (P:=l.prog) (w:=w) (base:=base) ⟨_,_,u56,W.mg_of X G a56,SW.bd1 u56⟩ T55;have T57:=BV (P:=l.prog) (w:=w) (base:=base) ⟨_,_,u57,W.mg_of X G a57,SW.bd3 u57⟩ g T55;have T58:=q6_ (P:=l.prog) (w:=w) (base:=base) ⟨_,_,u58,W.mg_of X G a58,SW.bd4 u58⟩ g;have T59:=AK (P:=l.prog) (w:=w) (base:=base) ⟨_,_,u59,W.mg_of X G a59,SW.bd2 u59⟩ g;have T60:=AE (P:=l.prog) (w:=w) (base:=base) ⟨_,_,u60,W.mg_of X G a60,SW.bd3 u60⟩ g T52;have T61:=q4_ (P:=l.prog) (w:=w) (base:=base) ⟨_,_,u61,W.mg_of X G a61,SW.bd4 u61⟩ g T52;have T62:=BN (P:=l.prog) (w:=w) (base:=base) ⟨_,_,u62,W.mg_of X G a62,SW.bd5 u62⟩ g T52 T55 T57 T58 T59 T60 T61;exact AA FL g T44 T52 T53 T54 T55 T56 T62
theorem walk{l:W.OpenLaw}{q:Program}{loose:List Str}{XP:(Str->Option Value)->Heap->Prop}{YP:World->Heap->Prop}{d:DefRec}{K:Params->W.Frag}(hn:l.most=some 63)(hdf:d.params.defaults=[])
 (hY:∀(w:World) (h:Heap),YP w h->(K w.params).In h)
 (F:∀(w:World) (mg:Str->Option Value) (fa:Addr) (h:Heap),(K w.params).In h->h.Ns mainGlobals mg->mg d.name=some (.ref fa) ->
  ∃(c P:Addr) (fd:FuncData),(K w.params).lookup P=some (W.tabObj #[])/\W.CodeHd h c P/\(∀(s:Shared) (u:Value),BindsTo s fd ⟨[u],[]⟩ [("script",u)]) /\ ∀ base:Heap,(wo (K w.params) P).In base->base.Ns mainGlobals mg->eO l.prog w (wo (K w.params) P) mg base CX0 13 fa fd ["script"] (mj (wo (K w.params) P) P)) :
 W.WalkO q loose XP YP l.row.toRowW d [] (fun f vs=>PySem.call f vs):=
 SW.walk_ofE (n:=63) (k:=13) (x:="script") (sp:=mj) hn (by decide) hdf ⟨rfl,by decide,by decide⟩ hY F (fun _ _ _ a ns hl hP hS=>⟨a,ns,rfl,hS,hl,hP,fun _=>rfl⟩)
end
end
end K
def PySem.W.Fast.tw12203833509278283507:Nat:=0
def PySem.W.Fast.tw447582211282898440:Nat:=0
def PySem.W.Fast.tw16805430461302576360:Nat:=0
def PySem.W.Fast.tw5188523118238478567:Nat:=0
def PySem.W.Fast.tw12466596859407699931:Nat:=0
def PySem.W.Fast.tw5231677631517411240:Nat:=0
def PySem.W.Fast.tw14945949055369650394:Nat:=0
def PySem.W.Fast.tw11322132303400608898:Nat:=0
def PySem.W.Fast.tw4657296316850985693:Nat:=0
def PySem.W.Fast.tw15250780117266218018:Nat:=0
def PySem.W.Fast.tw11748747906724971665:Nat:=0
def PySem.W.Fast.tw8814483957962657352:Nat:=0
def PySem.W.Fast.tw3254853541720865844:Nat:=0
def PySem.W.Fast.tw14025163918493960381:Nat:=0
def PySem.W.Fast.tw12703656702011420223:Nat:=0
def PySem.W.Fast.tw8993070537665332745:Nat:=0
def PySem.W.Fast.tw80597709259224923:Nat:=0
def PySem.W.Fast.tw3867574387488335678:Nat:=0
def PySem.W.Fast.tw7537336687038963469:Nat:=0
def PySem.W.Fast.tw5178012406359819602:Nat:=0
def PySem.W.Fast.tw13449586466488416183:Nat:=0
def PySem.W.Fast.tw11114787006476260224:Nat:=0
def PySem.W.Fast.tw2437350493977549343:Nat:=0
def PySem.W.Fast.tw10770843692283417252:Nat:=0
def PySem.W.Fast.tw4296515058979144056:Nat:=0
def PySem.W.Fast.tw16985431459604577435:Nat:=0
def PySem.W.Fast.tw13021948678698435331:Nat:=0
def PySem.W.Fast.tw4407080734130491865:Nat:=0
def PySem.W.Fast.tw12922509953381065583:Nat:=0
def PySem.W.Fast.tw1036600958009751520:Nat:=0
def PySem.W.Fast.tw12384825420926311154:Nat:=0
def PySem.W.Fast.tw14479914249373664524:Nat:=0
def PySem.W.Fast.tw15729758025032417181:Nat:=0
def PySem.W.Fast.tw12492987106648618676:Nat:=0
open PySem PySem.W PyProof.Rows L2
local macro_rules | `(tactic| walk_at "F")=>`(tactic| (refine' L2.z5 ?l ?c ?k;(case l=>k_is);(case c=>k_is);(case k=>k_is)))
set_option maxRecDepth 100000 in
set_option maxHeartbeats 0 in
theorem PySem.Challenge.cw_slowshift_k46_whole_by_the_desk_holds : PySem.Challenge.rw_slowshift_k46_whole_by_the_desk.Holds := by
 w_on;o_law;z_head;(case hw=>w_witness2)
 k_fill
 refine SW.walkX (fun _=>by kernel_rfl) (K.walk (l:=PySem.Challenge.rw_slowshift_k46_whole_by_the_desk) rfl rfl (fun w h Y=>Y) ?F)
 case F=>
  intro w mg fa h KX G hmg
  refine' K.zZ KX G hmg ?q_Shelf ?pg_Shelf ?hd_Shelf ?po_Shelf ?sa_Shelf ?mk_Shelf ?kc_Shelf ?na_Shelf_mixer ?na_Shelf_rows ?na_Shelf_held ?q_Table ?pg_Table ?hd_Table ?po_Table ?sa_Table ?mk_Table ?kc_Table ?na_Table_mixer ?na_Table_pace ?na_Table_elder ?na_Table_moved ?na_Table_newer ?na_Table_touches ?q_Desk ?pg_Desk ?hd_Desk ?po_Desk ?sa_Desk ?mk_Desk ?kc_Desk ?na_Desk_table ?a0 ?i0 ?u0 ?a1 ?i1 ?u1 ?a2 ?u2 ?a3 ?i3 ?u3 ?a4 ?i4 ?u4 ?a5 ?i5 ?u5 ?a6 ?u6 ?a7 ?u7 ?a8 ?i8 ?u8 ?a9 ?i9 ?u9 ?a10 ?i10 ?u10 ?a11 ?i11 ?u11 ?a12 ?i12 ?u12 ?a13 ?i13 ?u13 ?a14 ?i14 ?u14 ?a15 ?i15 ?u15 ?a16 ?i16 ?u16 ?a17 ?i17 ?u17 ?a18 ?i18 ?u18 ?a19 ?u19 ?a20 ?i20 ?u20 ?a21 ?i21 ?u21 ?a22 ?i22 ?u22 ?a23 ?i23 ?u23 ?a24 ?i24 ?u24 ?a25 ?i25 ?u25 ?a26 ?u26 ?a27 ?u27 ?a28 ?u28 ?a29 ?u29 ?a30 ?u30 ?a31 ?u31 ?a32 ?u32 ?a33 ?u33 ?a34 ?u34 ?a35 ?i35 ?u35 ?a36 ?i36 ?u36 ?a37 ?i37 ?u37 ?a38 ?i38 ?u38 ?a39 ?i39 ?u39 ?a40 ?u40 ?a41 ?u41 ?a42 ?u42 ?a43 ?ll_ ?lm_ ?lk_ ?lo_ ?le11 ?le18 ?le7 ?le9 ?le10 ?lp_ ?le0 ?lb_ ?lc_ ?le1 ?le2 ?a44 ?i44 ?u44 ?a45 ?u45 ?a46 ?u46 ?a47 ?u47 ?a48 ?u48 ?a49 ?u49 ?a50 ?u50 ?a51 ?u51 ?a52 ?i52 ?u52 ?a53 ?u53 ?a54 ?u54 ?a55 ?u55 ?a56 ?u56 ?a57 ?u57 ?a58 ?u58 ?a59 ?u59 ?a60 ?u60 ?a61 ?u61 ?a62 ?u62 ?a63 ?u63 ?cst0 ?cst1 ?cst2 ?cst3 ?cst4 ?cst5 ?cst6 ?cst7 ?ta_SIZES ?tl_SIZES ?ea_ ?eb_ ?ec_ ?ed0 ?ed1 ?ed2 ?ed3 ?blt0 ?blt1 ?blt2 ?blt3 ?blt4 ?blt5 ?blt6 ?blt7 ?blt8 ?blt9 ?blt10 ?blt11 ?blt12 ?blt13
  (case q_Shelf=>k_is)
  (case pg_Shelf=>k_is)
  (case hd_Shelf=>k_is)
  (case po_Shelf=>k_is)
  (case sa_Shelf=>k_is)
  (case mk_Shelf=>k_is)
  (case kc_Shelf=>k_is)
  (case na_Shelf_mixer=>k_is)
  (case na_Shelf_rows=>k_is)
  (case na_Shelf_held=>k_is)
  (case q_Table=>k_is)
  (case pg_Table=>k_is)
  (case hd_Table=>k_is)
  (case po_Table=>k_is)
  (case sa_Table=>k_is)
  (case mk_Table=>k_is)
  (case kc_Table=>k_is)
  (case na_Table_mixer=>k_is)
  (case na_Table_pace=>k_is)
  (case na_Table_elder=>k_is)
  (case na_Table_moved=>k_is)
  (case na_Table_newer=>k_is)
  (case na_Table_touches=>k_is)
  (case q_Desk=>k_is)
  (case pg_Desk=>k_is)
  (case hd_Desk=>k_is)
  (case po_Desk=>k_is)
  (case sa_Desk=>k_is)
  (case mk_Desk=>k_is)
  (case kc_Desk=>k_is)
  (case na_Desk_table=>k_is)
  (case a0=>k_is)
  (case i0=>k_is)
  (case u0=>walk_at "F")
  (case a1=>k_is)
  (case i1=>k_is)
  (case u1=>walk_at "F")
  (case a2=>k_is)
  (case u2=>walk_at "F")
  (case a3=>k_is)
  (case i3=>k_is)
  (case u3=>walk_at "F")
  (case a4=>k_is)
  (case i4=>k_is)
  (case u4=>walk_at "F")
  (case a5=>k_is)
  (case i5=>k_is)
  (case u5=>walk_at "F")
  (case a6=>k_is)
  (case u6=>walk_at "F")
  (case a7=>k_is)
  (case u7=>walk_at "F")
  (case a8=>k_is)
  (case i8=>k_is)
  (case u8=>walk_at "F")
  (case a9=>k_is)
  (case i9=>k_is)
  (case u9=>walk_at "F")
  (case a10=>k_is)
  (case i10=>k_is)
  (case u10=>walk_at "F")
  (case a11=>k_is)
  (case i11=>k_is)
  (case u11=>walk_at "F")
  (case a12=>k_is)
  (case i12=>k_is)
  (case u12=>walk_at "F")
  (case a13=>k_is)
  (case i13=>k_is)
  (case u13=>walk_at "F")
  (case a14=>k_is)
  (case i14=>k_is)
  (case u14=>walk_at "F")
  (case a15=>k_is)
  (case i15=>k_is)
  (case u15=>walk_at "F")
  (case a16=>k_is)
  (case i16=>k_is)
  (case u16=>walk_at "F")
  (case a17=>k_is)
  (case i17=>k_is)
  (case u17=>walk_at "F")
  (case a18=>k_is)
  (case i18=>k_is)
  (case u18=>walk_at "F")
  (case a19=>k_is)
  (case u19=>walk_at "F")
  (case a20=>k_is)
  (case i20=>k_is)
  (case u20=>walk_at "F")
  (case a21=>k_is)
  (case i21=>k_is)
  (case u21=>walk_at "F")
  (case a22=>k_is)
  (case i22=>k_is)
  (case u22=>walk_at "F")
  (case a23=>k_is)
  (case i23=>k_is)
  (case u23=>walk_at "F")
  (case a24=>k_is)
  (case i24=>k_is)
  (case u24=>walk_at "F")
  (case a25=>k_is)
  (case i25=>k_is)
  (case u25=>walk_at "F")
  (case a26=>k_is)
  (case u26=>walk_at "F")
  (case a27=>k_is)
  (case u27=>walk_at "F")
  (case a28=>k_is)
  (case u28=>walk_at "F")
  (case a29=>k_is)
  (case u29=>walk_at "F")
  (case a30=>k_is)
  (case u30=>walk_at "F")
  (case a31=>k_is)
  (case u31=>walk_at "F")
  (case a32=>k_is)
  (case u32=>walk_at "F")
  (case a33=>k_is)
  (case u33=>walk_at "F")
  (case a34=>k_is)
  (case u34=>walk_at "F")
  (case a35=>k_is)
  (case i35=>k_is)
  (case u35=>walk_at "F")
  (case a36=>k_is)
  (case i36=>k_is)
  (case u36=>walk_at "F")
  (case a37=>k_is)
  (case i37=>k_is)
  (case u37=>walk_at "F")
  (case a38=>k_is)
  (case i38=>k_is)
  (case u38=>walk_at "F")
  (case a39=>k_is)
  (case i39=>k_is)
  (case u39=>walk_at "F")
  (case a40=>k_is)
  (case u40=>walk_at "F")
  (case a41=>k_is)
  (case u41=>walk_at "F")
  (case a42=>k_is)
  (case u42=>walk_at "F")
  (case a43=>k_is)
  (case ll_=>k_is)
  (case lm_=>k_is)
  (case lk_=>k_is)
  (case lo_=>k_is)
  (case le11=>exact rfl)
  (case le18=>exact rfl)
  (case le7=>exact rfl)
  (case le9=>exact rfl)
  (case le10=>exact rfl)
  (case lp_=>k_is)
  (case le0=>kernel_rfl)
  (case lb_=>k_is)
  (case lc_=>k_is)
  (case le1=>kernel_rfl)
  (case le2=>kernel_rfl)
  (case a44=>k_is)
  (case i44=>k_is)
  (case u44=>walk_at "F")
  (case a45=>k_is)
  (case u45=>walk_at "F")
  (case a46=>k_is)
  (case u46=>walk_at "F")
  (case a47=>k_is)
  (case u47=>walk_at "F")
  (case a48=>k_is)
  (case u48=>walk_at "F")
  (case a49=>k_is)
  (case u49=>walk_at "F")
  (case a50=>k_is)
  (case u50=>walk_at "F")
  (case a51=>k_is)
  (case u51=>walk_at "F")
  (case a52=>k_is)
  (case i52=>k_is)
  (case u52=>walk_at "F")
  (case a53=>k_is)
  (case u53=>walk_at "F")
  (case a54=>k_is)
  (case u54=>walk_at "F")
  (case a55=>k_is)
  (case u55=>walk_at "F")
  (case a56=>k_is)
  (case u56=>walk_at "F")
  (case a57=>k_is)
  (case u57=>walk_at "F")
  (case a58=>k_is)
  (case u58=>walk_at "F")
  (case a59=>k_is)
  (case u59=>walk_at "F")
  (case a60=>k_is)
  (case u60=>walk_at "F")
  (case a61=>k_is)
  (case u61=>walk_at "F")
  (case a62=>k_is)
  (case u62=>walk_at "F")
  (case a63=>k_is)
  (case u63=>walk_at "F")
  (case cst0=>k_is)
  (case cst1=>k_is)
  (case cst2=>k_is)
  (case cst3=>k_is)
  (case cst4=>k_is)
  (case cst5=>k_is)
  (case cst6=>k_is)
  (case cst7=>k_is)
  (case ta_SIZES=>k_is)
  (case tl_SIZES=>k_is)
  (case ea_=>k_is)
  (case eb_=>k_is)
  (case ec_=>k_is)
  (case ed0=>k_is)
  (case ed1=>k_is)
  (case ed2=>k_is)
  (case ed3=>k_is)
  (case blt0=>k_is)
  (case blt1=>k_is)
  (case blt2=>k_is)
  (case blt3=>k_is)
  (case blt4=>k_is)
  (case blt5=>k_is)
  (case blt6=>k_is)
  (case blt7=>k_is)
  (case blt8=>k_is)
  (case blt9=>k_is)
  (case blt10=>k_is)
  (case blt11=>k_is)
  (case blt12=>k_is)
  (case blt13=>k_is)

