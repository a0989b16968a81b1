import PyProof.Rows.All
import Wide.All
import OpenK.AllK
import Wide.FinOn
import Lean
import PyProof.EqAt
import PyProof.EqKinds
import PyProof.TupleCall
import KE.KLam
import KE.KSortKey
import KE.KSortTup
import KE.KNestM
import PyProof.NeKinds
import PySem.Challenge.RW_roadshare_k42_greatest_of_the_least
open PySem.W (instObj methodObj hideAll hideAll_get of_hideAll lookIn plainGet hasDictIn handedIn plainGet_of isFn plainOver takerIn makesIn emptyDict keepIn kitOne kia_one kitx_list kitx_dict callWith_K methodCall_KW cellsFrom_some fnOf codeIn excIn exmOne kdl_call kdl_dict KeqHits codeHdIn codeHd_of_K nsIn mg_of mg_none_of km_in_of)
abbrev Ya:=@PySem.wpAny_bind
abbrev Yb:=@List.getElem?_eq_getElem
abbrev Yc:=@PySem.wpAny_pure
abbrev Yd:=@Nat.le_refl
abbrev Ye:=@PySem.Heap.lt_size
abbrev Yf:=@List.getElem?_eq_some_iff
abbrev Yg:=@List.length_map
abbrev Yh:=@PySem.Heap.get?_push_of_some
abbrev Yi:=@Nat.le_trans
abbrev Yj:=@List.getElem?_map
abbrev Yk:=@List.mem_map
abbrev Yl:=@List.mem_cons
abbrev Ym:=@Nat.ne_of_lt
abbrev Yn:=@PySem.Heap.get?_push_size
abbrev Yo:=@List.mem_of_getElem?
abbrev Yp:=@List.mem_append
abbrev Yq:=@List.mem_append_right
abbrev Yr:=@List.map_cons
abbrev Ys:=@PySem.PassesOwn.never
abbrev Yt:=@Nat.le_of_lt
abbrev Yu:=@Bool.false_ne_true
abbrev Yv:=@PySem.wpAny_mono
abbrev Yw:=@Nat.lt_of_lt_of_le
abbrev Yx:=@Nat.lt_of_le_of_lt
abbrev Yy:=@List.take_add_one
abbrev Yz:=@List.mem_filter
abbrev YA:=@List.getElem?_append_right
abbrev YB:=@List.mem_singleton
abbrev YC:=@List.getElem?_append_left
abbrev YD:=@Nat.zero_le
abbrev YE:=@List.length_append
abbrev YF:=@Array.getElem?_toList
abbrev YG:=@List.length_take
abbrev YH:=@List.Nodup.length_le_of_subset
abbrev YI:=@Array.length_toList
abbrev YJ:=@List.take_length
abbrev YK:=@Option.some.inj
abbrev YL:=@List.mem_range
abbrev YM:=@List.size_toArray
abbrev YN:=@List.map_append
abbrev YO:=@List.length_cons
abbrev YQ:=@decide_eq_false
abbrev YR:=@Nat.lt_irrefl
abbrev YS:=@PySem.codeAny_mono
abbrev YT:=@PySem.sizeLine_eq
abbrev YU:=@List.getElem?_eq_none
abbrev YV:=@PySem.mem_of_lookup
abbrev YW:=@PySem.wpAny_call_entry
abbrev YX:=@decide_eq_true
abbrev YY:=@Array.getElem?_eq_getElem
abbrev YZ:=@List.mem_cons_of_mem
abbrev Y0:=@List.mem_append_left
abbrev Y1:=@PySem.wpAny_newObj_type
abbrev Y2:=@List.getElem_mem
abbrev Y3:=@PySem.wpAny_holding
abbrev Y4:=@Classical.byContradiction
abbrev Y5:=@List.getElem?_of_mem
abbrev Y6:=@List.map_congr_left
abbrev Y7:=@decide_eq_true_eq
abbrev Y8:=@Nat.lt_succ_of_lt
abbrev Y9:=@Int.toNat_natCast
abbrev Va:=@List.nodup_cons
abbrev Vb:=@List.append_nil
abbrev Vc:=@Bool.eq_iff_iff
abbrev Vd:=@PySem.codeAny_builtin
abbrev Ve:=@Nat.ne_of_gt
abbrev Vf:=@List.map_map
abbrev Vg:=@PySem.wpAny_rule
abbrev Vh:=@Option.map_eq_some_iff
abbrev Vi:=@List.length_filter_le
abbrev Vj:=@PySem.Heap.get?_update_other
abbrev Vk:=@PySem.Around.under_plainId
abbrev Vl:=@List.mem_cons_self
abbrev Vm:=@PySem.wpAny_Call_Name_kw
abbrev Vn:=@List.nodup_append
abbrev Vo:=@PySem.wpAny_truthy_bool
abbrev Vp:=@PySem.wpAny_passesOwn
abbrev Vq:=@Int.add_zero
abbrev Vr:=@Nat.le_succ
abbrev Vs:=@PySem.wpAny_load
abbrev Vt:=@Nat.pow_le_pow_right
abbrev Vu:=@beq_eq_false_iff_ne
abbrev Vv:=@Rat.num_divInt_den
abbrev Vw:=@List.ext_getElem?
abbrev Vx:=@PySem.wpAny_setState_of
abbrev Vy:=@Int.emod_nonneg
abbrev Vz:=@PySem.wpAny_ite_split
abbrev VA:=@List.any_cons
abbrev VB:=@PySem.plainId_quiet
abbrev VC:=@PyProof.Rows.callWith_type1
abbrev VD:=@List.drop_eq_getElem_cons
abbrev VE:=@Int.natAbs_natCast
abbrev VF:=@PySem.wpAny_setEntries_of
abbrev VG:=@of_decide_eq_true
abbrev VH:=@Nat.lt_succ_self
abbrev VI:=@Bool.and_eq_true
abbrev VJ:=@Nat.two_pow_pos
abbrev VL:=@Nat.not_lt_zero
abbrev VM:=@List.of_mem_zip
abbrev VN:=@PySem.wpAny_isInstance
abbrev VO:=@PySem.Heap.size_push
abbrev VP:=@PySem.wpAny_attempt
abbrev VQ:=@Int.gcd_pos_of_ne_zero_right
abbrev VR:=@Array.getD_eq_getD_getElem?
abbrev VS:=@Int.fdiv_eq_ediv_of_nonneg
abbrev VT:=@List.filter_cons_of_neg
abbrev VU:=@PySem.wpAny_callSpecial?_slot
abbrev VV:=@List.take_append_drop
abbrev VW:=@PySem.Heap.get?_update_self
abbrev VX:=@Int.emod_lt_of_pos
abbrev VY:=@PySem.Heap.SameBut.update
abbrev VZ:=@PySem.wpAny_tupleItemsOf
abbrev V1:=@Option.map_some
abbrev V2:=@Nat.div_le_self
abbrev V3:=@PySem.F.plain_list_iadd
abbrev V4:=@List.length_eq_zero_iff
abbrev V5:=@List.filter_cons_of_pos
abbrev V6:=@List.getElem_of_mem
abbrev V7:=@List.getElem?_range
abbrev V8:=@List.filterMap_cons
abbrev V9:=@Int.toNat_of_nonneg
abbrev PySem.VSP:=PySem.Value->PySem.Shared->Prop
set_option Elab.async false
set_option linter.all false
set_option maxRecDepth 100000
namespace L2
open PySem PySem.Spec PyProof.Rows
abbrev Key:=Sum Int Str
def keyIs:Key->Value->Bool
 | .inl k,v=>Value.isInt k v
 | .inr x,v=>Value.isStrOf x v
def keyH(w:World):Key->Int
 | .inl k=>hashInt k
 | .inr x=>hashStr w x
def keyIs_shape:∀ {k:Key}{v:Value},keyIs k v=true->(∃ i t,k=Sum.inl i/\v=Value.int i t)\/(∃ x t,k=Sum.inr x/\v=Value.str x t)
 | .inl i,v,h=>by
  obtain⟨t,e⟩:=Value.isInt_shape (k:=i) (v:=v) h
  exact .inl ⟨i,t,rfl,e⟩
 | .inr x,v,h=>by
  obtain⟨t,e⟩:=Value.isStrOf_shape (x:=x) (v:=v) h
  exact .inr ⟨x,t,rfl,e⟩
theorem keyIs_int(i:Int)(t:Tok):keyIs (.inl i) (.int i t)=true:=by simp [keyIs,Value.isInt]
theorem keyIs_str(x:Str)(t:Tok):keyIs (.inr x) (.str x t)=true:=by simp [keyIs,Value.isStrOf]
def key_ll(a b:Int):decide ((Sum.inl a:Key)=Sum.inl b)=(a == b):=by
 by_cases e:a=b
 ·subst e; simp
 ·have h:¬ (Sum.inl a:Key)=Sum.inl b:=λq=>e (Sum.inl.inj q)
  rw [YQ h]
  exact (Vu.mpr e).symm
def key_rr(a b:Str):decide ((Sum.inr a:Key)=Sum.inr b)=decide (a=b):=by
 by_cases e:a=b
 ·subst e; simp
 ·have h:¬ (Sum.inr a:Key)=Sum.inr b:=λq=>e (Sum.inr.inj q)
  rw [YQ h,YQ e]
def key_lr(a:Int)(b:Str):decide ((Sum.inl a:Key)=Sum.inr b)=false:=YQ (λq=>nomatch q)
def key_rl(a:Str)(b:Int):decide ((Sum.inr a:Key)=Sum.inl b)=false:=YQ (λq=>nomatch q)
def mixKind(prog:Program)(w:World):PySem.KeyKind prog w Key where
 is:=keyIs
 hash:=keyH w
 inj:=λv a b ha hb=>by
  rcases keyIs_shape ha with ⟨i,t,rfl,rfl⟩ | ⟨x,t,rfl,rfl⟩
  ·rcases keyIs_shape hb with ⟨j,u,rfl,e⟩ | ⟨y,u,rfl,e⟩
   ·injection e with e1 _; rw [e1]
   ·exact nomatch e
  ·rcases keyIs_shape hb with ⟨j,u,rfl,e⟩ | ⟨y,u,rfl,e⟩
   ·exact nomatch e
   ·injection e with e1 _; rw [e1]
 byValue:=λk v h=>by
  rcases keyIs_shape h with ⟨i,t,rfl,rfl⟩ | ⟨x,t,rfl,rfl⟩ <;> rfl
 pyHash:=λhv h=>by
  rcases keyIs_shape hv with ⟨i,t,rfl,rfl⟩ | ⟨x,t,rfl,rfl⟩
  ·exact wpAny_pyHash_int h
  ·exact wpAny_pyHash_str h
 eqBool:=λhu hv h=>by
  rcases keyIs_shape hu with ⟨i,t,rfl,rfl⟩ | ⟨x,t,rfl,rfl⟩
  ·rcases keyIs_shape hv with ⟨j,u,rfl,rfl⟩ | ⟨y,u,rfl,rfl⟩
   ·rw [key_ll] at h; exact wpAny_eqBool_int h
   ·rw [key_lr] at h; exact SeqAt.EqAt.int_str i t y u _ _ _ _ h
  ·rcases keyIs_shape hv with ⟨j,u,rfl,rfl⟩ | ⟨y,u,rfl,rfl⟩
   ·rw [key_rl] at h; exact SeqAt.EqAt.str_int x t j u _ _ _ _ h
   ·rw [key_rr] at h; exact wpAny_eqBool_str h
 «strs»:=λk x t v h=>by
  rcases keyIs_shape h with ⟨i,u,rfl,e⟩ | ⟨y,u,rfl,e⟩
  ·exact nomatch e
  ·injection e with e1 _
   subst e1
   cases v <;> rfl
def mixKind_int(prog:Program)(w:World)(i:Int)(t:Tok):(mixKind prog w).is (.inl i) (.int i t)=true:=keyIs_int i t
def mixKind_str(prog:Program)(w:World)(x:Str)(t:Tok):(mixKind prog w).is (.inr x) (.str x t)=true:=keyIs_str x t
inductive V where
 | non | bl (b:Bool) | int (i:Int) | str (x:Str) | byt (b:Array UInt8) | flt (b:UInt64) | ref (a:Addr) | ty (n:String)
 deriving DecidableEq
def RelV:V->Value->Prop
 | .non,u=>u=Value.none
 | .bl b,u=>u=Value.bool b
 | .int i,u=>∃ t,u=Value.int i t
 | .str x,u=>∃ t,u=Value.str x t
 | .byt b,u=>∃ t,u=Value.bytes b t
 | .flt b,u=>∃ t,u=Value.float b t
 | .ref a,u=>u=Value.ref a
 | .ty n,u=>u=Value.type n
abbrev Vals:List V->List Value->Prop:=Paired RelV
variable {us:List Value}
theorem Vals.length{xs:List V}(r:Vals xs us):xs.length=us.length:=Paired.length r
theorem Vals.get:∀ {xs:List V}{us:List Value}{i:Nat}{x:V},Vals xs us->xs[i]?=some x->∃ u,us[i]?=some u/\RelV x u
 | _,_,_,_,.nil,e=>by simp at e
 | _,_,0,_,.cons r _,e=>by simp at e; subst e; exact⟨_,rfl,r⟩
 | _,_,i + 1,x,.cons _ t,e=>by
  obtain⟨u,h1,h2⟩:=Vals.get (i:=i) (x:=x) t (by simpa using e)
  exact⟨u,by simpa using h1,h2⟩
variable {u:Value}
theorem Vals.set{x:V}(r:RelV x u):∀ {xs:List V}{us:List Value}(i:Nat),Vals xs us->Vals (xs.set i x) (us.set i u)
 | _,_,_,.nil=>.nil
 | _,_,0,.cons _ t=>.cons r t
 | _,_,i + 1,.cons q t=>.cons q (Vals.set r i t)
theorem Vals.append:∀ {xs ys:List V}{us ws:List Value},Vals xs us->Vals ys ws->Vals (xs ++ ys) (us ++ ws)
 | _,_,_,_,.nil,s=>s
 | _,_,_,_,.cons r t,s=>.cons r (Vals.append t s)
theorem Vals.take:∀ {xs:List V}{us:List Value}(n:Nat),Vals xs us->Vals (xs.take n) (us.take n)
 | _,_,0,_=>.nil
 | _,_,_ + 1,.nil=>.nil
 | _,_,n + 1,.cons r t=>.cons r (Vals.take n t)
theorem Vals.drop:∀ {xs:List V}{us:List Value}(n:Nat),Vals xs us->Vals (xs.drop n) (us.drop n)
 | _,_,0,r=>r
 | _,_,_ + 1,.nil=>.nil
 | _,_,n + 1,.cons _ t=>Vals.drop n t
def Vals.none_of:∀ {xs:List V}{us:List Value}{i:Nat},Vals xs us->xs[i]?=none->us[i]?=none:=λ{xs us i} r e=>by
 have h1:=r.length
 have h2:xs.length<=i:=List.getElem?_eq_none_iff.mp e
 exact List.getElem?_eq_none_iff.mpr (by omega)
def RelO:Option V->Option Value->Prop
 | some v,some u=>RelV v u
 | none,none=>True
 | _,_=>False
def KV{κ:Type}:List (κ × V)->List (κ × Value)->Prop:=Paired λ(p:κ × V) (q:κ × Value)=>p.1=q.1/\RelV p.2 q.2
def kV:Key->V
 | .inl i=>.int i
 | .inr x=>.str x
inductive HO where
 | lst (xs:List V)
 | tup (xs:List V)
 | dK (kvs:List (Key × V)) | dT (kvs:List (List Key × V))
 | set (S:Int->Bool) (n:Nat)
 | ins (C dx:Addr) (fs:List (Str × V))
 | own (x:Addr)
 | xd (fs:List (Str × V))
 | met (f x:Addr)
 | rng (lo hi:Int)
 | frz (o:Obj) (u:HO)
 | tbl (ps:Array Value)
 | ext (φ:Heap->Prop)
abbrev Hp:=Addr->Option HO
def upd(H:Hp)(a:Addr)(o:HO):Hp:=λb=>if b=a then some o else H b
variable {H:Hp}
theorem upd_same{a:Addr}{o:HO}:upd H a o a=some o:=by unfold upd; rw [if_pos rfl]
theorem upd_ne{a b:Addr}{o:HO}(h:b ≠ a):upd H a o b=H b:=by unfold upd; rw [if_neg h]
def upd_upd{a:Addr}{o u:HO}:upd (upd H a o) a u=upd H a u:=by
 funext b; unfold upd; split <;> rfl
def ne_of{a b:Addr}{o u:HO}(h:H a=some o)(h':H b=some u)(d:o ≠ u):a ≠ b:=by
 intro e; subst e; rw [h] at h'; exact d (YK h')
theorem ne_of_none{a b:Addr}{o:HO}(h:H a=some o)(h':H b=none):a ≠ b:=by
 intro e; subst e; rw [h] at h'; cases h'
section
variable (P:Program)(w:World)
def ObjOk(H:Hp)(h:Heap)(a:Addr):HO->Prop
 | .lst xs=>xs.length<=sizeLine/\∃ (its:List Value) (n:Nat),Vals xs its/\h.get? a=some { cls:=.type "list",data:=.seq its.toArray n }
 | .tup xs=>xs.length<=sizeLine/\∃ its:List Value,Vals xs its/\IsTup h a its.toArray
 | .dK kvs=>kvs.length<=sizeLine/\(a == sysModules)=false/\∃ vs,KV kvs vs/\h.DictOf (mixKind P w) a vs
 | .dT kvs=>kvs.length<=sizeLine/\(a == sysModules)=false/\∃ xs:List (List Key × Addr × Value),
   Paired (λ(p:List Key × V) (q:List Key × Addr × Value)=>p.1=q.1/\H q.2.1=some (.tup (p.1.map kV))/\RelV p.2 q.2.2) kvs xs /\
   ∃ o es ep,h.get? a=some o/\o.ExactDict/\o.data=.dict es ep/\es.toList=xs.map (entryOfKey (tupleKind (mixKind P w)))/\(xs.map (·.1)).Nodup
 | .set S n=>h.SetOf (intKind P w) a S n
 | .ins C dx fs=>H dx=some (.own a)/\fs.length<=1000/\dx ≠ a/\h.get? a=some (instObj C dx) /\
   ∃ mA,h.Ns1 dx mA/\(∀ f,RelO (fs.lookup f) (mA f))/\PySem.Within mA (fs.map (·.1))
 | .own _=>∃ o,h.get? a=some o
 | .xd fs=>∃ mA,h.Ns1 a mA/\∀ f,RelO (fs.lookup f) (mA f)
 | .rng lo hi=>∃ t u v,h.get? a=some { cls:=.type "range",data:=.fields #[.int lo t,.int hi u,.int 1 v] }
 | .frz o u=>h.get? a=some o/\ObjOk H h a u
 | .tbl ps=>∃ qs:Array Value,h.get? a=some { cls:=.none,data:=.fields qs }/\TriplesOk qs.toList/\∀ (pos:Pos) (v:Value),codeAmong pos qs.toList=some v ->
   ∃ (c:Addr) (o:Obj) (vs:Array Value) (q:Str) (t t':Tok),v=.ref c/\H c=some (.frz o (.own a))/\o.data=.fields vs/\vs[1]?=some (.str q t)/\ps[0]?=some (.str q t')
 | .met f x=>h.get? a=some (methodObj (.ref f) (.ref x))
 | .ext φ=>φ h/\(∃ o,h.get? a=some o)/\∀ h1 h2:Heap,φ h1->(∀ o,h1.get? a=some o->h2.get? a=some o)->φ h2
def HOk(H:Hp)(h:Heap):Prop:=∀ a o,H a=some o->ObjOk P w H h a o
end
section
variable {P:Program}{w:World}{H H':Hp}{h h':Heap}{a:Addr}{o:HO}
def ObjOk.lt(x:ObjOk P w H h a o):a < h.objs.size:=by
 cases o with
 | lst xs=>obtain⟨_,_,_,_,e⟩:=x; exact Ye e
 | tup xs=>obtain⟨_,_,_,p⟩:=x; exact p.lt
 | dK kvs=>obtain⟨_,_,_,_,o,_,_,e,_⟩:=x; exact Ye e
 | dT kvs=>obtain⟨_,_,_,_,o,_,_,e,_⟩:=x; exact Ye e
 | set S n=>obtain⟨o,_,_,_,e,_⟩:=x; exact Ye e
 | ins C dx fs=>obtain⟨_,_,_,e,_⟩:=x; exact Ye e
 | own y=>obtain⟨_,e⟩:=x; exact Ye e
 | xd fs=>obtain⟨_,⟨_,_,_,e,_⟩,_⟩:=x; exact Ye e
 | rng lo hi=>obtain⟨_,_,_,e⟩:=x; exact Ye e
 | frz ob u=>obtain⟨e,_⟩:=x; exact Ye e
 | tbl ps=>obtain⟨_,e,_⟩:=x; exact Ye e
 | met f y=>exact Ye (show h.get? a=some _ from x)
 | ext φ=>obtain⟨_,⟨_,e⟩,_⟩:=x; exact Ye e
def Paired.mapP{α β:Type}{F G:α->β->Prop}:∀ {l₁:List α}{l₂:List β},Paired F l₁ l₂->(∀ a b,F a b->G a b)->Paired G l₁ l₂
 | _,_,.nil,_=>.nil
 | _,_,.cons r t,f=>.cons (f _ _ r) (Paired.mapP t f)
theorem ObjOk.stay(x:ObjOk P w H h a o)(k:∀ b u,(b=a\/H b=some (.own a))->h.get? b=some u->h'.get? b=some u)
  (ho:∀ b,H b=some (.own a)->H' b=some (.own a)) (ht:∀ b xs,H b=some (.tup xs)->H' b=some (.tup xs))
  (hf:∀ b o,H b=some (.frz o (.own a))->H' b=some (.frz o (.own a)):=by exact λ_ _ q=>q):ObjOk P w H' h' a o:=by
 induction o with
 | lst xs=>obtain⟨z,its,n,r,e⟩:=x; exact⟨z,its,n,r,k _ _ (.inl rfl) e⟩
 | tup xs=>obtain⟨z,its,r,ob,e,c⟩:=x; exact⟨z,its,r,ob,k _ _ (.inl rfl) e,c⟩
 | dK kvs=>obtain⟨z,y,vs,r,ob,es,ep,e,c⟩:=x; exact⟨z,y,vs,r,ob,es,ep,k _ _ (.inl rfl) e,c⟩
 | dT kvs =>
  obtain⟨z,y,xs,r,ob,es,ep,e,c⟩:=x
  exact⟨z,y,xs,Paired.mapP r λp q z=>⟨z.1,ht _ _ z.2.1,z.2.2⟩,ob,es,ep,k _ _ (.inl rfl) e,c⟩
 | set S n=>obtain⟨ob,es,ep,t,e,c⟩:=x; exact⟨ob,es,ep,t,k _ _ (.inl rfl) e,c⟩
 | ins C dx fs =>
  obtain⟨d,z,ne,e,mA,⟨od,es,ep,e2,c⟩,r⟩:=x
  exact⟨ho _ d,z,ne,k _ _ (.inl rfl) e,mA,⟨od,es,ep,k _ _ (.inr d) e2,c⟩,r⟩
 | own y=>obtain⟨ob,e⟩:=x; exact⟨ob,k _ _ (.inl rfl) e⟩
 | xd fs=>obtain⟨mA,⟨od,es,ep,e,c⟩,r⟩:=x; exact⟨mA,⟨od,es,ep,k _ _ (.inl rfl) e,c⟩,r⟩
 | rng lo hi=>obtain⟨t,u,v,e⟩:=x; exact⟨t,u,v,k _ _ (.inl rfl) e⟩
 | frz ob u ih=>obtain⟨e,q⟩:=x; exact⟨k _ _ (.inl rfl) e,ih q⟩
 | tbl ps =>
  obtain⟨qs,e,t,f⟩:=x
  exact⟨qs,k _ _ (.inl rfl) e,t,λpos v z=>by
   obtain⟨c,o,vs,q,t,t',e1,e2,r⟩:=f pos v z
   exact⟨c,o,vs,q,t,t',e1,hf _ _ e2,r⟩⟩
 | met f y =>
  have e:h.get? a=some (methodObj (.ref f) (.ref y)):=x
  show h'.get? a=some (methodObj (.ref f) (.ref y))
  exact k a _ (.inl rfl) e
 | ext φ=>obtain⟨p,⟨o,e⟩,st⟩:=x; exact⟨st _ _ p λo q=>k _ _ (.inl rfl) q,⟨o,k _ _ (.inl rfl) e⟩,st⟩
def HOk.lt(x:HOk P w H h)(e:H a=some o):a < h.objs.size:=(x a o e).lt
theorem HOk.fresh(x:HOk P w H h)(e:h.objs.size<=a):H a=none:=by
 cases q:H a with
 | none=>rfl
 | some u=>exact absurd (Yw (x.lt q) e) (YR _)
theorem HOk.kept(x:HOk P w H h)(k:∀ b u,h.get? b=some u->h'.get? b=some u):HOk P w H h':=λa o e =>
 (x a o e).stay (λb u _ q=>k b u q) (λ_ q=>q) λ_ _ q=>q
theorem HOk.laid(x:HOk P w H h)(k:∀ b u,h.get? b=some u->h'.get? b=some u)(hp:h.objs.size<=a)(new:ObjOk P w (upd H a o) h' a o):HOk P w (upd H a o) h':=λb u e=>by
 have hn:=x.fresh hp
 by_cases hb:b=a
 ·subst hb; rw [upd_same] at e; cases e; exact new
 ·rw [upd_ne hb] at e
  exact (x b u e).stay (λc v _ q=>k c v q) (λc q=>by rw [upd_ne (ne_of_none q hn)]; exact q) (λc xs q=>by rw [upd_ne (ne_of_none q hn)]; exact q) λc o q=>by rw [upd_ne (ne_of_none q hn)]; exact q
end
def Rd(H:Hp)(a:Addr)(u:HO):Prop:=H a=some u\/∃ o,H a=some (.frz o u)
theorem Rd.of{a:Addr}{u:HO}(h:H a=some u):Rd H a u:=.inl h
variable {P:Program}{w:World}
theorem Rd.ok{h:Heap}{a:Addr}{u:HO}(r:Rd H a u)(x:HOk P w H h):ObjOk P w H h a u:=by
 rcases r with r | ⟨o,r⟩
 ·exact x a u r
 ·obtain⟨_,q⟩:=x a _ r
  exact q
def Mut:Option HO->Prop
 | some (.lst _)=>True
 | some (.dK _)=>True
 | some (.dT _)=>True
 | some (.set _ _)=>True
 | some (.ins _ _ _)=>True
 | some (.ext _)=>True
 | _=>False
section
variable {P:Program}{w:World}{H:Hp}{h h':Heap}{x e:Addr}{o':HO}
def HOk.write(ok:HOk P w H h)(mu:Mut (H x))(he:e=x\/H e=some (.own x))(k:∀ b u,b ≠ e->h.get? b=some u->h'.get? b=some u)(heo:∃ u,h'.get? e=some u)
  (new:ObjOk P w (upd H x o') h' x o'):HOk P w (upd H x o') h':=λb u q=>by
 have nown:∀ c y,H c=some (.own y)->c ≠ x:=λc y r z=>by subst z; rw [r] at mu; exact mu
 have ntup:∀ c xs,H c=some (.tup xs)->c ≠ x:=λc xs r z=>by subst z; rw [r] at mu; exact mu
 by_cases hb:b=x
 ·subst hb; rw [upd_same] at q; cases q; exact new
 ·rw [upd_ne hb] at q
  by_cases hbe:b=e
  ·have q':H b=some (.own x):=by
    rcases he with z | z
    ·exact absurd (hbe.trans z) hb
    ·rw [hbe]; exact z
   rw [q] at q'; cases q'
   obtain⟨v,hv⟩:=heo
   exact⟨v,by rw [hbe]; exact hv⟩
  ·refine (ok b u q).stay (λc v hc r=>k c v ?_ r) (λc r=>by rw [upd_ne (nown c b r)]; exact r) (λc xs r=>by rw [upd_ne (ntup c xs r)]; exact r) λc o r=>by rw [upd_ne λz=>by subst z; rw [r] at mu; exact mu]; exact r
   rcases hc with rfl | hc
   ·exact hbe
   ·rintro rfl
    rcases he with z | z
    ·exact nown c b hc z
    ·rw [hc] at z; cases z; exact hb rfl
end
structure Un(fs ex:List Addr)(H H':Hp)(h h':Heap):Prop where
 keep:∀ b o,h.get? b=some o->H b=none->b ∉ fs->b ∉ ex->h'.get? b=some o
 slot:∀ b o,h.get? b=some o->H b=none->b∈fs->b ∉ ex->∃ sl,h'.get? b=some { o with slots:=sl }
 free:∀ b o,h.get? b=some o->H b=none->b ∉ ex->H' b=none
 there:∀ b o,h.get? b=some o->b ∉ ex->∃ o',h'.get? b=some o'
 tups:∀ b xs,H b=some (.tup xs)->H' b=some (.tup xs)
 frzs:∀ b o u,H b=some (.frz o u)->H' b=some (.frz o u)
 tbls:∀ b ps,H b=some (.tbl ps)->∃ more,H' b=some (.tbl (ps ++ more))
section
variable {fs fs' ex ex':List Addr}{H H1 H2:Hp}{h h1 h2 h':Heap}{a x e:Addr}{o:HO}
theorem Un.any(u:Un fs ex H H1 h h1){b:Addr}{ob:Obj}(q:h.get? b=some ob)(n:H b=none)(hx:b ∉ ex):∃ sl,h1.get? b=some { ob with slots:=sl }:=by
 by_cases hb:b∈fs
 ·exact u.slot b ob q n hb hx
 ·exact⟨ob.slots,u.keep b ob q n hb hx⟩
theorem Un.trans(a:Un fs ex H H1 h h1)(b:Un fs ex H1 H2 h1 h2):Un fs ex H H2 h h2 where
 keep:=λc ob q n hc hx=>b.keep c ob (a.keep c ob q n hc hx) (a.free c ob q n hx) hc hx
 slot:=λc ob q n hc hx=>by
  obtain⟨sl,e1⟩:=a.slot c ob q n hc hx
  obtain⟨sl',e2⟩:=b.slot c _ e1 (a.free c ob q n hx) hc hx
  exact⟨sl',e2⟩
 free:=λc ob q n hx=>by
  obtain⟨o',e1⟩:=a.there c ob q hx
  exact b.free c o' e1 (a.free c ob q n hx) hx
 there:=λc ob q hx=>by
  obtain⟨o',e1⟩:=a.there c ob q hx
  exact b.there c o' e1 hx
 tups:=λc xs q=>b.tups c xs (a.tups c xs q)
 frzs:=λc ob xs q=>b.frzs c ob xs (a.frzs c ob xs q)
 tbls:=λc ps q=>by
  obtain⟨m1,e1⟩:=a.tbls c ps q
  obtain⟨m2,e2⟩:=b.tbls c _ e1
  exact⟨m1 ++ m2,by rw [e2,Array.append_assoc]⟩
theorem Un.kept(k:∀ b u,h.get? b=some u->h'.get? b=some u):Un fs ex H H h h' :=
 ⟨λb ob q _ _ _=>k b ob q,λb ob q _ _ _=>⟨ob.slots,k b ob q⟩,λ_ _ _ n _=>n,λb ob q _=>⟨ob,k b ob q⟩,λ_ _ q=>q,λ_ _ _ q=>q,λ_ ps q=>⟨#[],by rw [q]; simp⟩⟩
def Un.refl:Un fs ex H H h h:=Un.kept λ_ _ q=>q
theorem Un.laid(k:∀ b u,h.get? b=some u->h'.get? b=some u)(hp:h.objs.size<=a)(hn:H a=none):Un fs ex H (upd H a o) h h' where
 keep:=λb u q _ _ _=>k b u q
 slot:=λb u q _ _ _=>⟨u.slots,k b u q⟩
 free:=λb u q n _=>by rw [upd_ne (Ym (Yw (Ye q) hp))]; exact n
 there:=λb u q _=>⟨u,k b u q⟩
 tups:=λb xs q=>by rw [upd_ne (ne_of_none q hn)]; exact q
 frzs:=λb u xs q=>by rw [upd_ne (ne_of_none q hn)]; exact q
 tbls:=λb ps q=>⟨#[],by rw [upd_ne (ne_of_none q hn),q]; simp⟩
def Un.write(mu:Mut (H x))(he:e=x\/H e=some (.own x))(k:∀ b u,b ≠ e->h.get? b=some u->h'.get? b=some u)(heo:∃ u,h'.get? e=some u):Un fs ex H (upd H x o) h h':=by
 have hx:∀ b,H b=none->b ≠ x:=λb n z=>by subst z; rw [n] at mu; exact mu
 have hb:∀ b,H b=none->b ≠ e:=λb n z=>by
  subst z
  rcases he with r | r
  ·exact hx b n r
  ·rw [n] at r; cases r
 have hm:∀ b u,H b=some u->¬ Mut (some u)->b ≠ x:=λb u q nm z=>by subst z; rw [q] at mu; exact nm mu
 refine⟨λb u q n _ _=>k b u (hb b n) q,λb u q n _ _=>⟨u.slots,k b u (hb b n) q⟩,λb u q n _=>by rw [upd_ne (hx b n)]; exact n,λb u q _=>?_,
  λb xs q=>by rw [upd_ne (hm b _ q λz=>z)]; exact q,λb u xs q=>by rw [upd_ne (hm b _ q λz=>z)]; exact q,λb ps q=>⟨#[],by rw [upd_ne (hm b _ q λz=>z),q]; simp⟩⟩
 by_cases hbe:b=e
 ·subst hbe; exact heo
 ·exact⟨u,k b u hbe q⟩
def Un.mono(u:Un fs ex H H1 h h1)(hs:∀ b∈fs,b∈fs')(hx:∀ b∈ex,b∈ex'):Un fs' ex' H H1 h h1 :=
 ⟨λb ob q n hb he=>u.keep b ob q n (λz=>hb (hs b z)) λz=>he (hx b z),λ_ _ q n _ he=>u.any q n λz=>he (hx _ z),λb ob q n he=>u.free b ob q n λz=>he (hx b z),λb ob q he=>u.there b ob q λz=>he (hx b z),u.tups,u.frzs,u.tbls⟩
end
def trk(h:Heap)(H:Hp):List Addr:=(List.range h.objs.size).filter λa=>(H a).isSome
def hidT(h:Heap)(H:Hp):Heap:=hideAll h (trk h H)
theorem hidT_size(h:Heap)(H:Hp):(hidT h H).objs.size=h.objs.size:=PySem.W.hideAll_size _ _
def hidT_get{h:Heap}{b:Addr}{o:Obj}(e:h.get? b=some o)(n:H b=none):(hidT h H).get? b=some o :=
 hideAll_get _ e λhm=>by
  have q:(H b).isSome=true:=(Yz.mp hm).2
  rw [n] at q; simp at q
theorem of_hidT{h:Heap}{b:Addr}{o:Obj}(e:(hidT h H).get? b=some o):h.get? b=some o/\H b=none:=by
 have e':h.get? b=some o:=of_hideAll (trk h H) e
 refine⟨e',?_⟩
 cases q:H b with
 | none=>rfl
 | some x =>
  have hm:b∈trk h H:=List.mem_filter.mpr ⟨List.mem_range.mpr (Heap.lt_size e'),by simp [q]⟩
  have z:(hidT h H).get? b=none:=PySem.W.hideAll_none (trk h H) hm
  rw [z] at e; cases e
def allNews(g h:Heap)(L:Addr):List (Addr × Obj):=(List.range h.objs.size).filterMap λa=>if a=L\/(g.get? a).isSome=true then none else (h.get? a).map λo=>(a,o)
def mem_allNews{g h:Heap}{L a:Addr}{o:Obj}(h1:a ≠ L)(h2:g.get? a=none)(h3:h.get? a=some o):(a,o)∈allNews g h L :=
 List.mem_filterMap.mpr ⟨a,List.mem_range.mpr (Heap.lt_size h3),by simp [h1,h2,h3]⟩
def rest(g h:Heap)(L d:Addr):List (Addr × Obj):=(allNews g h L).filter λp=>decide (p.1 ≠ d)
theorem mem_rest{g h:Heap}{L d a:Addr}{o:Obj}(h1:a ≠ L)(h2:g.get? a=none)(h3:h.get? a=some o)(h4:a ≠ d):(a,o)∈rest g h L d :=
 Yz.mpr ⟨mem_allNews h1 h2 h3,YX h4⟩
structure Mod(K:PySem.W.Frag)(mg:Str->Option Value)(base:Heap):Prop where
 kin:K.In base
 glob:base.Ns mainGlobals mg
 blt:∃ mb,base.Ns builtinsNs mb/\∀ x:Str,x ≠ "__name__"->mb x=bootBuiltins x
 nolimit:base.NoLimit
structure Cx where
 prog:Program
 w:World
 K:PySem.W.Frag
 mg:Str->Option Value
 base:Heap
 A:Around
 N:List Str
 s₀:Shared
 H₀:Hp
 env:Env
 outer:List Env
 stack:List Env
 ex:List Addr
 fn:Str->Bool
 calm:Bool
 pn:List (Addr × Obj)
 xe:VSP
def frs(l:List Env):List Addr:=l.filterMap (·.frame)
abbrev Cx.fs(X:Cx):List Addr:=frs X.outer
def Vis(sc:Scope)(x:Str):Prop:=sc.names.lookup x=some .local\/sc.names.lookup x=some .cell\/sc.names.lookup x=some .free
def Loc(sc:Scope)(x:Str):Prop:=sc.names.lookup x=some .local\/sc.names.lookup x=some .cell
def Look(env:Env)(h:Heap)(m:Str->Option Value)(x:Str)(u:Value):Prop :=
 (env.kindOf x=some .local/\m x=some u)\/((env.kindOf x=some .cell\/env.kindOf x=some .free)/\∃ c,env.cells.lookup x=some c/\h.IsCell c (some u))
structure Cx.Ok(X:Cx):Prop where
 mod:Mod X.K X.mg X.base
 kind:X.env.scope.kind=.function
 glob:X.env.globals=mainGlobals
 blt:X.env.builtins=builtinsNs
 above:X.s₀.heap.objs.size<=X.env.locals
 inj:∀ x y c,X.env.cells.lookup x=some c->X.env.cells.lookup y=some c->x=y
 has:∀ x,(X.env.kindOf x=some .cell\/X.env.kindOf x=some .free)->∃ c,X.env.cells.lookup x=some c
 cab:∀ x c,X.fn x=true->X.env.cells.lookup x=some c->X.s₀.heap.objs.size<=c
 hd:X.calm=true->X.A.handled=none
 frames:X.A.frames=some X.stack
 stk:X.stack=X.outer\/(X.stack=X.env :: X.outer/\X.env.frame=some X.env.locals)
 exf:∀ b∈X.ex,b ≠ X.env.locals/\∀ x c,X.env.cells.lookup x=some c->c ≠ b
 bs:∀ b o,X.base.get? b=some o->X.s₀.heap.get? b=some o/\X.H₀ b=none
 bsz:X.base.objs.size<=X.s₀.heap.objs.size
 noex:∀ b o,X.base.get? b=some o->b ∉ X.ex
 exfs:∀ b∈X.ex,b ∉ X.fs
 funs:X.s₀.heap.FunFrames X.base X.outer
 frf:∀ b∈X.fs,X.H₀ b=none
structure Inv(X:Cx)(pins:List (Addr × Obj))(Z:List (Option V))(H:Hp)(s:Shared):Prop where
 ok:X.Ok
 os:s.os=X.s₀.os
 bare:AllBare s.gens
 base:Un X.fs X.ex X.H₀ H X.s₀.heap s.heap
 loc:∃ m,s.heap.Ns X.env.locals m/\∀ (i:Nat) (x:Str) (v:V),X.N[i]?=some x->Z[i]?=some (some v)->Vis X.env.scope x->∃ u,RelV v u/\Look X.env s.heap m x u
 cell:∀ x c,X.env.cells.lookup x=some c->∃ v,s.heap.IsCell c v
 free:H X.env.locals=none
 freeC:∀ x c,X.env.cells.lookup x=some c->H c=none
 pin:∀ p∈X.pn ++ pins,s.heap.get? p.1=some p.2/\H p.1=none/\p.1 ≠ X.env.locals/\p.1 ∉ X.fs/\∀ v,p.2.data ≠ .cell v
 hok:HOk X.prog X.w H s.heap
 len:Z.length=X.N.length
section
variable {X:Cx}{pins:List (Addr × Obj)}{Z:List (Option V)}{H H':Hp}{s:Shared}{h':Heap}
def Cx.Ok.nofr(ok:X.Ok){b:Addr}{o:Obj}(e:X.base.get? b=some o):b ∉ X.fs:=λhb=>by
 have:=(ok.funs.mem hb).1
 rw [e] at this; cases this
theorem Inv.bs(I:Inv X pins Z H s):∀ b o,X.base.get? b=some o->s.heap.get? b=some o/\H b=none:=λb o e =>
 ⟨I.base.keep b o (I.ok.bs b o e).1 (I.ok.bs b o e).2 (I.ok.nofr e) (I.ok.noex b o e),I.base.free b o (I.ok.bs b o e).1 (I.ok.bs b o e).2 (I.ok.noex b o e)⟩
def Inv.bk(I:Inv X pins Z H s):∀ b o,X.base.get? b=some o->s.heap.get? b=some o:=λb o e=>(I.bs b o e).1
theorem Inv.mod(I:Inv X pins Z H s):Mod X.K X.mg X.base:=I.ok.mod
theorem Inv.kIn(I:Inv X pins Z H s):X.K.In s.heap:=I.ok.mod.kin.keeps I.bk
def Inv.nolimit(I:Inv X pins Z H s):s.heap.NoLimit:=I.ok.mod.nolimit.keeps I.bk
theorem Inv.fr(I:Inv X pins Z H s):∃ m,Fr X.base X.env.locals s.heap m :=
 let ⟨m,hn,_⟩:=I.loc
 ⟨m,hn,I.bk,Yi I.ok.bsz I.ok.above⟩
def Inv.lt(I:Inv X pins Z H s):X.env.locals < s.heap.objs.size:=let ⟨_,hn,_⟩:=I.loc; hn.lt
def Inv.sz(I:Inv X pins Z H s):X.s₀.heap.objs.size<=s.heap.objs.size:=Yi I.ok.above (Yt I.lt)
def Inv.nofs(I:Inv X pins Z H s){a:Addr}(h:s.heap.objs.size<=a):a ∉ X.fs:=λhb=>by
 obtain⟨_,o,ho,_⟩:=I.ok.funs.mem hb
 exact absurd (Yw (Ye ho) (Yi I.sz h)) (YR _)
theorem Inv.cne(I:Inv X pins Z H s):∀ x c,X.env.cells.lookup x=some c->c ≠ X.env.locals:=λx c e z=>by
 obtain⟨v,o,ho,hd⟩:=I.cell x c e
 obtain⟨m,⟨o',es,ep,ho',hd',_⟩,_⟩:=I.loc
 rw [z,ho'] at ho; cases ho; rw [hd'] at hd; cases hd
theorem Inv.funs(I:Inv X pins Z H s):s.heap.FunFrames X.base X.outer:=by
 have all:∀ (l:List Env),(∀ b∈frs l,b∈X.fs)->X.s₀.heap.FunFrames X.base l->s.heap.FunFrames X.base l:=by
  intro l
  induction l with
  | nil=>intro _ _; trivial
  | cons env r ih =>
   intro hs hl
   obtain⟨hk,⟨L,o,hf,hn,ho,hd⟩,hr⟩:=hl
   have hL:L∈X.fs:=hs L (by unfold frs; rw [List.filterMap_cons,hf]; exact List.mem_cons_self)
   obtain⟨sl,e⟩:=I.base.slot L o ho (I.ok.frf L hL) hL λz=>I.ok.exfs L z hL
   exact⟨hk,⟨L,_,hf,hn,e,hd⟩,ih (λb hb=>hs b (by unfold frs; rw [List.filterMap_cons,hf]; exact List.mem_cons_of_mem _ hb)) hr⟩
 exact all X.outer (λ_ hb=>hb) I.ok.funs
def Inv.stack(I:Inv X pins Z H s):s.heap.FunFrames X.base X.stack:=by
 rcases I.ok.stk with e | ⟨e,hf⟩
 ·rw [e]; exact I.funs
 ·rw [e]
  obtain⟨m,hn,_⟩:=I.loc
  refine .cons (by rw [I.ok.kind]; decide) hf hn ?_ I.funs
  exact Heap.get?_none_of_le (Yi I.ok.bsz I.ok.above)
def Inv.stkSub(I:Inv X pins Z H s):∀ b∈frs X.stack,b∈X.env.locals :: X.fs:=λb hb=>by
 rcases I.ok.stk with e | ⟨e,hf⟩
 ·rw [e] at hb; exact YZ _ hb
 ·rw [e] at hb
  unfold frs at hb
  rw [V8,hf] at hb
  exact hb
def Inv.stkFree(I:Inv X pins Z H s):∀ b∈frs X.stack,H b=none:=λb hb=>by
 rcases Yl.mp (I.stkSub b hb) with e | hb
 ·rw [e]; exact I.free
 ·obtain⟨_,o,ho,_⟩:=I.ok.funs.mem hb
  exact I.base.free b o ho (I.ok.frf b hb) λz=>I.ok.exfs b z hb
theorem Inv.step{g':Array GenState}{t':Nat}{d':Drawn}{ch:List Addr}(I:Inv X pins Z H s)
  (hch:∀ b∈ch,(b∈X.ex\/X.s₀.heap.objs.size<=b)/\b ≠ X.env.locals/\(∀ x c,X.env.cells.lookup x=some c->c ≠ b)/\∀ p∈X.pn ++ pins,p.1 ≠ b)
  (keep:∀ b o,b ≠ X.env.locals->b ∉ X.fs->b ∉ ch->s.heap.get? b=some o->H b=none->h'.get? b=some o)
  (slot:∀ b o,b ≠ X.env.locals->b∈X.fs->b ∉ ch->s.heap.get? b=some o->H b=none->∃ sl,h'.get? b=some { o with slots:=sl }) (free:∀ b o,b ∉ ch->s.heap.get? b=some o->H b=none->H' b=none)
  (there:∀ b o,b ∉ ch->s.heap.get? b=some o->∃ o',h'.get? b=some o')
  (tups:∀ b xs,H b=some (.tup xs)->H' b=some (.tup xs)) (frzs:∀ b o u,H b=some (.frz o u)->H' b=some (.frz o u)) (tbls:∀ b ps,H b=some (.tbl ps)->∃ more,H' b=some (.tbl (ps ++ more)))
  (ns:∀ m,s.heap.Ns X.env.locals m->h'.Ns X.env.locals m) (hok:HOk X.prog X.w H' h') (hg:AllBare g') :
  Inv X pins Z H' { s with heap:=h',gens:=g',drawn:=d',toks:=t' }:=by
 have neL:∀ b o,X.s₀.heap.get? b=some o->b ≠ X.env.locals:=λb o e=>Ym (Yw (Ye e) I.ok.above)
 have neC:∀ b o,X.s₀.heap.get? b=some o->b ∉ X.ex->b ∉ ch:=λb o e hx hb=>by
  rcases (hch b hb).1 with z | z
  ·exact hx z
  ·exact absurd (Yw (Ye e) z) (YR _)
 have cellK:∀ x c,X.env.cells.lookup x=some c->∀ v,s.heap.IsCell c v->h'.IsCell c v:=λx c e v ⟨o,ho,hd⟩=>by
  have nch:c ∉ ch:=λz=>(hch c z).2.2.1 x c e rfl
  by_cases hc:c∈X.fs
  ·obtain⟨sl,q⟩:=slot c o (I.cne x c e) hc nch ho (I.freeC x c e)
   exact⟨_,q,hd⟩
  ·exact⟨o,keep c o (I.cne x c e) hc nch ho (I.freeC x c e),hd⟩
 refine⟨I.ok,I.os,hg,⟨λb o e n hb hx=>?_,λb o e n hb hx=>?_,λb o e n hx=>?_,λb o e hx=>?_,λb xs e=>tups b xs (I.base.tups b xs e),λb o xs e=>frzs b o xs (I.base.frzs b o xs e),λb ps e=>?_⟩,?_,λx c e=>?_,?_,λx c e=>?_,λp hp=>?_,hok,I.len⟩
 ·exact keep b o (neL b o e) hb (neC b o e hx) (I.base.keep b o e n hb hx) (I.base.free b o e n hx)
 ·obtain⟨sl,e1⟩:=I.base.slot b o e n hb hx
  obtain⟨sl',e2⟩:=slot b _ (neL b o e) hb (neC b o e hx) e1 (I.base.free b o e n hx)
  exact⟨sl',e2⟩
 ·obtain⟨o',e1⟩:=I.base.there b o e hx
  exact free b o' (neC b o e hx) e1 (I.base.free b o e n hx)
 ·obtain⟨o',e1⟩:=I.base.there b o e hx
  exact there b o' (neC b o e hx) e1
 ·obtain⟨m1,e1⟩:=I.base.tbls b ps e
  obtain⟨m2,e2⟩:=tbls b _ e1
  exact⟨m1 ++ m2,by rw [e2,Array.append_assoc]⟩
 ·obtain⟨m,hn,hl⟩:=I.loc
  refine⟨m,ns m hn,λi x v e1 e2 e3=>?_⟩
  obtain⟨u,r,l⟩:=hl i x v e1 e2 e3
  refine⟨u,r,?_⟩
  rcases l with l | ⟨k,c,e,z⟩
  ·exact .inl l
  ·exact .inr ⟨k,c,e,cellK x c e _ z⟩
 ·obtain⟨v,z⟩:=I.cell x c e
  exact⟨v,cellK x c e v z⟩
 ·obtain⟨m,⟨o,_,_,ho,_⟩,_⟩:=I.loc
  exact free _ o (λz=>(hch _ z).2.1 rfl) ho I.free
 ·obtain⟨v,o,ho,hd⟩:=I.cell x c e
  exact free c o (λz=>(hch c z).2.2.1 x c e rfl) ho (I.freeC x c e)
 ·obtain⟨e,n,ne,nf,d⟩:=I.pin p hp
  have nch:p.1 ∉ ch:=λz=>(hch p.1 z).2.2.2 p hp rfl
  exact⟨keep p.1 p.2 ne nf nch e n,free p.1 p.2 nch e n,ne,nf,d⟩
theorem Inv.un{t':Nat}(I:Inv X pins Z H s)(u:Un X.fs [] H H' s.heap h')(hok:HOk X.prog X.w H' h'):Inv X pins Z H' { s with heap:=h',toks:=t' }:=by
 obtain⟨m,⟨o,es,ep,ho,r⟩,_⟩:=id I.loc
 obtain⟨sl,hL⟩:=u.any ho I.free (by simp)
 exact I.step (g':=s.gens) (d':=s.drawn) (ch:=[]) (λ_ z=>nomatch z) (λb o _ hb _ e n=>u.keep b o e n hb (by simp)) (λb o _ hb _ e n=>u.slot b o e n hb (by simp)) (λb o _ e n=>u.free b o e n (by simp)) (λb o _ e=>u.there b o e (by simp)) u.tups u.frzs u.tbls (λm' hm=>by
  obtain⟨o',es',ep',ho',r'⟩:=hm
  rw [ho] at ho'; cases ho'
  exact⟨_,es',ep',hL,r'⟩) hok I.bare
theorem Inv.call{g':Array GenState}{t':Nat}{d':Drawn}{ch:List Addr}(I:Inv X pins Z H s)(u:Un (frs X.stack) ch H H' s.heap h')(hok:HOk X.prog X.w H' h')(hg:AllBare g')
  (hch:∀ b∈ch,(b∈X.ex\/X.s₀.heap.objs.size<=b)/\b ≠ X.env.locals/\(∀ x c,X.env.cells.lookup x=some c->c ≠ b)/\∀ p∈X.pn ++ pins,p.1 ≠ b) :
  Inv X pins Z H' { s with heap:=h',gens:=g',drawn:=d',toks:=t' }:=by
 obtain⟨m,⟨o,es,ep,ho,r⟩,_⟩:=id I.loc
 obtain⟨sl,hL⟩:=u.any ho I.free λz=>(hch _ z).2.1 rfl
 exact I.step (ch:=ch) hch (λb o hL hb hc e n=>u.keep b o e n (λz=>(Yl.mp (I.stkSub b z)).elim hL hb) hc) (λb o _ _ hc e n=>u.any e n hc) (λb o hc e n=>u.free b o e n hc) (λb o hc e=>u.there b o e hc) u.tups u.frzs u.tbls (λm' hm=>by
  obtain⟨o',es',ep',ho',r'⟩:=hm
  rw [ho] at ho'; cases ho'
  exact⟨_,es',ep',hL,r'⟩) hok hg
theorem Inv.turned{t':Nat}{it:Addr}(I:Inv X pins Z H s)(k:∀ b o,b ≠ it->s.heap.get? b=some o->h'.get? b=some o)(hn:H it=none)(hL:it ≠ X.env.locals)
  (h1:it∈X.ex\/X.s₀.heap.objs.size<=it) (h2:∀ x c,X.env.cells.lookup x=some c->c ≠ it) (h3:∀ p∈X.pn ++ pins,p.1 ≠ it):Inv X pins Z H { s with heap:=h',toks:=t' }:=by
 have nit:∀ b u,H b=some u->b ≠ it:=λb u e z=>by rw [z,hn] at e; cases e
 refine I.step (g':=s.gens) (d':=s.drawn) (ch:=[it]) (λb hb=>?_) (λb o _ _ hc e _=>k b o (λz=>hc (by simp [z])) e) (λb o _ _ hc e _=>⟨o.slots,k b o (λz=>hc (by simp [z])) e⟩) (λ_ _ _ _ n=>n)
  (λb o hc e=>⟨o,k b o (λz=>hc (by simp [z])) e⟩) (λ_ _ e=>e) (λ_ _ _ e=>e) (λb ps e=>⟨#[],by rw [e]; simp⟩) (λm hm=>?_) (λb u e=>?_) I.bare
 ·have e:b=it:=by simpa using hb
  subst e
  exact⟨h1,hL,h2,h3⟩
 ·obtain⟨o,es,ep,ho,r⟩:=hm
  exact⟨o,es,ep,k _ o (Ne.symm hL) ho,r⟩
 ·refine (I.hok b u e).stay (λc v hc q=>k c v ?_ q) (λ_ q=>q) λ_ _ q=>q
  rcases hc with z | z
  ·rw [z]; exact nit b u e
  ·exact nit c _ z
theorem Inv.tok(I:Inv X pins Z H s)(t:Nat):Inv X pins Z H { s with toks:=t }:=I.un (h':=s.heap) (t':=t) Un.refl I.hok
theorem Inv.kept{t':Nat}(I:Inv X pins Z H s)(k:∀ b u,s.heap.get? b=some u->h'.get? b=some u):Inv X pins Z H { s with heap:=h',toks:=t' }:=I.un (Un.kept k) (I.hok.kept k)
theorem Inv.laid{a:Addr}{o:HO}{t':Nat}(I:Inv X pins Z H s)(k:∀ b u,s.heap.get? b=some u->h'.get? b=some u)(hp:s.heap.objs.size<=a)(new:ObjOk X.prog X.w (upd H a o) h' a o) :
  Inv X pins Z (upd H a o) { s with heap:=h',toks:=t' }:=I.un (Un.laid k hp (I.hok.fresh hp)) (I.hok.laid k hp new)
def Inv.write{x e:Addr}{o:HO}{t':Nat}(I:Inv X pins Z H s)(mu:Mut (H x))(he:e=x\/H e=some (.own x))(k:∀ b u,b ≠ e->s.heap.get? b=some u->h'.get? b=some u)(heo:∃ u,h'.get? e=some u)
  (new:ObjOk X.prog X.w (upd H x o) h' x o):Inv X pins Z (upd H x o) { s with heap:=h',toks:=t' }:=I.un (Un.write mu he k heo) (I.hok.write mu he k heo new)
def Inv.pins_of{pins':List (Addr × Obj)}(I:Inv X pins Z H s)(h:∀ p∈pins',s.heap.get? p.1=some p.2/\H p.1=none/\p.1 ≠ X.env.locals/\p.1 ∉ X.fs/\∀ v,p.2.data ≠ .cell v):Inv X pins' Z H s :=
 ⟨I.ok,I.os,I.bare,I.base,I.loc,I.cell,I.free,I.freeC,λp hp=>(Yp.mp hp).elim (λz=>I.pin p (Y0 _ z)) (h p),I.hok,I.len⟩
def nodup_ix{N:List Str}(hN:N.Nodup){i j:Nat}{x:Str}(a:N[i]?=some x)(b:N[j]?=some x):i=j:=by
 obtain⟨h1,e1⟩:=Yf.mp a
 obtain⟨h2,e2⟩:=Yf.mp b
 exact (List.getElem_inj hN).mp (e1.trans e2.symm)
def store_ok2{M:Model}{A:Around}{E:VSP}{i:Nat}{x:Str}{v:V}{Q:Unit->Shared->Prop}(I:Inv X pins Z H s)(hN:X.N.Nodup)(hi:X.N[i]?=some x)(hx:Loc X.env.scope x)(r:RelV v u)
  (h:∀ s',Inv X pins (Z.set i (some v)) H s'->(∃ a,Heap.SameBut a s.heap s'.heap/\(a=X.env.locals\/X.env.cells.lookup x=some a))->Q () s') (hf:X.fn x=true\/X.env.scope.names.lookup x=some .local:=by first | exact .inl rfl | exact .inr rfl | assumption):wpAny M A (storeName X.env x u) Q E s:=by
 obtain⟨m,hn,hl⟩:=id I.loc
 have hcls:(X.env.scope.kind == .class || (X.env.scope.kind == .module && X.env.locals != X.env.globals))=false:=by rw [I.ok.kind]; rfl
 have hiZ:i < Z.length:=by rw [I.len]; exact (Yf.mp hi).1
 have cne:=I.cne
 have tracked:∀ {a:Addr}{h':Heap},(∃ o,s.heap.get? a=some o/\H a=none)->Heap.SameBut a s.heap h'->HOk X.prog X.w H h':=λ{a h'} ha hs b ob e=>by
  obtain⟨_,_,hfree⟩:=ha
  refine (I.hok b ob e).stay (λc w' hc q=>(hs.2 c ?_).trans q) (λ_ q=>q) λ_ _ q=>q
  rintro rfl
  rcases hc with rfl | hc
  ·rw [hfree] at e; cases e
  ·rw [hfree] at hc; cases hc
 rcases hx with hk | hk
 ·refine wpAny_storeName_local hk hn (λh' hn' hs=>?_) hcls
  obtain⟨oL,_,_,hoL,_⟩:=id hn
  refine h _ ⟨I.ok,I.os,I.bare,⟨λb o e n hb hx=>?_,λb o e n hb hx=>?_,I.base.free,λb o e hx=>?_,I.base.tups,I.base.frzs,I.base.tbls⟩,⟨_,hn',λj y v' e1 e2 e3=>?_⟩,λy c e=>?_,I.free,I.freeC,λp hp=>?_,tracked ⟨oL,hoL,I.free⟩ hs,by simpa using I.len⟩ ⟨_,hs,.inl rfl⟩
  ·exact (hs.2 b (Ym (Yw (Ye e) I.ok.above))).trans (I.base.keep b o e n hb hx)
  ·obtain⟨sl,e1⟩:=I.base.slot b o e n hb hx
   exact⟨sl,(hs.2 b (Ym (Yw (Ye e) I.ok.above))).trans e1⟩
  ·obtain⟨o',e1⟩:=I.base.there b o e hx
   exact⟨o',(hs.2 b (Ym (Yw (Ye e) I.ok.above))).trans e1⟩
  ·by_cases hj:j=i
   ·subst hj
    rw [hi] at e1; cases e1
    rw [List.getElem?_set_self hiZ] at e2
    cases e2
    exact⟨u,r,.inl ⟨hk,by simp⟩⟩
   ·rw [List.getElem?_set_ne (Ne.symm hj)] at e2
    obtain⟨u',r',q⟩:=hl j y v' e1 e2 e3
    refine⟨u',r',?_⟩
    rcases q with ⟨k,e⟩ | ⟨k,c,e,z⟩
    ·refine .inl ⟨k,?_⟩
     have:y ≠ x:=λe=>hj (nodup_ix hN e1 (e ▸ hi))
     simp [this,e]
    ·exact .inr ⟨k,c,e,z.sameBut hs (cne y c e)⟩
  ·obtain⟨w',z⟩:=I.cell y c e
   exact⟨w',z.sameBut hs (cne y c e)⟩
  ·obtain⟨e,n,ne,nf,d⟩:=I.pin p hp
   exact⟨(hs.2 p.1 ne).trans e,n,ne,nf,d⟩
 ·have hfn:X.fn x=true:=by
   rcases hf with z | z
   ·exact z
   ·rw [z] at hk; cases hk
  obtain⟨c,hc⟩:=I.ok.has x (.inl hk)
  obtain⟨w',z⟩:=I.cell x c hc
  refine wpAny_storeName_cell I.ok.kind hk hc z (λh' hc' hs=>?_)
  obtain⟨oc,hoc,hocd⟩:=id z
  refine h { s with heap:=h' } ⟨I.ok,I.os,I.bare,⟨λb o e n hb hx=>?_,λb o e n hb hx=>?_,I.base.free,λb o e hx=>?_,I.base.tups,I.base.frzs,I.base.tbls⟩,⟨m,hn.sameBut hs (Ne.symm (cne x c hc)),λj y v' e1 e2 e3=>?_⟩,λy c' e=>?_,I.free,I.freeC,λp hp=>?_,tracked ⟨oc,hoc,I.freeC x c hc⟩ hs,by simpa using I.len⟩ ⟨c,hs,.inr hc⟩
  ·exact (hs.2 b (Ym (Yw (Ye e) (I.ok.cab x c hfn hc)))).trans (I.base.keep b o e n hb hx)
  ·obtain⟨sl,e1⟩:=I.base.slot b o e n hb hx
   exact⟨sl,(hs.2 b (Ym (Yw (Ye e) (I.ok.cab x c hfn hc)))).trans e1⟩
  ·obtain⟨o',e1⟩:=I.base.there b o e hx
   exact⟨o',(hs.2 b (Ym (Yw (Ye e) (I.ok.cab x c hfn hc)))).trans e1⟩
  ·by_cases hj:j=i
   ·subst hj
    rw [hi] at e1; cases e1
    rw [List.getElem?_set_self hiZ] at e2
    cases e2
    exact⟨u,r,.inr ⟨.inl hk,c,hc,hc'⟩⟩
   ·rw [List.getElem?_set_ne (Ne.symm hj)] at e2
    obtain⟨u',r',q⟩:=hl j y v' e1 e2 e3
    refine⟨u',r',?_⟩
    rcases q with q | ⟨k,c',e,z'⟩
    ·exact .inl q
    ·refine .inr ⟨k,c',e,z'.sameBut hs ?_⟩
     rintro rfl
     exact hj (nodup_ix hN e1 (I.ok.inj _ _ _ e hc ▸ hi))
  ·by_cases hcc:c'=c
   ·subst hcc; exact⟨_,hc'⟩
   ·obtain⟨w2,z2⟩:=I.cell y c' e
    exact⟨w2,z2.sameBut hs hcc⟩
  ·obtain⟨e,n,ne,nf,d⟩:=I.pin p hp
   refine⟨(hs.2 p.1 ?_).trans e,n,ne,nf,d⟩
   intro q
   rw [q,hoc] at e
   have q':oc=p.2:=YK e
   exact d w' (by rw [<- q']; exact hocd)
def store_ok{M:Model}{A:Around}{E:VSP}{i:Nat}{x:Str}{v:V}{Q:Unit->Shared->Prop}(I:Inv X pins Z H s)(hN:X.N.Nodup)(hi:X.N[i]?=some x)(hx:Loc X.env.scope x)(r:RelV v u)
  (h:∀ s',Inv X pins (Z.set i (some v)) H s'->Q () s') (hf:X.fn x=true\/X.env.scope.names.lookup x=some .local:=by first | exact .inl rfl | exact .inr rfl | assumption):wpAny M A (storeName X.env x u) Q E s :=
 store_ok2 I hN hi hx r (λs' I' _=>h s' I') hf
def Inv.call'{s':Shared}{ch:List Addr}(I:Inv X pins Z H s)(ho:s'.os=s.os)(u:Un (frs X.stack) ch H H' s.heap s'.heap)(hok:HOk X.prog X.w H' s'.heap)(hg:AllBare s'.gens)
  (hch:∀ b∈ch,(b∈X.ex\/X.s₀.heap.objs.size<=b)/\b ≠ X.env.locals/\(∀ x c,X.env.cells.lookup x=some c->c ≠ b)/\∀ p∈X.pn ++ pins,p.1 ≠ b):Inv X pins Z H' s':=by
 obtain⟨h',g',d',t',o'⟩:=s'
 have e:o'=s.os:=ho
 subst e
 exact I.call (g':=g') (t':=t') (d':=d') u hok hg hch
end
abbrev XK:=Value->Option Addr->Hp->Prop
abbrev St:=List (Option V)
abbrev VK:=V->Hp->Prop
abbrev TE:=St->Hp->VK->Prop
abbrev TT:=St->Hp->(Bool->Hp->Prop)->Prop
abbrev TA:=St->Hp->(List V->Hp->Prop)->Prop
structure Ends where
 nx:St->Hp->Prop
 rt:VK
 bk:St->Hp->Prop:=λ_ _=>False
 ct:St->Hp->Prop:=λ_ _=>False
abbrev TS:=Ends->St->Hp->Prop
def EP(X:Cx)(pins:List (Addr × Obj))(Z:St)(Q:VK)(u:Value)(s':Shared):Prop:=∃ v H',Inv X pins Z H' s'/\RelV v u/\Q v H'
def TP(X:Cx)(pins:List (Addr × Obj))(Z:St)(Q:Bool->Hp->Prop)(b:Bool)(s':Shared):Prop:=∃ H',Inv X pins Z H' s'/\Q b H'
def AP(X:Cx)(pins:List (Addr × Obj))(Z:St)(Q:List V->Hp->Prop)(us:List Value)(s':Shared):Prop:=∃ vs H',Inv X pins Z H' s'/\Vals vs us/\Q vs H'
def SP(X:Cx)(pins:List (Addr × Obj))(D:Ends)(f:Flow)(s':Shared):Prop :=
 match f with
 | .next=>∃ Z' H',Inv X pins Z' H' s'/\D.nx Z' H'
 | .brk=>∃ Z' H',Inv X pins Z' H' s'/\D.bk Z' H'
 | .cont=>∃ Z' H',Inv X pins Z' H' s'/\D.ct Z' H'
 | .ret u=>∃ v Z' H',Inv X pins Z' H' s'/\RelV v u/\D.rt v H'
def PE(X:Cx)(e:Expr)(t:TE):Prop :=
 ∀ (pins:List (Addr × Obj)) (s:Shared) (Z:St) (H:Hp) (Q:VK),Inv X pins Z H s->t Z H Q->wpAny (model X.prog X.w) X.A (eval e X.env) (EP X pins Z Q) X.xe s
def PT(X:Cx)(e:Expr)(t:TT):Prop :=
 ∀ (pins:List (Addr × Obj)) (s:Shared) (Z:St) (H:Hp) (Q:Bool->Hp->Prop),Inv X pins Z H s->t Z H Q->wpAny (model X.prog X.w) X.A (isTrue e X.env (eval e X.env)) (TP X pins Z Q) X.xe s
def PW(X:Cx)(e:Expr)(t:TT):Prop :=
 ∀ (whole:Sem Value) (pins:List (Addr × Obj)) (s:Shared) (Z:St) (H:Hp) (Q:Bool->Hp->Prop),Inv X pins Z H s->t Z H Q->wpAny (model X.prog X.w) X.A (isTrue e X.env whole) (TP X pins Z Q) X.xe s
def PW.pt{X:Cx}{e:Expr}{t:TT}(h:PW X e t):PT X e t:=h _
def PA(X:Cx)(es:List Expr)(t:TA):Prop :=
 ∀ (pos:Pos) (pins:List (Addr × Obj)) (s:Shared) (Z:St) (H:Hp) (Q:List V->Hp->Prop),Inv X pins Z H s->t Z H Q->wpAny (model X.prog X.w) X.A (spliced (backTo pos (starEach es X.env))) (AP X pins Z Q) X.xe s
def PS(X:Cx)(st:Stmt)(t:TS):Prop :=
 ∀ (pins:List (Addr × Obj)) (s:Shared) (Z:St) (H:Hp) (D:Ends),Inv X pins Z H s->t D Z H->wpAny (model X.prog X.w) X.A (exec st X.env) (SP X pins D) X.xe s
def PSs(X:Cx)(st:List Stmt)(t:TS):Prop :=
 ∀ (pins:List (Addr × Obj)) (s:Shared) (Z:St) (H:Hp) (D:Ends),Inv X pins Z H s->t D Z H->wpAny (model X.prog X.w) X.A (execs st X.env) (SP X pins D) X.xe s
variable {A:Around}{E:VSP}{s:Shared}
def thn{α:Type}{t:Sem α}{Q Q':α->Shared->Prop}{M:Model}(h:wpAny M A t Q E s)(hQ:∀ a s,Q a s->Q' a s):wpAny M A t Q' E s:=Yv h hQ λ_ _ x=>x
section
variable {X:Cx}
def tVar(i:Nat):TE:=λZ H Q=>∃ v,Z[i]?=some (some v)/\Q v H
def tC(v:V):TE:=λ_ H Q=>Q v H
def pe_var{i:Nat}{x:Str}{pos:Pos}(hN:X.N[i]?=some x)(hv:Vis X.env.scope x)(hd:(x == ("__debug__":Str))=false:=by decide)(hcd:(x == ("__classdict__":Str))=false:=by decide):PE X (.Name x pos) (tVar i):=by
 intro pins s Z H Q I h
 obtain⟨v,e,h⟩:=h
 obtain⟨m,hn,hl⟩:=I.loc
 obtain⟨u,r,l⟩:=hl i x v hN e hv
 have fin:EP X pins Z Q u s:=⟨v,H,I,r,h⟩
 rcases l with ⟨hk,hm⟩ | ⟨hk,c,hc,hcell⟩
 ·exact wpAny_Name (wpAny_loadName_local I.ok.kind hk hn hm fin) hd
 ·rcases hk with hk | hk
  ·exact wpAny_Name (wpAny_loadName_cell I.ok.kind hk hc hcell fin) hd
  ·exact wpAny_Name (wpAny_loadName_free I.ok.kind hk hc hcell fin hcd) hd
def pe_int{i j pos}:PE X (.Constant (.int i) j pos) (tC (.int i)):=λ_ _ _ H _ I h=>wpAny_Constant_int ⟨.int i,H,I.tok _,⟨_,rfl⟩,h⟩
def pe_bl{b j pos}:PE X (.Constant (.bool b) j pos) (tC (.bl b)):=λ_ _ _ H _ I h=>Constant_bool ⟨.bl b,H,I,rfl,h⟩
def pe_non{j pos}:PE X (.Constant .none j pos) (tC .non):=λ_ _ _ H _ I h=>Constant_none ⟨.non,H,I,rfl,h⟩
def pe_str{x j pos}:PE X (.Constant (.str x) j pos) (tC (.str x)):=λ_ _ _ H _ I h=>Calls.Constant_str ⟨.str x,H,I.tok _,⟨_,rfl⟩,h⟩
def Gl(X:Cx)(x:Str):Prop:=X.env.kindOf x=some .globalImplicit
def ld_glob{pins:List (Addr × Obj)}{Z:St}{x:Str}{pos:Pos}{Q:VSP}(I:Inv X pins Z H s)(hg:Gl X x)(hm:X.mg x=some u)(h:Q u s)
  (hd:(x == ("__debug__":Str))=false:=by decide):wpAny (model X.prog X.w) X.A (eval (.Name x pos) X.env) Q E s :=
 Calls.Name_function_global I.ok.kind hg (Calls.loadGlobal_global (by rw [I.ok.glob]; exact I.mod.glob.keeps I.bk) hm h) hd
def ld_blt{pins:List (Addr × Obj)}{Z:St}{x:Str}{pos:Pos}{Q:VSP}(I:Inv X pins Z H s)(hg:Gl X x)(hm:X.mg x=none)(hv:bootBuiltins x=some u)(h:Q u s)
  (hn:x ≠ "__name__":=by decide) (hd:(x == ("__debug__":Str))=false:=by decide):wpAny (model X.prog X.w) X.A (eval (.Name x pos) X.env) Q E s:=by
 obtain⟨mb,h1,h2⟩:=I.mod.blt
 exact Calls.Name_function_global I.ok.kind hg (Calls.loadGlobal_builtin (by rw [I.ok.glob]; exact I.mod.glob.keeps I.bk) hm (by rw [I.ok.blt]; exact h1.keeps I.bk) ((h2 x hn).trans hv) h) hd
def pe_glob{x:Str}{v:V}{pos:Pos}(hg:Gl X x)(hm:X.mg x=some u)(r:RelV v u)(hd:(x == ("__debug__":Str))=false:=by decide):PE X (.Name x pos) (tC v) :=
 λ_ _ _ H _ I h=>ld_glob I hg hm ⟨v,H,I,r,h⟩ hd
def pe_bltn{x:Str}{v:V}{pos:Pos}(hg:Gl X x)(hm:X.mg x=none)(hv:bootBuiltins x=some u)(r:RelV v u)(hn:x ≠ "__name__":=by decide)(hd:(x == ("__debug__":Str))=false:=by decide):PE X (.Name x pos) (tC v) :=
 λ_ _ _ H _ I h=>ld_blt I hg hm hv ⟨v,H,I,r,h⟩ hn hd
variable {a b:Expr}{ta tb:TE}{pos:Pos}
def tB(t:TE):TT:=λZ H Q=>t Z H λx H1=>∃ c,x=.bl c/\Q c H1
def pt_val{e:Expr}{t:TE}(h:PE X e t)(he:∀ whole,isTrue e X.env whole=(do let v <- whole; standAt e.pos; holding [v] (truthy v)):=by intro _; rfl):PT X e (tB t):=by
 intro pins s Z H Q I hw
 refine isTrue_plain (thn (h pins s Z H _ I hw) λv s1 ⟨x,H1,I1,r1,q1⟩=>?_) (he _)
 obtain⟨d,rfl,q⟩:=q1
 cases r1
 exact Vo ⟨H1,I1,q⟩
variable {tA tB':TT}{rest:List Expr}
def tAnd(t u:TT):TT:=λZ H Q=>t Z H λc H1=>if c=true then u Z H1 Q else Q false H1
def tOr(t u:TT):TT:=λZ H Q=>t Z H λc H1=>if c=true then Q true H1 else u Z H1 Q
def tNot(t:TT):TT:=λZ H Q=>t Z H λc H1=>Q (!c) H1
def pw_or1(ha:PT X a tA):PW X (.BoolOp .Or [a] pos) tA:=by
 intro wh pins s Z H Q I h
 refine isTrue_or (thn (ha pins s Z H Q I h) λc s1 e=>?_)
 cases c with
 | false=>exact isTrue_or_nil e
 | true=>exact e
def pw_or(ha:PT X a tA)(hb:PW X (.BoolOp .Or (b :: rest) pos) tB'):PW X (.BoolOp .Or (a :: b :: rest) pos) (tOr tA tB'):=by
 intro wh pins s Z H Q I h
 refine isTrue_or (thn (ha pins s Z H _ I h) λc s1 ⟨H1,I1,q1⟩=>?_)
 cases c with
 | true=>exact⟨H1,I1,q1⟩
 | false=>exact hb wh pins s1 Z H1 Q I1 q1
def pt_not(ha:PT X a tA):PT X (.UnaryOp .Not a pos) (tNot tA):=by
 intro pins s Z H Q I h
 exact isTrue_not (ha pins s Z H (λc H1=>Q (!c) H1) I h)
def tAndV(ta tb:TE):TE:=λZ H Q=>ta Z H λx H1=>∃ c,x=.bl c/\if c=true then tb Z H1 Q else Q (.bl false) H1
def tOrV(ta tb:TE):TE:=λZ H Q=>ta Z H λx H1=>∃ c,x=.bl c/\if c=true then Q (.bl true) H1 else tb Z H1 Q
def tNotV(ta:TE):TE:=λZ H Q=>ta Z H λx H1=>∃ c,x=.bl c/\Q (.bl (!c)) H1
def pe_one{op}{t:TE}(h:PE X a t):PE X (.BoolOp op [a] pos) t:=λpins s Z H Q I hw=>BoolOp_one (h pins s Z H Q I hw)
def pe_and(ha:PE X a ta)(hb:PE X (.BoolOp .And (b :: rest) pos) tb):PE X (.BoolOp .And (a :: b :: rest) pos) (tAndV ta tb):=by
 intro pins s Z H Q I h
 refine BoolOp_and (thn (ha pins s Z H _ I h) λv s1 ⟨x,H1,I1,r1,q1⟩=>?_)
 obtain⟨c,rfl,q1⟩:=q1
 cases r1
 refine Vo ?_
 cases c with
 | true=>exact hb pins s1 Z H1 Q I1 q1
 | false=>exact⟨.bl false,H1,I1,rfl,q1⟩
def pe_not(ha:PE X a ta):PE X (.UnaryOp .Not a pos) (tNotV ta):=by
 intro pins s Z H Q I h
 refine UnaryOp_ (thn (ha pins s Z H _ I h) λv s1 ⟨x,H1,I1,r1,q1⟩=>?_)
 obtain⟨c,rfl,q1⟩:=q1
 cases r1
 exact not_of (Vo ⟨.bl (!c),H1,I1,rfl,q1⟩)
def tIf(t:TT)(ta tb:TE):TE:=λZ H Q=>t Z H λc H1=>if c=true then ta Z H1 Q else tb Z H1 Q
end
def SqL(K:PySem.W.Frag)(H:Hp)(a:Addr)(xs:List V):Prop :=
 Rd H a (.lst xs) \/
  ∃ (o:Obj) (its:Array Value) (n:Nat),K.lookup a=some o/\o.cls=.type "list"/\o.dict=none/\o.data=.seq its n/\its.size<=sizeLine/\Vals xs its.toList
def SqT(K:PySem.W.Frag)(H:Hp)(a:Addr)(xs:List V):Prop :=
 Rd H a (.tup xs) \/
  ∃ (o:Obj) (its:Array Value) (n:Nat),K.lookup a=some o/\o.cls=.type "tuple"/\o.data=.seq its n/\its.size<=sizeLine/\Vals xs its.toList
def absV:Value->Option V
 | .none=>some .non
 | .bool b=>some (.bl b)
 | .int i _=>some (.int i)
 | .str x _=>some (.str x)
 | .bytes b _=>some (.byt b)
 | .float b _=>some (.flt b)
 | .ref a=>some (.ref a)
 | .type n=>some (.ty n)
 | _=>none
def RelV.abs{x:V}(r:RelV x u):absV u=some x:=by
 cases x with
 | non=>cases r; rfl
 | bl _=>cases r; rfl
 | int _=>obtain⟨t,rfl⟩:=r; rfl
 | str _=>obtain⟨t,rfl⟩:=r; rfl
 | byt _=>obtain⟨t,rfl⟩:=r; rfl
 | flt _=>obtain⟨t,rfl⟩:=r; rfl
 | ref _=>cases r; rfl
 | ty _=>cases r; rfl
def RelV.inj{x y:V}(r:RelV x u)(q:RelV y u):x=y:=YK (r.abs.symm.trans q.abs)
def Vals.inj:∀ {xs ys:List V}{us:List Value},Vals xs us->Vals ys us->xs=ys
 | _,_,_,.nil,.nil=>rfl
 | _,_,_,.cons r t,.cons r' t'=>by rw [r.inj r',Vals.inj t t']
section
variable {X:Cx}{pins:List (Addr × Obj)}{Z:St}{H:Hp}{s:Shared}{a:Addr}{xs ys:List V}
theorem SqL.of{K:PySem.W.Frag}(h:H a=some (.lst xs)):SqL K H a xs:=.inl (.inl h)
theorem SqT.of{K:PySem.W.Frag}(h:H a=some (.tup xs)):SqT K H a xs:=.inl (.inl h)
theorem Inv.list(I:Inv X pins Z H s)(h:SqL X.K H a xs):∃ its:List Value,Vals xs its/\PlainL s.heap a its.toArray/\xs.length<=sizeLine:=by
 rcases h with h | ⟨o,its,n,hk,hc,hd,hs,hz,r⟩
 ·obtain⟨z,its,n,r,e⟩:=h.ok I.hok
  exact⟨its,r,⟨_,n,e,rfl,rfl,rfl⟩,z⟩
 ·refine⟨its.toList,r,⟨o,n,I.kIn a o hk,hc,hd,by simpa using hs⟩,?_⟩
  have e:=r.length
  simp only [Array.length_toList] at e
  omega
theorem Inv.tuple(I:Inv X pins Z H s)(h:SqT X.K H a xs):∃ its:List Value,Vals xs its/\IsTup s.heap a its.toArray/\xs.length<=sizeLine:=by
 rcases h with h | ⟨o,its,n,hk,hc,hs,hz,r⟩
 ·obtain⟨z,its,r,p⟩:=h.ok I.hok
  exact⟨its,r,p,z⟩
 ·refine⟨its.toList,r,⟨o,I.kIn a o hk,hc,n,by simpa using hs⟩,?_⟩
  have e:=r.length
  simp only [Array.length_toList] at e
  omega
def Inv.list_inj(I:Inv X pins Z H s)(h:SqL X.K H a xs)(h':SqL X.K H a ys):xs=ys:=by
 obtain⟨its,r,⟨o,n,e,_,_,d⟩,_⟩:=I.list h
 obtain⟨its',r',⟨o',n',e',_,_,d'⟩,_⟩:=I.list h'
 rw [e] at e'; cases e'
 rw [d] at d'
 injection d' with d1 _
 have:its=its':=by simpa using congrArg Array.toList d1
 subst this
 exact r.inj r'
end
abbrev Cx.wish(X:Cx)(E:VSP):Cx:={ X with xe:=E }
abbrev Cx.nox(X:Cx):Cx:=X.wish λ_ _=>False
def Cx.Ok.wish{X:Cx}(ok:X.Ok)(E:VSP):(X.wish E).Ok :=
 ⟨ok.mod,ok.kind,ok.glob,ok.blt,ok.above,ok.inj,ok.has,ok.cab,ok.hd,ok.frames,ok.stk,ok.exf,ok.bs,ok.bsz,ok.noex,ok.exfs,ok.funs,ok.frf⟩
def Cx.Ok.unwish{X:Cx}(ok:(X.wish E).Ok):X.Ok :=
 ⟨ok.mod,ok.kind,ok.glob,ok.blt,ok.above,ok.inj,ok.has,ok.cab,ok.hd,ok.frames,ok.stk,ok.exf,ok.bs,ok.bsz,ok.noex,ok.exfs,ok.funs,ok.frf⟩
section
variable {X:Cx}{pins:List (Addr × Obj)}{Z:St}{H:Hp}{s:Shared}{E:VSP}
def Inv.wish(I:Inv X pins Z H s)(E:VSP):Inv (X.wish E) pins Z H s:=⟨I.ok.wish E,I.os,I.bare,I.base,I.loc,I.cell,I.free,I.freeC,I.pin,I.hok,I.len⟩
def Inv.unwish(I:Inv (X.wish E) pins Z H s):Inv X pins Z H s:=⟨I.ok.unwish,I.os,I.bare,I.base,I.loc,I.cell,I.free,I.freeC,I.pin,I.hok,I.len⟩
def SP.unwish{D:Ends}{f:Flow}{s':Shared}(h:SP (X.wish E) pins D f s'):SP X pins D f s':=by
 cases f with
 | next=>obtain⟨Z',H',I,q⟩:=h; exact⟨Z',H',I.unwish,q⟩
 | brk=>obtain⟨Z',H',I,q⟩:=h; exact⟨Z',H',I.unwish,q⟩
 | cont=>obtain⟨Z',H',I,q⟩:=h; exact⟨Z',H',I.unwish,q⟩
 | ret u=>obtain⟨v,Z',H',I,r,q⟩:=h; exact⟨v,Z',H',I.unwish,r,q⟩
def PE.nox{e:Expr}{t:TE}(h:PE X.nox e t):PE X e t:=λpins s Z H Q I hw =>
 Yv (h pins s Z H Q (I.wish _) hw) (λ_ _ ⟨v,H',I',r,q⟩=>⟨v,H',I'.unwish,r,q⟩) λ_ _ z=>False.elim z
def PT.nox{e:Expr}{t:TT}(h:PT X.nox e t):PT X e t:=λpins s Z H Q I hw =>
 Yv (h pins s Z H Q (I.wish _) hw) (λ_ _ ⟨H',I',q⟩=>⟨H',I'.unwish,q⟩) λ_ _ z=>False.elim z
def PSs.nox{st:List Stmt}{t:TS}(h:PSs X.nox st t):PSs X st t:=λpins s Z H D I hw =>
 Yv (h pins s Z H D (I.wish _) hw) (λ_ _ q=>q.unwish) λ_ _ z=>False.elim z
end
section
variable {X:Cx}{st:Stmt}{rest:List Stmt}{t u:TS}{e:Expr}{te:TE}{pos:Pos}
def tNext:TS:=λD Z H=>D.nx Z H
def tSeq(t u:TS):TS:=λD Z H=>t { D with nx:=u D } Z H
def pss_nil:PSs X [] tNext:=λ_ _ Z H _ I h=>wpAny_execs_nil ⟨Z,H,I,h⟩
def pss_cons(h1:PS X st t)(h2:PSs X rest u):PSs X (st :: rest) (tSeq t u):=by
 intro pins s Z H D I h
 refine wpAny_execs_cons (thn (h1 pins s Z H { D with nx:=u D } I h) λf s1 q=>?_)
 cases f with
 | next =>
  obtain⟨Z',H',I',q⟩:=q
  exact h2 pins s1 Z' H' D I' q
 | ret v=>exact q
 | brk=>exact q
 | cont=>exact q
def pss_one(h1:PS X st t):PSs X [st] t:=by
 intro pins s Z H D I h
 refine wpAny_execs_cons (thn (h1 pins s Z H D I h) λf s1 q=>?_)
 cases f with
 | next=>exact wpAny_execs_nil q
 | ret v=>exact q
 | brk=>exact q
 | cont=>exact q
theorem Inv.quiet{pins:List (Addr × Obj)}{Z:St}(I:Inv X pins Z H s):interactive X.env=false:=by simp [interactive,I.ok.kind]
def tDrop(te:TE):TS:=λD Z H=>te Z H λ_ H1=>D.nx Z H1
def ps_expr(he:PE X e te)(hs:swapsWith e none pos.line X.env=pure false:=by rfl):PS X (.Expr e pos) (tDrop te):=by
 intro pins s Z H D I h
 exact wpAny_Expr_any (thn (he pins s Z H _ I h) λv s1 ⟨x,H1,I1,r1,q1⟩=>⟨Z,H1,I1,q1⟩) I.quiet hs
def tRet(te:TE):TS:=λD Z H=>te Z H D.rt
def ps_ret(he:PE X e te):PS X (.Return (some e) pos) (tRet te):=by
 intro pins s Z H D I h
 exact wpAny_Return_some (thn (he pins s Z H _ I h) λv s1 ⟨x,H1,I1,r1,q1⟩=>⟨x,Z,H1,I1,r1,q1⟩)
def tRetN:TS:=λD _ H=>D.rt .non H
def tIfS(c:TT)(t u:TS):TS:=λD Z H=>c Z H λb H1=>if b=true then t D Z H1 else u D Z H1
def ps_if{c:Expr}{a b:List Stmt}{tc:TT}(hc:PT X c tc)(ha:PSs X a t)(hb:PSs X b u):PS X (.If c a b pos) (tIfS tc t u):=by
 intro pins s Z H D I h
 refine wpAny_If (thn (hc pins s Z H _ I h) λd s1 ⟨H1,I1,q1⟩=>?_)
 cases d with
 | true=>exact ha pins s1 Z H1 D I1 q1
 | false=>exact hb pins s1 Z H1 D I1 q1
def tNever:TS:=λ_ _ _=>False
def ps_never:PS X st tNever:=λ_ _ _ _ _ _ h=>h.elim
end
abbrev TG:=V->St->Hp->(St->Hp->Prop)->Prop
abbrev TGs:=List V->St->Hp->(St->Hp->Prop)->Prop
def PG(X:Cx)(target:Expr)(t:TG):Prop :=
 ∀ (pins:List (Addr × Obj)) (s:Shared) (Z:St) (H:Hp) (v:V) (u:Value) (Q:St->Hp->Prop),Inv X pins Z H s->RelV v u->t v Z H Q ->
  wpAny (model X.prog X.w) X.A (assign target X.env u) (λ_ s'=>∃ Z' H',Inv X pins Z' H' s'/\Q Z' H') X.xe s
def PGs(X:Cx)(ts:List Expr)(t:TGs):Prop :=
 ∀ (pins:List (Addr × Obj)) (s:Shared) (Z:St) (H:Hp) (vs:List V) (us:List Value) (Q:St->Hp->Prop),Inv X pins Z H s->Vals vs us->t vs Z H Q ->
  wpAny (model X.prog X.w) X.A (assignInOrder ((assignEach ts X.env).map (·.2)) us) (λ_ s'=>∃ Z' H',Inv X pins Z' H' s'/\Q Z' H') X.xe s
abbrev TSet:=V->V->V->Hp->(Hp->Prop)->Prop
def PSet(X:Cx)(t:TSet):Prop :=
 ∀ (pins:List (Addr × Obj)) (s:Shared) (Z:St) (H:Hp) (o i v:V) (ov iv u:Value) (Q:Hp->Prop),Inv X pins Z H s->RelV o ov->RelV i iv->RelV v u->t o i v H Q ->
  wpAny (model X.prog X.w) X.A (setItem ov iv u) (λ_ s'=>∃ H',Inv X pins Z H' s'/\Q H') X.xe s
abbrev TIp:=V->V->Hp->VK->Prop
def PIp(X:Cx)(op:Operator)(t:TIp):Prop :=
 ∀ (pins:List (Addr × Obj)) (s:Shared) (Z:St) (H:Hp) (x y:V) (v u:Value) (Q:VK),Inv X pins Z H s->RelV x v->RelV y u->t x y H Q ->
  wpAny (model X.prog X.w) X.A (inplaceOp op v u) (EP X pins Z Q) X.xe s
section
variable {X:Cx}{pos:Pos}
def gName(i:Nat):TG:=λv Z H Q=>Q (Z.set i (some v)) H
def pg_name{i:Nat}{x:Str}(hN:X.N.Nodup)(hi:X.N[i]?=some x)(hx:Loc X.env.scope x)(hf:X.fn x=true\/X.env.scope.names.lookup x=some .local:=by first | exact .inl rfl | exact .inr rfl | assumption):PG X (.Name x pos) (gName i):=by
 intro pins s Z H v u Q I r h
 exact wpAny_assign_Name (store_ok I hN hi hx r (λs' I'=>⟨_,H,I',h⟩) hf)
def gNil:TGs:=λvs Z H Q=>vs=[]/\Q Z H
def gCons(t:TG)(u:TGs):TGs:=λvs Z H Q=>∃ v r,vs=v :: r/\t v Z H λZ' H'=>u r Z' H' Q
def pgs_nil:PGs X [] gNil:=by
 intro pins s Z H vs us Q I r h
 obtain⟨e,h⟩:=h
 subst e
 cases r
 exact assignInOrder_nil ⟨Z,H,I,h⟩
def pgs_cons{e:Expr}{es:List Expr}{t:TG}{u:TGs}(h1:PG X e t)(h2:PGs X es u)
  (hs:(assignEach (e :: es) X.env).map (·.2)=assign e X.env :: (assignEach es X.env).map (·.2):=by rfl):PGs X (e :: es) (gCons t u):=by
 intro pins s Z H vs us Q I r h
 obtain⟨v,vr,e1,h⟩:=h
 subst e1
 cases r with
 | cons r rr =>
  rw [hs]
  refine assignInOrder_cons (thn (h1 pins s Z H _ _ _ I r h) λ_ s1 ⟨Z1,H1,I1,q1⟩=>?_)
  exact h2 pins s1 Z1 H1 _ _ Q I1 rr q1
def gTup(K:PySem.W.Frag)(n:Nat)(t:TGs):TG:=λv Z H Q=>∃ a xs,v=.ref a/\SqT K H a xs/\xs.length=n/\t xs Z H Q
def pg_tup{es:List Expr}{k:Nat}{t:TGs}{n:Nat}(hc:X.calm=true)(h:PGs X es t)
  (hn:(assignEach es X.env).length=n:=by rfl) (hst:(assignEach es X.env).findIdx? (·.1)=none:=by rfl):PG X (.Tuple es k pos) (gTup X.K n t):=by
 intro pins s Z H v u Q I r hw
 obtain⟨a,xs,e1,hq,hl,hw⟩:=hw
 subst e1
 cases r
 obtain⟨its,rv,ht,hz⟩:=I.tuple hq
 refine assign_Tuple_tuple (I.ok.hd hc) ht (by simp [hn,<- hl,rv.length]) hst λh' hx=>?_
 have I1:Inv X pins Z H { s with heap:=h' }:=I.kept (t':=s.toks) λb o e=>hx b o (Ym (Ye e)) e
 exact h pins _ Z H xs _ Q I1 (by simpa using rv) hw
def gSub(to ti:TE)(t:TSet):TG:=λv Z H Q=>to Z H λo H1=>ti Z H1 λi H2=>t o i v H2 λH3=>Q Z H3
def tAsg(te:TE)(g:TG):TS:=λD Z H=>te Z H λx H1=>g x Z H1 D.nx
def ps_set{i:Nat}{x:Str}{e:Expr}{te:TE}{pos':Pos}(hN:X.N.Nodup)(hi:X.N[i]?=some x)(hx:Loc X.env.scope x)(he:PE X e te)(hs:swapsWith e (some (.Name x pos')) pos.line X.env=pure false:=by rfl)(hf:X.fn x=true\/X.env.scope.names.lookup x=some .local:=by first | exact .inl rfl | exact .inr rfl | assumption) :
  PS X (.Assign [.Name x pos'] e pos) (tAsg te (gName i)):=by
 intro pins s Z H D I h
 refine wpAny_Assign_Name (thn (he pins s Z H _ I h) λv s1 ⟨y,H1,I1,r1,q1⟩=>?_) hs
 exact store_ok I1 hN hi hx r1 (λs2 I2=>⟨_,H1,I2,q1⟩) hf
def tPar(i j:Nat)(ta:TA):TS:=λD Z H=>ta Z H λvs H1=>∃ v w,vs=[v,w]/\D.nx ((Z.set i (some v)).set j (some w)) H1
def ps_par{i j:Nat}{x y:Str}{a b:Expr}{ta:TA}{px py pt:Pos}{kt k2 pt2}(hc:X.calm=true)(hN:X.N.Nodup)(hi:X.N[i]?=some x)(hj:X.N[j]?=some y)(hij:i ≠ j)
  (hx:X.env.scope.names.lookup x=some .local) (hy:X.env.scope.names.lookup y=some .local) (ha:PA X [a,b] ta)
  (hw:swappedStores [.Tuple [.Name x px,.Name y py] kt pt] (.Tuple [a,b] k2 pt2) X.env=pure (some [x,y]))
  (hs:swapsWithSole [.Tuple [.Name x px,.Name y py] kt pt] (.Tuple [a,b] k2 pt2) pos.line X.env=pure false:=by rfl) :
  PS X (.Assign [.Tuple [.Name x px,.Name y py] kt pt] (.Tuple [a,b] k2 pt2) pos) (tPar i j ta):=by
 intro pins s Z H D I h
 rw [exec_Assign_arm]
 refine Ya (wpAny_standAt ?_)
 rw [hs]
 refine Ya (Yc ?_)
 rw [if_neg (by decide)]
 refine Ya (Tuple_ (thn (ha _ pins s Z H _ I h) λus s1 ⟨vs,H1,I1,r1,q1⟩=>?_))
 obtain⟨v,w,e1,q1⟩:=q1
 subst e1
 obtain⟨u1,u2,rfl,rv,rw'⟩:∃ u1 u2,us=[u1,u2]/\RelV v u1/\RelV w u2:=by
  cases r1 with
  | cons p q =>
   cases q with
   | cons p' q' =>
    cases q'
    exact⟨_,_,rfl,p,p'⟩
 refine Y1 ?_ (by show 2<=sizeLine; decide)
 have I2:Inv X pins Z H1 { s1 with heap:=s1.heap.push { cls:=.type "tuple",data:=.seq [u1,u2].toArray } }:=I1.kept (t':=s1.toks) λb o e=>Yh _ e
 rw [hw]
 refine Ya (Yc ?_)
 show wpAny (model X.prog X.w) X.A (do rule "assign.swapped-stores"; let items <- unpackItems (.ref s1.heap.objs.size) 2 none; assignInOrder [λv=>bindName X.env y v,λv=>bindName X.env x v] items.reverse; pure Flow.next) _ _ _
 refine Ya (Vg (Ya (unpackItems_tuple (items:=#[u1,u2]) (I.ok.hd hc) (IsTup.new s1.heap _) λh' hx'=>?_)))
 have I3:=I2.kept (h':=h') (t':=s1.toks) λb o e=>hx' b o (Ym (Ye e)) e
 show wpAny _ _ (assignInOrder [λv=>bindName X.env y v,λv=>bindName X.env x v] [u2,u1] >>= λ_=>pure Flow.next) _ _ _
 refine Ya (assignInOrder_cons (wpAny_bindName (store_ok I3 hN hj (.inl hy) rw' (λs2 I4=>?_) (.inr hy))))
 refine assignInOrder_cons (wpAny_bindName (store_ok I4 hN hi (.inl hx) rv (λs3 I5=>assignInOrder_nil (Yc ?_)) (.inr hx)))
 rw [List.set_comm _ _ (Ne.symm hij)] at I5
 exact⟨_,H1,I5,q1⟩
def tAugS(to ti te:TE)(tget:V->V->Hp->VK->Prop)(tip:TIp)(tset:TSet):TS:=λD Z H=>to Z H λo H1=>ti Z H1 λi H2=>tget o i H2 λx H3=>te Z H3 λy H4=>tip x y H4 λz H5=>tset o i z H5 λH6=>D.nx Z H6
def PGet(X:Cx)(t:V->V->Hp->VK->Prop):Prop :=
 ∀ (pins:List (Addr × Obj)) (s:Shared) (Z:St) (H:Hp) (o i:V) (ov iv:Value) (Q:VK),Inv X pins Z H s->RelV o ov->RelV i iv->t o i H Q ->
  wpAny (model X.prog X.w) X.A (getItem ov iv) (EP X pins Z Q) X.xe s
def ps_augS{o i e:Expr}{to ti te:TE}{tget:V->V->Hp->VK->Prop}{tip:TIp}{tset:TSet}{op:Operator}{tpos:Pos}(ho:PE X o to)(hi:PE X i ti)(hg:PGet X tget)(he:PE X e te)(hp:PIp X op tip)(hs:PSet X tset)
  (ha:∀ ov iv new,augStore i ov iv new=(do holding [new,ov,iv] (setItem ov iv new); release [new,ov,iv] []; pure .next):=by intros; rfl):PS X (.AugAssign (.Subscript o i tpos) op e pos) (tAugS to ti te tget tip tset):=by
 intro pins s Z H D I h
 refine wpAny_AugAssign_SubscriptAny (thn (ho pins s Z H _ I h) λov s1 ⟨x1,H1,I1,r1,q1⟩=>?_) ha
 refine thn (hi pins s1 Z H1 _ I1 q1) λiv s2 ⟨x2,H2,I2,r2,q2⟩=>?_
 refine thn (hg pins s2 Z H2 x1 x2 ov iv _ I2 r1 r2 q2) λold s3 ⟨x3,H3,I3,r3,q3⟩=>?_
 refine thn (he pins s3 Z H3 _ I3 q3) λv s4 ⟨x4,H4,I4,r4,q4⟩=>?_
 refine thn (hp pins s4 Z H4 x3 x4 old v _ I4 r3 r4 q4) λnew s5 ⟨x5,H5,I5,r5,q5⟩=>?_
 exact thn (hs pins s5 Z H5 x1 x2 x5 ov iv new _ I5 r1 r2 r5 q5) λ_ s6 ⟨H6,I6,q6⟩=>⟨Z,H6,I6,q6⟩
def ipI(f:Int->Int->Int):TIp:=λx y H Q=>∃ i j,x=.int i/\y=.int j/\Q (.int (f i j)) H
def ip_add:PIp X .Add (ipI λi j=>i + j):=by
 intro pins s Z H x y v u Q I r1 r2 h
 obtain⟨i,j,e1,e2,q⟩:=h
 subst e1; subst e2
 obtain⟨t,rfl⟩:=r1
 obtain⟨t',rfl⟩:=r2
 exact iadd_int ⟨.int _,H,I.tok _,⟨_,rfl⟩,q⟩
def tWhile(c:TT)(tb:TS):TS:=λD Z H=>∃ W:Nat->St->Hp->Prop,(∃ m,W m Z H)/\∀ m Z H,W m Z H ->
 c Z H λb H1=>if b=true then ∃ N:St->Hp->Prop,(∀ Z' H',N Z' H'->∃ m',m' < m/\W m' Z' H')/\tb { D with nx:=N,ct:=N,bk:=D.nx } Z H1 else D.nx Z H1
def ps_while{c:Expr}{body:List Stmt}{tc:TT}{tb:TS}(hp:PassesOwn (model X.prog X.w) X.A X.env X.xe)(hc:PT X c tc)(hb:PSs X body tb):PS X (.While c body [] pos) (tWhile tc tb):=by
 intro pins s Z H D I h
 obtain⟨W,⟨m0,w0⟩,turn⟩:=h
 refine wpAny_While (codeAny_whileLoop (λn s'=>∃ Z' H',Inv X pins Z' H' s'/\W n Z' H') ?_ m0 ⟨Z,H,I,w0⟩)
 rintro n s1 ⟨Z1,H1,I1,w1⟩
 refine Vp hp (thn (hc pins s1 Z1 H1 _ I1 (turn n Z1 H1 w1)) λb s2 ⟨H2,I2,q2⟩=>?_)
 cases b with
 | true =>
  obtain⟨N,hN,q2⟩:=q2
  rw [if_pos rfl]
  refine Vp hp (thn (hb pins s2 Z1 H2 _ I2 q2) λf s3 q3=>?_)
  cases f with
  | next =>
   obtain⟨Z3,H3,I3,n3⟩:=q3
   obtain⟨m',hm,w3⟩:=hN Z3 H3 n3
   exact⟨m',hm,Z3,H3,I3,w3⟩
  | cont =>
   obtain⟨Z3,H3,I3,n3⟩:=q3
   obtain⟨m',hm,w3⟩:=hN Z3 H3 n3
   exact⟨m',hm,Z3,H3,I3,w3⟩
  | brk=>exact q3
  | ret v=>exact q3
 | false =>
  rw [if_neg Yu]
  exact wpAny_execs_nil ⟨Z1,H2,I2,q2⟩
end
structure It where
 go:Nat->Hp->Prop
 yld:Nat->Hp->V->Hp->Prop
 stop:Nat->Hp->Prop
def FpOk(X:Cx)(pins:List (Addr × Obj))(H:Hp)(b:Addr):Prop :=
 H b=none/\b ≠ X.env.locals/\b ∉ X.fs/\(b∈X.ex\/X.s₀.heap.objs.size<=b)/\(∀ x c,X.env.cells.lookup x=some c->c ≠ b)/\∀ p∈X.pn ++ pins,p.1 ≠ b
variable {pins:List (Addr × Obj)}{Z:St}
def Inv.fpOk{X:Cx}{H H':Hp}{b:Addr}(I:Inv X pins Z H s)(hb:s.heap.objs.size<=b)(hn:H' b=none):FpOk X pins H' b:=by
 refine⟨hn,Ve (Yw I.lt hb),I.nofs hb,.inr (Yi I.sz hb),λx c e z=>?_,λp hp z=>?_⟩
 ·obtain⟨v,q⟩:=I.cell x c e
  exact absurd (Yw q.lt (by rw [z]; exact hb)) (YR _)
 ·exact absurd (Yw (Ye (I.pin p hp).1) (by rw [z]; exact hb)) (YR _)
structure Turn(P:Program)(w:World)(K:PySem.W.Frag)(tg:Expr)(J:It)(fp:List Addr)(it:Addr)(tn:Nat->Heap->Prop):Prop where
 mem:it∈fp
 obj:∀ i h,tn i h->∀ b∈fp,∃ o,h.get? b=some o/\∀ v,o.data ≠ .cell v
 keep:∀ i h h',tn i h->(∀ b∈fp,∀ o,h.get? b=some o->h'.get? b=some o)->tn i h'
 item:∀ (X:Cx),X.prog=P->X.w=w->X.K=K->X.calm=true->∀ (i:Nat) (pins:List (Addr × Obj)) (s:Shared) (Z:St) (H:Hp) (E:VSP),Inv X pins Z H s->(∀ b∈fp,FpOk X pins H b)->tn i s.heap->J.go i H ->
  wpAny (model P w) X.A (pyNext (.ref it)) (λr s1=>∃ u,r=some u /\
   wpAny (model P w) X.A (letOwnedTupleGo tg (.ref it) u) (λ_ s2=>∃ x H',Inv X pins Z H' s2/\RelV x u/\J.yld i H x H'/\tn (i + 1) s2.heap/\∀ b∈fp,H' b=none) E s1) E s
 done:∀ (X:Cx),X.prog=P->X.w=w->X.K=K->X.calm=true->∀ (i:Nat) (pins:List (Addr × Obj)) (s:Shared) (Z:St) (H:Hp) (E:VSP),Inv X pins Z H s->(∀ b∈fp,FpOk X pins H b)->tn i s.heap->J.stop i H ->
  wpAny (model P w) X.A (pyNext (.ref it)) (λr s1=>r=none/\Inv X pins Z H s1) E s
 self:∀ (A:Around) (i:Nat) (s:Shared) (Q:VSP) (E:VSP),tn i s.heap->Q (.ref it) s->wpAny (model P w) A (pyIter (.ref it)) Q E s
abbrev TI:=St->Hp->(It->Hp->Prop)->Prop
def PIE(X:Cx)(pins:List (Addr × Obj))(Z:St)(tg:Expr)(R:It->Hp->Prop)(itv:Value)(s2:Shared):Prop :=
 ∃ (it:Addr) (fp:List Addr) (tn:Nat->Heap->Prop) (J:It) (H':Hp),itv=.ref it/\Inv X pins Z H' s2/\Turn X.prog X.w X.K tg J fp it tn/\tn 0 s2.heap/\(∀ b∈fp,FpOk X pins H' b)/\R J H'
def PI(X:Cx)(tg iter:Expr)(wi:TI):Prop :=
 ∀ (pins:List (Addr × Obj)) (s:Shared) (Z:St) (H:Hp) (R:It->Hp->Prop),Inv X pins Z H s->wi Z H R ->
  wpAny (model X.prog X.w) X.A (eval iter X.env) (λv s1=>wpAny (model X.prog X.w) X.A (pyIter v) (PIE X pins Z tg R) X.xe s1) X.xe s
variable {Q:Unit->Shared->Prop}
def go_of{M:Model}{tg:Expr}{it:Addr}{o:Obj}{n:String}{vs:Array Value}(ho:s.heap.get? it=some o)(hc:o.cls=.type n)(hd:o.data=.fields vs)
    (hn:["enumerate","zip","dict_itemiterator","dict_reverseitemiterator","odict_iterator","itertools.zip_longest","itertools.pairwise"].contains n=false) (hQ:Q () s):wpAny M A (letOwnedTupleGo tg (.ref it) u) Q E s:=by
  unfold letOwnedTupleGo
  cases tg <;> first
    | exact Yc hQ
    | (cases u <;> first
        | exact Yc hQ
        | (refine Ya (Vs ho ?_)
           rw [hc,hd]
           show wpAny M A (if (["enumerate","zip","dict_itemiterator","dict_reverseitemiterator","odict_iterator","itertools.zip_longest","itertools.pairwise"].contains n && vs[0]? == some (rawInt _))=true then _ else _) Q E s
           rw [if_neg (by intro h; rw [hn,Bool.false_and] at h; cases h)]
           exact Yc hQ))
def Itl(K:PySem.W.Frag)(a:Addr):It :=
 ⟨λi H=>∃ xs x,SqL K H a xs/\xs[i]?=some x,λi H x H'=>H'=H/\∀ xs,SqL K H a xs->xs[i]?=some x,λi H=>∃ xs,SqL K H a xs/\xs.length<=i⟩
def Itr(lo:Int)(n:Nat):It:=⟨λi _=>i < n,λi H x H'=>H'=H/\x=.int (lo + i),λi _=>n<=i⟩
variable {K:PySem.W.Frag}
def turn_list{tg:Expr}(a it:Addr):Turn P w K tg (Itl K a) [it] it (λi h=>h.IsListIter it a i) where
 mem:=by simp
 obj:=λi h st b hb=>by
  have e:b=it:=by simpa using hb
  subst e
  obtain⟨o,e,c,d⟩:=st
  exact⟨o,e,λv z=>by rw [d] at z; cases z⟩
 keep:=λi h h' st k=>st.at λo e=>k it (by simp) o e
 item:=by
  intro X hP hw hK hc i pins s Z H E I hf st hg
  subst hP hw hK
  obtain⟨xs,x,hq,hx⟩:=hg
  obtain⟨its,rv,p,hz⟩:=I.list hq
  obtain⟨u,hu,ru⟩:=rv.get hx
  obtain⟨f0,f1,f2,f3,f4,f5⟩:=hf it (by simp)
  refine wpAny_pyNext_list_item st p.isList (x:=u) (by simpa using hu) λh' st' sb=>?_
  have I1:Inv X pins Z H { s with heap:=h' }:=I.turned (t':=s.toks) (λb o hb e=>(sb.2 b hb).trans e) f0 f1 f3 f4 f5
  obtain⟨o,e,c,d⟩:=id st'
  exact⟨u,rfl,go_of (s:={ s with heap:=h' }) e c d (by decide) ⟨x,H,I1,ru,⟨rfl,λys hy=>by rw [I.list_inj hy hq]; exact hx⟩,st',λb hb=>(hf b hb).1⟩⟩
 done:=by
  intro X hP hw hK hc i pins s Z H E I hf st hg
  subst hP hw hK
  obtain⟨xs,hq,hx⟩:=hg
  obtain⟨its,rv,p,hz⟩:=I.list hq
  obtain⟨f0,f1,f2,f3,f4,f5⟩:=hf it (by simp)
  have hl:=rv.length
  exact wpAny_pyNext_list_end (I.ok.hd hc) st p.isList (by simp; omega) λh' eb=>⟨rfl,I.turned (t':=s.toks) (λb o hb e=>eb b o hb e) f0 f1 f3 f4 f5⟩
 self:=λ_ _ _ _ _ st h=>wpAny_pyIter_listiter st h
def turn_range{tg:Expr}(it:Addr)(lo:Int)(n:Nat):Turn P w K tg (Itr lo n) [it] it (λi h=>IsRangeIter h it (lo + (i:Nat) * 1) ((n:Int) - (i:Nat)) 1) where
 mem:=by simp
 obj:=λi h st b hb=>by
  have e:b=it:=by simpa using hb
  subst e
  exact⟨_,st,λv z=>by
   have z':Data.fields _=Data.cell v:=z
   cases z'⟩
 keep:=λi h h' st k=>k it (by simp) _ st
 item:=by
  intro X hP hw hK hc i pins s Z H E I hf st hg
  subst hP hw hK
  obtain⟨f0,f1,f2,f3,f4,f5⟩:=hf it (by simp)
  have W:=Walks.range (prog:=X.prog) (w:=X.w) (I.ok.hd hc) it lo 1 n
  refine W.item i s _ _ hg st λv h' tk hv st' kk=>?_
  obtain⟨t,rfl⟩:=hv
  have I1:Inv X pins Z H { s with heap:=h',toks:=tk }:=I.turned (λb o hb e=>kk b o (by simpa using hb) e) f0 f1 f3 f4 f5
  refine⟨_,rfl,go_of (s:={ s with heap:=h',toks:=tk }) (n:="range_iterator") st' rfl rfl (by decide) ⟨.int (lo + i),H,I1,⟨t,?_⟩,⟨rfl,rfl⟩,st',λb hb=>(hf b hb).1⟩⟩
  rw [Int.mul_one]
 done:=by
  intro X hP hw hK hc i pins s Z H E I hf st hg
  subst hP hw hK
  obtain⟨f0,f1,f2,f3,f4,f5⟩:=hf it (by simp)
  exact wpAny_pyNext_range_end (I.ok.hd hc) st (by have:n<=i:=hg; omega) λh' eb=>⟨rfl,I.turned (t':=s.toks) (λb o hb e=>eb b o hb e) f0 f1 f3 f4 f5⟩
 self:=λ_ _ _ _ _ st h=>wpAny_pyIter_rangeiter st h
section
variable {X:Cx}{tg:Expr}
def iList(K:PySem.W.Frag)(tl:TE):TI:=λZ H R=>tl Z H λx H1=>∃ a,x=.ref a/\(∃ xs,SqL K H1 a xs)/\R (Itl K a) H1
def pi_list{l:Expr}{tl:TE}(hl:PE X l tl):PI X tg l (iList X.K tl):=by
 intro pins s Z H R I h
 refine thn (hl pins s Z H _ I h) λv s1 ⟨x,H1,I1,r1,q1⟩=>?_
 obtain⟨a,e,⟨xs,hq⟩,q⟩:=q1
 subst e
 cases r1
 obtain⟨its,rv,p,hz⟩:=I1.list hq
 refine wpAny_pyIter_list p.isList ?_
 refine⟨s1.heap.objs.size,[s1.heap.objs.size],_,_,H1,rfl,I1.kept (t':=s1.toks) λb o e=>Yh _ e,turn_list a _,⟨_,Yn _ rfl,rfl,rfl⟩,λb hb=>?_,q⟩
 have e:b=s1.heap.objs.size:=by simpa using hb
 subst e
 exact I1.fpOk (Yd _) (I1.hok.fresh (Yd _))
theorem range_it{R:It->Hp->Prop}{lo hi:Int}{t u v:Tok}{tk:Nat}(I:Inv X pins Z H s)(h1:-(2 ^ 62)<=lo)(h2:lo < 2 ^ 62)(h3:-(2 ^ 62)<=hi)(h4:hi < 2 ^ 62)
  (q:R (Itr lo (hi - lo).toNat) H):wpAny (model X.prog X.w) X.A (pyIter (.ref s.heap.objs.size)) (PIE X pins Z tg R) E { s with heap:=s.heap.push { cls:=.type "range",data:=.fields #[.int lo t,.int hi u,.int 1 v] },toks:=tk }:=by
 refine wpAny_pyIter_range (IsRange.new ..) (small_one h1 h2 h3 h4) ?_
 have I1:Inv X pins Z H { s with heap:=s.heap.push { cls:=.type "range",data:=.fields #[.int lo t,.int hi u,.int 1 v] },toks:=tk }:=I.kept λb o e=>Yh _ e
 refine⟨(s.heap.push { cls:=.type "range",data:=.fields #[.int lo t,.int hi u,.int 1 v] }).objs.size,[(s.heap.push { cls:=.type "range",data:=.fields #[.int lo t,.int hi u,.int 1 v] }).objs.size],_,_,H,rfl,
  I1.kept (t':=tk) λb o e=>Yh _ e,turn_range _ lo (hi - lo).toNat,?_,λb hb=>?_,q⟩
 ·have e1:lo + ((0:Nat):Int) * 1=lo:=by simp
  have e2:(((hi - lo).toNat:Nat):Int) - ((0:Nat):Int)=Builtin.Range.rangeSize lo hi 1:=by rw [rangeSize_one]; split <;> omega
  show IsRangeIter _ _ (lo + ((0:Nat):Int) * 1) ((((hi - lo).toNat:Nat):Int) - ((0:Nat):Int)) 1
  rw [e1,e2]
  exact Yn _ rfl
 ·have e:b=(s.heap.push { cls:=.type "range",data:=.fields #[.int lo t,.int hi u,.int 1 v] }).objs.size:=by simpa using hb
  subst e
  exact I1.fpOk (Yd _) (I1.hok.fresh (Yd _))
def iRng1(ta:TA):TI:=λZ H R=>ta Z H λvs H1=>∃ j:Int,vs=[.int j]/\-(2 ^ 62)<=j/\j < 2 ^ 62/\R (Itr 0 j.toNat) H1
def iRng2(ta:TA):TI:=λZ H R=>ta Z H λvs H1=>∃ i j:Int,vs=[.int i,.int j]/\(-(2 ^ 62)<=i/\i < 2 ^ 62/\-(2 ^ 62)<=j/\j < 2 ^ 62)/\R (Itr i (j - i).toNat) H1
def pi_range1{a:Expr}{ta:TA}{p pos:Pos}(hg:Gl X "range")(hm:X.mg "range"=none)(ha:PA X [a] ta)(hs:starEach [a] X.env=[(false,eval a X.env)]:=by rfl):PI X tg (.Call (.Name "range" p) [a] [] pos) (iRng1 ta):=by
 intro pins s Z H R I h
 refine Call_ (ld_blt I hg hm boot_range (VC (thn (ha pos pins s Z H _ I h) λus s1 ⟨vs,H1,I1,r1,q1⟩=>?_) hs rfl))
 obtain⟨j,e,q1,q2,q⟩:=q1
 subst e
 cases r1 with
 | cons r rr =>
  cases rr
  obtain⟨t,rfl⟩:=r
  exact call_range_1 (range_it I1 (by omega) (by omega) q1 q2 (by simpa using q))
def pi_range2{a b:Expr}{ta:TA}{p pos:Pos}(hg:Gl X "range")(hm:X.mg "range"=none)(ha:PA X [a,b] ta)(hs:starEach [a,b] X.env=[(false,eval a X.env),(false,eval b X.env)]:=by rfl)(hs2:starEach [b] X.env=[(false,eval b X.env)]:=by rfl) :
  PI X tg (.Call (.Name "range" p) [a,b] [] pos) (iRng2 ta):=by
 intro pins s Z H R I h
 refine Call_ (ld_blt I hg hm boot_range (VC (thn (ha pos pins s Z H _ I h) λus s1 ⟨vs,H1,I1,r1,q1⟩=>?_) (by rw [hs,hs2]) (by rw [hs2]; rfl)))
 obtain⟨i,j,e,⟨q1,q2,q3,q4⟩,q⟩:=q1
 subst e
 cases r1 with
 | cons r rr =>
  cases rr with
  | cons r' rr =>
   cases rr
   obtain⟨t,rfl⟩:=r
   obtain⟨t',rfl⟩:=r'
   exact call_range_2 (range_it I1 q1 q2 q3 q4 q)
def tFor(wi:TI)(g:TG)(tb:TS):TS:=λD Z H=>wi Z H λJ H1=>∃ W:Nat->Nat->St->Hp->Prop,(∃ m,W 0 m Z H1)/\∀ i m Z H,W i m Z H ->
 (J.stop i H/\D.nx Z H)\/(J.go i H/\∃ N:St->Hp->Prop,(∀ Z' H',N Z' H'->∃ m',m' < m/\W (i + 1) m' Z' H')/\∀ x H',J.yld i H x H'->g x Z H' λZ2 H2=>tb { D with nx:=N,ct:=N,bk:=D.nx } Z2 H2)
def pinsAt(fp:List Addr)(h:Heap):List (Addr × Obj):=fp.filterMap λb=>(h.get? b).map λo=>(b,o)
def mem_pinsAt{fp:List Addr}{h:Heap}{b:Addr}{o:Obj}(hb:b∈fp)(e:h.get? b=some o):(b,o)∈pinsAt fp h:=List.mem_filterMap.mpr ⟨b,hb,by rw [e]; rfl⟩
def of_pinsAt{fp:List Addr}{h:Heap}{p:Addr × Obj}(hp:p∈pinsAt fp h):p.1∈fp/\h.get? p.1=some p.2:=by
 obtain⟨b,hb,e⟩:=List.mem_filterMap.mp hp
 cases q:h.get? b with
 | none=>rw [q] at e; cases e
 | some o =>
  rw [q] at e
  have e':(b,o)=p:=YK e
  subst e'
  exact⟨hb,q⟩
def Inv.pinned{fp:List Addr}(I:Inv X pins Z H s)(hf:∀ b∈fp,FpOk X pins H b)(ho:∀ b∈fp,∃ o,s.heap.get? b=some o/\∀ v,o.data ≠ .cell v):Inv X (pins ++ pinsAt fp s.heap) Z H s :=
 I.pins_of λp hp=>(Yp.mp hp).elim (λz=>I.pin p (Yq _ z)) λz=>by
  obtain⟨hb,e⟩:=of_pinsAt z
  obtain⟨f0,f1,f2,_⟩:=hf p.1 hb
  obtain⟨o,e',d⟩:=ho p.1 hb
  rw [e] at e'; cases e'
  exact⟨e,f0,f1,f2,d⟩
def Inv.unpinned{pins pl:List (Addr × Obj)}(I:Inv X (pins ++ pl) Z H s):Inv X pins Z H s:=I.pins_of λp hp=>I.pin p (Yq _ (Y0 _ hp))
def ps_for{iter:Expr}{body:List Stmt}{wi:TI}{g:TG}{tb:TS}{pos:Pos}(hp:PassesOwn (model X.prog X.w) X.A X.env X.xe)(hc:X.calm=true)(hi:PI X tg iter wi)(hg:PG X tg g)(hb:PSs X body tb)
  (hs:∀ x,foldedSetIterable iter X.env x=pure x:=by intro _; rfl):PS X (.For tg iter body [] pos) (tFor wi g tb):=by
 intro pins s Z H D I h
 refine wpAny_For (thn (hi pins s Z H _ I h) λv s1 h1=>thn h1 λitv s2 h2=>?_) hs
 obtain⟨it,fp,tn,J,H2,e,I2,T,st2,f2,W,⟨m0,w0⟩,turn⟩:=h2
 subst e
 -- what stays true of the iterator's objects through the loop
 have stat:∀ {H':Hp},(∀ b∈fp,H' b=none)->∀ b∈fp,FpOk X pins H' b:=λhn b hb=>⟨hn b hb,(f2 b hb).2⟩
 refine codeAny_forLoop_any (λn s'=>∃ i Z' H',Inv X pins Z' H' s'/\tn i s'.heap/\(∀ b∈fp,H' b=none)/\W i n Z' H') ?_ m0 ⟨0,Z,H2,I2,st2,λb hb=>(f2 b hb).1,w0⟩
 rintro n s3 ⟨i,Z3,H3,I3,st3,fr3,w3⟩
 rcases turn i n Z3 H3 w3 with ⟨stop,qn⟩ | ⟨go,N,hN,step⟩
 ·refine Vp hp (thn (T.done X rfl rfl rfl hc i pins s3 Z3 H3 X.xe I3 (stat fr3) st3 stop) λr s4 ⟨hr,I4⟩=>?_)
  subst hr
  exact wpAny_execs_nil ⟨Z3,H3,I4,qn⟩
 ·refine Vp hp (thn (T.item X rfl rfl rfl hc i pins s3 Z3 H3 X.xe I3 (stat fr3) st3 go) λr s4 ⟨u,hr,h4⟩=>?_)
  subst hr
  refine Vp hp (thn h4 λ_ s5 ⟨x,H5,I5,r5,y5,st5,fr5⟩=>?_)
  have I5':=I5.pinned (stat fr5) (T.obj _ _ st5)
  refine Vp hp (thn (hg _ s5 Z3 H5 x u _ I5' r5 (step x H5 y5)) λ_ s6 ⟨Z6,H6,I6,q6⟩=>?_)
  refine Vp hp (thn (hb _ s6 Z6 H6 _ I6 q6) λf s7 q7=>?_)
  have again:∀ {Z7:St}{H7:Hp},Inv X (pins ++ pinsAt fp s5.heap) Z7 H7 s7->N Z7 H7->∃ m,m < n/\∃ i Z' H',Inv X pins Z' H' s7/\tn i s7.heap/\(∀ b∈fp,H' b=none)/\W i m Z' H':=λ{Z7 H7} I7 n7=>by
   obtain⟨m',hm,w7⟩:=hN Z7 H7 n7
   refine⟨m',hm,i + 1,Z7,H7,I7.unpinned,T.keep _ _ _ st5 λb hb o e=>(I7.pin (b,o) (Yq _ (Yq _ (mem_pinsAt hb e)))).1,λb hb=>?_,w7⟩
   obtain⟨o,e,d⟩:=T.obj _ _ st5 b hb
   exact (I7.pin (b,o) (Yq _ (Yq _ (mem_pinsAt hb e)))).2.1
  cases f with
  | next=>obtain⟨Z7,H7,I7,n7⟩:=q7; exact again I7 n7
  | cont=>obtain⟨Z7,H7,I7,n7⟩:=q7; exact again I7 n7
  | brk=>obtain⟨Z7,H7,I7,q7⟩:=q7; exact⟨Z7,H7,I7.unpinned,q7⟩
  | ret v=>obtain⟨x7,Z7,H7,I7,r7,q7⟩:=q7; exact⟨x7,Z7,H7,I7.unpinned,r7,q7⟩
end
def for_list{a:Addr}{xs:List V}{g:TG}{tb:TS}{D:Ends}(Pv:Nat->St->Hp->Prop)(h0:Pv 0 Z H)(hl:∀ i Z H,i<=xs.length->Pv i Z H->SqL K H a xs)
  (hs:∀ i x Z H,xs[i]?=some x->Pv i Z H->g x Z H λZ2 H2=>tb { D with nx:=Pv (i + 1),ct:=Pv (i + 1),bk:=D.nx } Z2 H2) (hd:∀ Z H,Pv xs.length Z H->D.nx Z H) :
  ∃ W:Nat->Nat->St->Hp->Prop,(∃ m,W 0 m Z H)/\∀ i m Z H,W i m Z H ->
   ((Itl K a).stop i H/\D.nx Z H)\/((Itl K a).go i H/\∃ N:St->Hp->Prop,(∀ Z' H',N Z' H'->∃ m',m' < m/\W (i + 1) m' Z' H')/\∀ x H',(Itl K a).yld i H x H'->g x Z H' λZ2 H2=>tb { D with nx:=N,ct:=N,bk:=D.nx } Z2 H2):=by
 refine⟨λi m Z H=>m=xs.length - i/\i<=xs.length/\Pv i Z H,⟨xs.length,by simp,Nat.zero_le _,h0⟩,?_⟩
 rintro i m Z H ⟨rfl,hi,p⟩
 have q:=hl i Z H hi p
 by_cases hlt:i < xs.length
 ·refine .inr ⟨⟨xs,xs[i],q,by simp [hlt]⟩,Pv (i + 1),λZ' H' p'=>⟨xs.length - (i + 1),by omega,rfl,hlt,p'⟩,λx H' y=>?_⟩
  obtain⟨e,y⟩:=y
  subst e
  exact hs i x Z _ (y xs q) p
 ·have e:i=xs.length:=by omega
  subst e
  exact .inl ⟨⟨xs,q,Yd _⟩,hd Z H p⟩
abbrev R2:=V->V->Hp->VK->Prop
def OpR(X:Cx)(f:Value->Value->Sem Value)(r:R2):Prop :=
 ∀ (pins:List (Addr × Obj)) (s:Shared) (Z:St) (H:Hp) (x y:V) (v u:Value) (Q:VK),Inv X pins Z H s->RelV x v->RelV y u->r x y H Q ->
  wpAny (model X.prog X.w) X.A (f v u) (EP X pins Z Q) X.xe s
def UnR(X:Cx)(f:Value->Sem Value)(r:V->Hp->VK->Prop):Prop :=
 ∀ (pins:List (Addr × Obj)) (s:Shared) (Z:St) (H:Hp) (x:V) (v:Value) (Q:VK),Inv X pins Z H s->RelV x v->r x H Q ->
  wpAny (model X.prog X.w) X.A (f v) (EP X pins Z Q) X.xe s
def CallR(X:Cx)(f:Value)(r:List V->Hp->VK->Prop):Prop :=
 ∀ (pins:List (Addr × Obj)) (s:Shared) (Z:St) (H:Hp) (xs:List V) (us:List Value) (Q:VK),Inv X pins Z H s->Vals xs us->r xs H Q ->
  wpAny (model X.prog X.w) X.A (call f us) (EP X pins Z Q) X.xe s
def tOp(r:R2)(ta tb:TE):TE:=λZ H Q=>ta Z H λx H1=>tb Z H1 λy H2=>r x y H2 Q
def tUn(r:V->Hp->VK->Prop)(ta:TE):TE:=λZ H Q=>ta Z H λx H1=>r x H1 Q
def rI(C:Int->Int->Prop)(g:Int->Int->V):R2:=λx y H Q=>∃ i j,x=.int i/\y=.int j/\C i j/\Q (g i j) H
def rI0(g:Int->Int->V):R2:=λx y H Q=>∃ i j,x=.int i/\y=.int j/\Q (g i j) H
def rU(g:Int->V):V->Hp->VK->Prop:=λx H Q=>∃ i,x=.int i/\Q (g i) H
section
variable {X:Cx}{a b c:Expr}{ta tb tc:TE}{pos:Pos}
def binT(ha:PE X a ta)(hb:PE X b tb){pins:List (Addr × Obj)}{s:Shared}{Z:St}{H:Hp}{R:V->V->Hp->Prop}(I:Inv X pins Z H s)
  (h:ta Z H λx H1=>tb Z H1 λy H2=>R x y H2) {Q:VSP}{f:Value->Value->Sem Value}
  (hf:∀ v u s2 x y H2,Inv X pins Z H2 s2->RelV x v->RelV y u->R x y H2->wpAny (model X.prog X.w) X.A (f v u) Q X.xe s2) :
  wpAny (model X.prog X.w) X.A (eval a X.env) (λv s₁=>wpAny (model X.prog X.w) X.A (eval b X.env) (λu s₂=>wpAny (model X.prog X.w) X.A (f v u) Q X.xe s₂) X.xe s₁) X.xe s:=by
 refine thn (ha pins s Z H _ I h) λv s1 ⟨x,H1,I1,r1,q1⟩=>?_
 refine thn (hb pins s1 Z H1 _ I1 q1) λu s2 ⟨y,H2,I2,r2,q2⟩=>?_
 exact hf v u s2 x y H2 I2 r1 r2 q2
def pe_op{op:Operator}{r:R2}(ho:OpR X (binaryOp op) r)(ha:PE X a ta)(hb:PE X b tb):PE X (.BinOp a op b pos) (tOp r ta tb):=by
 intro pins s Z H Q I h
 exact wpAny_BinOp (binT ha hb I h λv u s2 x y H2 I2 rx ry q=>ho pins s2 Z H2 x y v u Q I2 rx ry q)
def pe_un{op:UnaryOp}{r:V->Hp->VK->Prop}(ho:UnR X (unaryOp op) r)(ha:PE X a ta):PE X (.UnaryOp op a pos) (tUn r ta):=by
 intro pins s Z H Q I h
 exact UnaryOp_ (thn (ha pins s Z H _ I h) λv s1 ⟨x,H1,I1,r1,q1⟩=>ho pins s1 Z H1 x v Q I1 r1 q1)
def opI{f:Value->Value->Sem Value}{C:Int->Int->Prop}{g:Int->Int->Int}
  (rule:∀ (i j:Int) (t u:Tok) (s:Shared) (Q:VSP) (E:VSP),C i j->Q (.int (g i j) s.toks) { s with toks:=s.toks + 1 }->wpAny (model X.prog X.w) X.A (f (.int i t) (.int j u)) Q E s) :
  OpR X f (rI C λi j=>.int (g i j)):=by
 intro pins s Z H x y v u Q I rx ry h
 obtain⟨i,j,rfl,rfl,hc,q⟩:=h
 obtain⟨t,rfl⟩:=rx
 obtain⟨t',rfl⟩:=ry
 exact rule i j t t' s _ _ hc ⟨.int (g i j),H,I.tok _,⟨_,rfl⟩,q⟩
def opI0{f:Value->Value->Sem Value}{g:Int->Int->Int}
  (rule:∀ (i j:Int) (t u:Tok) (s:Shared) (Q:VSP) (E:VSP),Q (.int (g i j) s.toks) { s with toks:=s.toks + 1 }->wpAny (model X.prog X.w) X.A (f (.int i t) (.int j u)) Q E s) :
  OpR X f (rI0 λi j=>.int (g i j)):=by
 intro pins s Z H x y v u Q I rx ry h
 obtain⟨i,j,rfl,rfl,q⟩:=h
 obtain⟨t,rfl⟩:=rx
 obtain⟨t',rfl⟩:=ry
 exact rule i j t t' s _ _ ⟨.int (g i j),H,I.tok _,⟨_,rfl⟩,q⟩
def opB0{f:Value->Value->Sem Value}{g:Int->Int->Bool}
  (rule:∀ (i j:Int) (t u:Tok) (s:Shared) (Q:VSP) (E:VSP),Q (.bool (g i j)) s->wpAny (model X.prog X.w) X.A (f (.int i t) (.int j u)) Q E s) :
  OpR X f (rI0 λi j=>.bl (g i j)):=by
 intro pins s Z H x y v u Q I rx ry h
 obtain⟨i,j,rfl,rfl,q⟩:=h
 obtain⟨t,rfl⟩:=rx
 obtain⟨t',rfl⟩:=ry
 exact rule i j t t' s _ _ ⟨.bl (g i j),H,I,rfl,q⟩
def CDiv(i j:Int):Prop:=0 < j/\j < 1073741824
def CPow(i j:Int):Prop:=0<=j/\j<=1000000/\i.natAbs < 2 ^ 64
def CMul(i j:Int):Prop:=(-(2 ^ 64) < i/\i < 2 ^ 64)\/(-(2 ^ 64) < j/\j < 2 ^ 64)
theorem CMul.ok{i j:Int}(h:CMul i j):IntMulOk i j:=by
 rcases h with ⟨h1,h2⟩ | ⟨h1,h2⟩
 ·exact .of_left (intBits_le_64 h1 h2)
 ·exact .of_right (intBits_le_64 h1 h2)
def op_add:OpR X (binaryOp .Add) (rI0 λi j=>.int (i + j)):=opI0 λ_ _ _ _ _ _ _ q=>add_int q
def op_sub:OpR X (binaryOp .Sub) (rI0 λi j=>.int (i - j)):=opI0 λ_ _ _ _ _ _ _ q=>sub_int q
def op_mul:OpR X (binaryOp .Mult) (rI CMul λi j=>.int (i * j)):=opI λ_ _ _ _ _ _ _ hc q=>mul_int q hc.ok
def op_fdiv:OpR X (binaryOp .FloorDiv) (rI CDiv λi j=>.int (i / j)):=opI λi j _ _ _ _ _ hc q=>by
 have h1:(0:Int) < j:=hc.1
 have h2:j < 1073741824:=hc.2
 exact floordiv_int (by omega) (by rw [VS i (by omega)]; exact q) (.inl (PyProof.noPylong_small (by omega)))
def op_mod:OpR X (binaryOp .Mod) (rI (λ_ j=>0 < j) λi j=>.int (i % j)):=opI λi j _ _ _ _ _ hc q=>by
 have h1:(0:Int) < j:=hc
 exact mod_int' (by omega) (by rw [Int.fmod_eq_emod_of_nonneg i (by omega)]; exact q)
def op_pow:OpR X (binaryOp .Pow) (rI CPow λi j=>.int (i ^ j.toNat)):=opI λ_ _ _ _ _ _ _ hc q=>pow_int_small hc.1 hc.2.1 hc.2.2 q
def iop_sub:OpR X (inplaceOp .Sub) (rI0 λi j=>.int (i - j)):=opI0 λ_ _ _ _ _ _ _ q=>isub_int q
def unI{f:Value->Sem Value}{g:Int->Int}
  (rule:∀ (i:Int) (t:Tok) (s:Shared) (Q:VSP) (E:VSP),Q (.int (g i) s.toks) { s with toks:=s.toks + 1 }->wpAny (model X.prog X.w) X.A (f (.int i t)) Q E s) :
  UnR X f (rU λi=>.int (g i)):=by
 intro pins s Z H x v Q I rx h
 obtain⟨i,rfl,q⟩:=h
 obtain⟨t,rfl⟩:=rx
 exact rule i t s _ _ ⟨.int (g i),H,I.tok _,⟨_,rfl⟩,q⟩
def un_neg:UnR X (unaryOp .USub) (rU λi=>.int (-i)):=unI λ_ _ _ _ _ q=>neg_int q
end
def scal:V->V->Bool
 | .non,.non=>true | .non,.int _=>true | .int _,.non=>true | .non,.bl _=>true | .bl _,.non=>true | .non,.str _=>true | .str _,.non=>true
 | .int _,.int _=>true | .bl _,.bl _=>true | .str _,.str _=>true | .byt _,.byt _=>true
 | .int _,.str _=>true | .str _,.int _=>true | .bl _,.str _=>true | .str _,.bl _=>true
 | _,_=>false
def rEq:R2:=λx y H Q=>scal x y=true/\Q (.bl (decide (x=y))) H
def rNe:R2:=λx y H Q=>scal x y=true/\Q (.bl (!decide (x=y))) H
def dec_int{i j:Int}:decide (V.int i=V.int j)=(i == j):=by
 rw [Vc]
 simp
def dec_bl{i j:Bool}:decide (V.bl i=V.bl j)=(i == j):=by
 rw [Vc]
 simp
def dec_str{i j:Str}:decide (V.str i=V.str j)=(i == j):=by
 rw [Vc]
 simp
def dec_byt{i j:Array UInt8}:decide (V.byt i=V.byt j)=(i.toList == j.toList):=by
 rw [Vc]
 cases i
 cases j
 simp
section
variable {X:Cx}{a b c:Expr}{ta tb tc:TE}{pos:Pos}
theorem fin_bl{Q:VK}{k k':Bool}(I:Inv X pins Z H s)(q:Q (.bl k) H)(e:k=k'):EP X pins Z Q (.bool k') s:=by
 subst e
 exact⟨.bl k,H,I,rfl,q⟩
def op_eq:OpR X (compareOp .Eq) rEq:=by
 intro pins s Z H x y v u Q I rx ry h
 obtain⟨hs,q⟩:=h
 cases x with
 | non =>
  cases rx
  cases y with
  | non=>cases ry; exact PySem.EqNone.eq_none_none (fin_bl I q (by simp))
  | bl j=>cases ry; exact PySem.EqNone.eq_none_bool (fin_bl I q (by simp))
  | int j=>obtain⟨t',rfl⟩:=ry; exact PySem.EqNone.eq_none_int (fin_bl I q (by simp))
  | str j=>obtain⟨t',rfl⟩:=ry; exact PySem.EqNone.eq_none_str (fin_bl I q (by simp))
  | _=>exact absurd (show false=true from hs) Yu
 | bl i =>
  cases rx
  cases y with
  | non=>cases ry; exact PySem.EqNone.eq_bool_none (fin_bl I q (by simp))
  | bl j=>cases ry; exact eq_bool (fin_bl I q dec_bl)
  | str j=>obtain⟨t',rfl⟩:=ry; exact PySem.EqMixed.eq_bool_str (fin_bl I q (by simp))
  | _=>exact absurd (show false=true from hs) Yu
 | int i =>
  obtain⟨t,rfl⟩:=rx
  cases y with
  | non=>cases ry; exact PySem.EqNone.eq_int_none (fin_bl I q (by simp))
  | int j=>obtain⟨t',rfl⟩:=ry; exact eq_int (fin_bl I q dec_int)
  | str j=>obtain⟨t',rfl⟩:=ry; exact PySem.EqMixed.eq_int_str (fin_bl I q (by simp))
  | _=>exact absurd (show false=true from hs) Yu
 | str i =>
  obtain⟨t,rfl⟩:=rx
  cases y with
  | non=>cases ry; exact PySem.EqNone.eq_str_none (fin_bl I q (by simp))
  | bl j=>cases ry; exact PySem.EqMixed.eq_str_bool (fin_bl I q (by simp))
  | int j=>obtain⟨t',rfl⟩:=ry; exact PySem.EqMixed.eq_str_int (fin_bl I q (by simp))
  | str j=>obtain⟨t',rfl⟩:=ry; exact eq_str (fin_bl I q dec_str)
  | _=>exact absurd (show false=true from hs) Yu
 | byt i =>
  obtain⟨t,rfl⟩:=rx
  cases y with
  | byt j=>obtain⟨t',rfl⟩:=ry; exact PySem.W.eq_bytes (fin_bl I q dec_byt)
  | _=>exact absurd (show false=true from hs) Yu
 | _=>cases y <;> exact absurd (show false=true from hs) Yu
def op_ne:OpR X (compareOp .NotEq) rNe:=by
 intro pins s Z H x y v u Q I rx ry h
 obtain⟨hs,q⟩:=h
 cases x with
 | non =>
  cases rx
  cases y with
  | non=>cases ry; exact PySem.EqNone.ne_none_none (fin_bl I q (by simp))
  | bl j=>cases ry; exact PySem.EqNone.ne_none_bool (fin_bl I q (by simp))
  | int j=>obtain⟨t',rfl⟩:=ry; exact PySem.EqNone.ne_none_int (fin_bl I q (by simp))
  | str j=>obtain⟨t',rfl⟩:=ry; exact PySem.EqNone.ne_none_str (fin_bl I q (by simp))
  | _=>exact absurd (show false=true from hs) Yu
 | bl i =>
  cases rx
  cases y with
  | non=>cases ry; exact PySem.EqNone.ne_bool_none (fin_bl I q (by simp))
  | bl j=>cases ry; exact ne_bool (fin_bl I q (congrArg not dec_bl))
  | str j=>obtain⟨t',rfl⟩:=ry; exact PySem.EqMixed.ne_bool_str (fin_bl I q (by simp))
  | _=>exact absurd (show false=true from hs) Yu
 | int i =>
  obtain⟨t,rfl⟩:=rx
  cases y with
  | non=>cases ry; exact PySem.EqNone.ne_int_none (fin_bl I q (by simp))
  | int j=>obtain⟨t',rfl⟩:=ry; exact ne_int (fin_bl I q (congrArg not dec_int))
  | str j=>obtain⟨t',rfl⟩:=ry; exact PySem.EqMixed.ne_int_str (fin_bl I q (by simp))
  | _=>exact absurd (show false=true from hs) Yu
 | str i =>
  obtain⟨t,rfl⟩:=rx
  cases y with
  | non=>cases ry; exact PySem.EqNone.ne_str_none (fin_bl I q (by simp))
  | bl j=>cases ry; exact PySem.EqMixed.ne_str_bool (fin_bl I q (by simp))
  | int j=>obtain⟨t',rfl⟩:=ry; exact PySem.EqMixed.ne_str_int (fin_bl I q (by simp))
  | str j=>obtain⟨t',rfl⟩:=ry; exact ne_str (fin_bl I q (congrArg not dec_str))
  | _=>exact absurd (show false=true from hs) Yu
 | byt i =>
  obtain⟨t,rfl⟩:=rx
  cases y with
  | byt j=>obtain⟨t',rfl⟩:=ry; exact PySem.W.ne_bytes (fin_bl I q (congrArg not dec_byt))
  | _=>exact absurd (show false=true from hs) Yu
 | _=>cases y <;> exact absurd (show false=true from hs) Yu
theorem op_lt:OpR X (compareOp .Lt) (rI0 λi j=>.bl (decide (i < j))):=opB0 λ_ _ _ _ _ _ _ q=>lt_int q
theorem op_le:OpR X (compareOp .LtE) (rI0 λi j=>.bl (decide (i<=j))):=opB0 λ_ _ _ _ _ _ _ q=>le_int q
def op_gt:OpR X (compareOp .Gt) (rI0 λi j=>.bl (decide (j < i))):=opB0 λ_ _ _ _ _ _ _ q=>gt_int q
def op_ge:OpR X (compareOp .GtE) (rI0 λi j=>.bl (decide (j<=i))):=opB0 λ_ _ _ _ _ _ _ q=>ge_int q
def op_isN:OpR X (compareOp .Is) (λx y H Q=>y=.non/\Q (.bl (decide (x=.non))) H):=by
 intro pins s Z H x y v u Q I rx ry h
 obtain⟨rfl,q⟩:=h
 cases ry
 refine is_none_gen (fin_bl I q ?_)
 cases x <;> first
  | (cases rx; rfl)
  | (obtain⟨t,rfl⟩:=rx; rfl)
def OpR.or{f:Value->Value->Sem Value}{r r':R2}(h:OpR X f r)(h':OpR X f r'):OpR X f (λx y H Q=>r x y H Q\/r' x y H Q):=by
 intro pins s Z H x y v u Q I rx ry q
 rcases q with q | q
 ·exact h pins s Z H x y v u Q I rx ry q
 ·exact h' pins s Z H x y v u Q I rx ry q
def nomark(b:Expr){op:CmpOp}(h:op ≠ .In:=by decide)(h2:op ≠ .NotIn:=by decide):behindInMarks op b=false:=by
 have e1:(op == CmpOp.In)=false:=by cases op <;> first | rfl | exact absurd rfl h
 have e2:(op == CmpOp.NotIn)=false:=by cases op <;> first | rfl | exact absurd rfl h2
 cases b <;> simp [behindInMarks,e1,e2]
def pe_cmpR{op:CmpOp}{r:R2}(ho:OpR X (compareOp op) r)(ha:PE X a ta)(hb:PE X b tb)(hm:behindInMarks op b=false):PE X (.Compare a [op] [b] pos) (tOp r ta tb):=by
 intro pins s Z H Q I h
 exact wpAny_Compare1 (binT ha hb I h λv u s2 x y H2 I2 rx ry q=>ho pins s2 Z H2 x y v u Q I2 rx ry q) hm
def tTest(t:TE):TT:=λZ H Q=>t Z H λx H'=>∃ k,x=.bl k/\Q k H'
theorem pt_cmpR{op:CmpOp}{r:R2}(ho:OpR X (compareOp op) r)(ha:PE X a ta)(hb:PE X b tb)(hm:behindInMarks op b=false):PT X (.Compare a [op] [b] pos) (tTest (tOp r ta tb)):=by
 intro pins s Z H Q I h
 refine wpAny_isTrue_Compare1 (thn (ha pins s Z H _ I h) λv s1 ⟨x,H1,I1,r1,q1⟩=>thn (hb pins s1 Z H1 _ I1 q1) λu s2 ⟨y,H2,I2,r2,q2⟩ =>
  thn (ho pins s2 Z H2 x y v u _ I2 r1 r2 q2) λc s3 ⟨z,H3,I3,r3,k,e,q3⟩=>?_) hm
 subst e
 cases r3
 exact Vo ⟨H3,I3,q3⟩
def tChain(r r':R2)(ta tb tc:TE):TE:=λZ H Q=>ta Z H λx H1=>tb Z H1 λy H2=>r x y H2 λz H3=>∃ k,z=.bl k /\
 (if k=true then tc Z H3 λw' H4=>r' y w' H4 Q else Q (.bl false) H3)
theorem pe_chain{op op':CmpOp}{r r':R2}(ho:OpR X (compareOp op) r)(ho':OpR X (compareOp op') r')(ha:PE X a ta)(hb:PE X b tb)(hc:PE X c tc)
  (hm:lastMarks [op,op'] [b,c]=false:=by with_unfolding_all rfl):PE X (.Compare a [op,op'] [b,c] pos) (tChain r r' ta tb tc):=by
 intro pins s Z H Q I h
 refine Compare_chain (thn (ha pins s Z H _ I h) λv s1 ⟨x,H1,I1,r1,q1⟩=>chain_link (thn (hb pins s1 Z H1 _ I1 q1) λu s2 ⟨y,H2,I2,r2,q2⟩ =>
  thn (ho pins s2 Z H2 x y v u _ I2 r1 r2 q2) λd s3 ⟨z,H3,I3,r3,k,e,q3⟩=>?_)) hm
 subst e
 cases r3
 refine Vo ?_
 cases k with
 | false=>exact ite_ff ⟨.bl false,H3,I3,rfl,q3⟩
 | true=>exact ite_tt (chain_last (thn (hc pins s3 Z H3 _ I3 q3) λw' s4 ⟨z',H4,I4,r4,q4⟩=>ho' pins s4 Z H4 y z' u w' Q I4 r2 r4 q4))
def line63:(sizeLine:Nat) < 2 ^ 63:=by rw [YT]; decide
def op_add_str:OpR X (binaryOp .Add) (λx y H Q=>∃ i j,x=.str i/\y=.str j/\i.length + j.length<=sizeLine/\Q (.str (i ++ j)) H):=by
 intro pins s Z H x y v u Q I rx ry h
 obtain⟨i,j,rfl,rfl,hz,q⟩:=h
 obtain⟨t,rfl⟩:=rx
 obtain⟨t',rfl⟩:=ry
 exact add_str (λt' tk=>⟨.str (i ++ j),H,I.tok _,⟨_,rfl⟩,q⟩) hz
def vals1{x:V}(r:Vals [x] us):∃ u,us=[u]/\RelV x u:=by
 cases r with
 | cons r1 r2=>cases r2; exact⟨_,rfl,r1⟩
def vals2{x y:V}(r:Vals [x,y] us):∃ u w',us=[u,w']/\RelV x u/\RelV y w':=by
 cases r with
 | cons r1 r2 =>
  cases r2 with
  | cons r3 r4=>cases r4; exact⟨_,_,rfl,r1,r3⟩
def call_abs:CallR X (.builtin "abs") (λxs H Q=>∃ i,xs=[.int i]/\Q (.int (if i < 0 then -i else i)) H):=by
 intro pins s Z H xs us Q I r h
 obtain⟨i,rfl,q⟩:=h
 obtain⟨u,rfl,t,rfl⟩:=vals1 r
 exact call_abs_int λu tk=>⟨.int (if i < 0 then -i else i),H,I.tok _,⟨_,rfl⟩,q⟩
def call_min2(hc:X.calm=true):CallR X (.builtin "min") (λxs H Q=>∃ i j,xs=[.int i,.int j]/\Q (.int (if j < i then j else i)) H):=by
 intro pins s Z H xs us Q I r h
 obtain⟨i,j,rfl,q⟩:=h
 obtain⟨u,w',rfl,⟨t,rfl⟩,⟨t',rfl⟩⟩:=vals2 r
 refine min_two_ints (I.ok.hd hc) λh' tk k=>⟨_,H,I.kept k,?_,q⟩
 by_cases hj:j < i
 ·rw [if_pos hj,if_pos hj]; exact⟨_,rfl⟩
 ·rw [if_neg hj,if_neg hj]; exact⟨_,rfl⟩
def call_int1:CallR X (.type "int") (λxs H Q=>(∃ i,xs=[.int i]/\Q (.int i) H)\/∃ k,xs=[.bl k]/\Q (.int (if k then 1 else 0)) H):=by
 intro pins s Z H xs us Q I r h
 rcases h with ⟨i,rfl,q⟩ | ⟨k,rfl,q⟩
 ·obtain⟨u,rfl,t,rfl⟩:=vals1 r
  exact call_int_int ⟨.int i,H,I,⟨_,rfl⟩,q⟩
 ·obtain⟨u,rfl,r1⟩:=vals1 r
  cases r1
  exact call_int_bool ⟨.int (if k then 1 else 0),H,I.tok _,⟨_,rfl⟩,q⟩
end
structure ObjM(h:Heap)(x dx C:Addr)(mA:Str->Option Value):Prop where
 obj:h.get? x=some (instObj C dx)
 ns:h.Ns1 dx mA
 ne:dx ≠ x
def lookIn_ns{h:Heap}{dx:Addr}{mA:Str->Option Value}(n:h.Ns1 dx mA):∃ od,h.get? dx=some od/\∀ name,lookIn name od=some (mA name):=by
 obtain⟨o,es,ep,ho,hd,hk,_,hm⟩:=n
 refine⟨o,ho,λname=>?_⟩
 have e:=hm name
 unfold nsFind findBy at e
 rw [<- Array.find?_toList] at e
 unfold lookIn
 rw [hd]
 dsimp only
 split
 ·rename_i y q
  rw [q] at e
  exact congrArg some e
 ·rename_i q
  rw [q] at e
  have a:es.toList.any (·.refKey)=false:=by
   rw [List.any_eq_false]
   intro y hy
   obtain⟨z,t,hkey⟩:=hk y (Array.mem_toList_iff.mp hy)
   simp [DictEntry.refKey,hkey]
  have a':¬ es.toList.any (·.refKey)=true:=by rw [a]; exact Yu
  rw [if_neg a']
  exact congrArg some e
def ObjM.look{h:Heap}{x dx C:Addr}{mA:Str->Option Value}(I:ObjM h x dx C mA):∃ od,PySem.W.InstAt h x (instObj C dx) C (some od)/\∀ name,lookIn name od=some (mA name) :=
 let ⟨od,ho,hl⟩:=lookIn_ns I.ns
 ⟨od,⟨I.obj,rfl,rfl,ho⟩,hl⟩
section
variable {prog:Program}{w:World}{A:Around}{E:VSP}{s:Shared}{K:PySem.W.Frag}{x dx C f:Addr}{mA:Str->Option Value}{name:Str}{v:Value}
def get_map{expr:Bool}{Q:VSP}(X:K.In s.heap)(I:ObjM s.heap x dx C mA)(hg:plainGet K C name=true)(hh:hasDictIn K C=true)
  (ha:PySem.W.findIn K (.ref C) name=some none) (hv:mA name=some v) (hv':handedIn v=true) (h:Q v { s with toks:=s.toks + 1 }) :
  wpAny (model prog w) A (getAttr (.ref x) name expr) Q E s:=by
 obtain⟨od,J,hl⟩:=I.look
 exact PySem.W.get_value X J (plainGet_of hg).1 (PySem.W.findObj_own hh ha rfl (by rw [hl,hv])) hv' h
def get_meth{pl:Sem Bool}{Q:Value × List Value->Shared->Prop}(X:K.In s.heap)(I:ObjM s.heap x dx C mA)(hg:plainGet K C name=true)
  (hf:PySem.W.findIn K (.ref C) name=some (some (.ref f))) (ht:isFn K (.ref f)=true) (hv:mA name=none) (h:Q (.ref f,[.ref x]) s) :
  wpAny (model prog w) A (getMethod (.ref x) name pl) Q E s:=by
 obtain⟨od,J,hl⟩:=I.look
 exact PySem.W.method_fn X J (plainGet_of hg).1 (plainGet_of hg).2 hf (beq_iff_eq.mp ht) (by show (lookIn name od).map (·.isSome)=some false; rw [hl,hv]; rfl) h
def set_map{ns:List Str}(X:K.In s.heap)(I:ObjM s.heap x dx C mA)
  (hs:PySem.W.findIn K (.ref C) "__setattr__"=some (some (.builtin "object.__setattr__"))) (hp:plainOver K C=true) (ht:takerIn K C name=some none) (hh:hasDictIn K C=true)
  (hw:PySem.Within mA ns) (hsz:ns.length<=sizeLine)
  (h:∀ h',ObjM h' x dx C (λy=>if y=name then some v else mA y)->Heap.SameBut dx s.heap h'->Q () { s with heap:=h',toks:=s.toks + 2 }) :
  wpAny (model prog w) A (setAttr (.ref x) name v) Q E s:=by
 obtain⟨od,J,hl⟩:=I.look
 refine PySem.W.set_plain X J hs (PySem.W.osa_open (s:={ s with toks:=s.toks + 1 }) (r:=none) X J hp ht λb=>?_)
 obtain⟨cd,hc,hd'⟩:=PySem.W.any_some hh
 have hx:s.heap.get? x=some ⟨.ref C,some dx,.plain,#[]⟩:=I.obj
 refine Ya (Yc (Ya (Ya (wpAny_loadPart hx (Ya (PySem.W.Looks.here (s:={ s with toks:=s.toks + 1 }) (PySem.W.looks_clsIn X hc) ?_))))))
 rw [hd']
 refine Yc (a:=some dx) (Ya (Yc (Ya ?_)))
 refine wpAny_nsSet1 (s:={ s with toks:=s.toks + 1 }) I.ns λh' hn2 hs2=>?_
 obtain⟨oD,esD,epD,hoD,hdD,hcD⟩:=hn2.count (PySem.Within.cons name v hw)
 refine Ya (wpAny_lookBehind hoD (by rw [hdD]; exact pastItsLine_dict (Yi hcD (by rw [YO]; omega))) ?_)
 exact Yc (h _ ⟨(hs2.2 _ (Ne.symm I.ne)).trans I.obj,hn2,I.ne⟩ hs2)
def make_map{R:Result->Shared->Prop}{vs:List Value}{kw:List (Str × Value)}(X:K.In s.heap)(hm:makesIn K C=true)
  (hi:PySem.W.findIn K (.ref C) "__init__"=some (some (.ref f))) (hf:PySem.W.typeIn K (.ref f)=some (.type "function"))
  (h:codeAny (model prog w) (A.under (.builtin "type.__call__" ⟨.ref C :: vs,kw⟩)) (.call (.ref f) ⟨.ref (s.heap.objs.size + 1) :: vs,kw⟩) (PySem.W.InitBack (s.heap.objs.size + 1) R)
   { s with heap:=(s.heap.push emptyDict).push (instObj C s.heap.objs.size) }) :
  codeAny (model prog w) A (.call (.ref C) ⟨vs,kw⟩) R s:=by
 obtain⟨hh,g,d,t,os⟩:=s
 exact PySem.W.make_core (PySem.W.makes_of X hm) (PySem.W.looks_findIn X hi) (λself=>PySem.W.bind_fn X self hf) (.inl rfl) h
end
def putF(f:Str)(v:V):List (Str × V)->List (Str × V)
 | []=>[(f,v)]
 | (g,x) :: r=>if g=f then (g,v) :: r else (g,x) :: putF f v r
def lookup_putF(f g:Str)(v:V):∀ fs:List (Str × V),(putF f v fs).lookup g=if g=f then some v else fs.lookup g
 | []=>by
  show List.lookup g [(f,v)]=_
  by_cases h:g=f
  ·have hb:(g == f)=true:=beq_iff_eq.mpr h
   simp only [List.lookup,hb,if_pos h]
  ·have hb:(g == f)=false:=Vu.mpr h
   simp only [List.lookup,hb,if_neg h]
 | (k,x) :: r=>by
  have ih:=lookup_putF f g v r
  rw [show putF f v ((k,x) :: r)=(if k=f then (k,v) :: r else (k,x) :: putF f v r) from rfl]
  by_cases hk:k=f
  ·rw [if_pos hk]
   by_cases h:g=k
   ·have hb:(g == k)=true:=beq_iff_eq.mpr h
    simp only [List.lookup,hb,if_pos (h.trans hk)]
   ·have hb:(g == k)=false:=Vu.mpr h
    simp only [List.lookup,hb,if_neg (λe:g=f=>h (e.trans hk.symm))]
  ·rw [if_neg hk]
   by_cases h:g=k
   ·have hb:(g == k)=true:=beq_iff_eq.mpr h
    simp only [List.lookup,hb,if_neg (λe:g=f=>hk (h.symm.trans e))]
   ·have hb:(g == k)=false:=Vu.mpr h
    simp only [List.lookup,hb]
    exact ih
def keys_putF(f:Str)(v:V):∀ fs:List (Str × V),f∈(putF f v fs).map (·.1)/\∀ g,g∈fs.map (·.1)->g∈(putF f v fs).map (·.1)
 | []=>⟨by simp [putF],λg h=>by simp at h⟩
 | (k,x) :: r=>by
  obtain⟨i1,i2⟩:=keys_putF f v r
  rw [show putF f v ((k,x) :: r)=(if k=f then (k,v) :: r else (k,x) :: putF f v r) from rfl]
  by_cases hk:k=f
  ·rw [if_pos hk]
   subst hk
   exact⟨by simp,λg h=>by simpa using h⟩
  ·rw [if_neg hk]
   refine⟨?_,λg h=>?_⟩
   ·rw [Yr]
    exact YZ _ i1
   ·rw [Yr] at h ⊢
    rcases Yl.mp h with e | e
    ·exact Yl.mpr (.inl e)
    ·exact YZ _ (i2 g e)
def length_putF(f:Str)(v:V):∀ fs:List (Str × V),(putF f v fs).length<=fs.length + 1
 | []=>by simp [putF]
 | (k,x) :: r=>by
  have ih:=length_putF f v r
  rw [show putF f v ((k,x) :: r)=(if k=f then (k,v) :: r else (k,x) :: putF f v r) from rfl]
  by_cases hk:k=f
  ·rw [if_pos hk,YO,YO]; omega
  ·rw [if_neg hk,YO,YO]; omega
def RelO.some_of{v:V}{o:Option Value}(r:RelO (some v) o):∃ u,o=some u/\RelV v u:=by
 cases o with
 | none=>exact (show False from r).elim
 | some u=>exact⟨u,rfl,r⟩
def RelO.none_of{o:Option Value}(r:RelO none o):o=none:=by
 cases o with
 | none=>rfl
 | some u=>exact (show False from r).elim
def handed_of{v:V}(r:RelV v u):handedIn u=true:=by
 cases v with
 | non=>cases (show u=Value.none from r); rfl
 | bl b=>cases (show u=Value.bool b from r); rfl
 | int i=>obtain⟨t,e⟩:=(show ∃ t,u=Value.int i t from r); cases e; rfl
 | str x=>obtain⟨t,e⟩:=(show ∃ t,u=Value.str x t from r); cases e; rfl
 | byt b=>obtain⟨t,e⟩:=(show ∃ t,u=Value.bytes b t from r); cases e; rfl
 | flt b=>obtain⟨t,e⟩:=(show ∃ t,u=Value.float b t from r); cases e; rfl
 | ref a=>cases (show u=Value.ref a from r); rfl
 | ty n=>cases (show u=Value.type n from r); rfl
section
variable {P:Program}{w:World}{H H':Hp}{h h':Heap}{a C dx:Addr}{fs fs':List (Str × V)}
def ins_get(hok:HOk P w H h)(e:H a=some (.ins C dx fs)):∃ mA,ObjM h a dx C mA/\(∀ f,RelO (fs.lookup f) (mA f))/\PySem.Within mA (fs.map (·.1))/\fs.length<=1000/\H dx=some (.own a):=by
 obtain⟨d,z,ne,ob,mA,n,r,q⟩:=(show ObjOk P w H h a (.ins C dx fs) from hok a _ e)
 exact⟨mA,⟨ob,n,ne⟩,r,q,z,d⟩
end
structure Cls(K:PySem.W.Frag)(C:Addr):Prop where
 pg:plainGet K C Str.empty=true
 hd:hasDictIn K C=true
 po:plainOver K C=true
 sa:PySem.W.findIn K (.ref C) "__setattr__"=some (some (.builtin "object.__setattr__"))
theorem Cls.get{C:Addr}(c:Cls K C)(f:Str):plainGet K C f=true:=c.pg
def NoAttr(K:PySem.W.Frag)(C:Addr)(f:Str):Prop:=PySem.W.findIn K (.ref C) f=some none
def NoAttr.taker{C:Addr}{f:Str}(n:NoAttr K C f):takerIn K C f=some none:=by
 unfold takerIn
 rw [show PySem.W.findIn K (.ref C) f=some none from n]
 rfl
structure Con(K:PySem.W.Frag)(C:Addr)(f:Str)(v:V)(u:Value):Prop where
 at_:PySem.W.findIn K (.ref C) f=some (some u)
 rel:RelV v u
 get:PySem.W.specialIn K u "__get__"=some none
 cp:PySem.W.copiedNames.contains f=false
structure Meth(K:PySem.W.Frag)(C:Addr)(m:Str)(f:Addr):Prop where
 at_:PySem.W.findIn K (.ref C) m=some (some (.ref f))
 fn:isFn K (.ref f)=true
 kp:keepIn K (.ref f)=true
section
variable {X:Cx}{pins:List (Addr × Obj)}{Z:St}{H:Hp}{s:Shared}{a C dx:Addr}{fs:List (Str × V)}{f:Str}{v:V}{A:Around}{E:VSP}
def getattr_ok{b:Bool}{Q:VSP}(I:Inv X pins Z H s)(e:H a=some (.ins C dx fs))(c:Cls X.K C)(n:NoAttr X.K C f)(l:fs.lookup f=some v)
  (h:∀ u s',Inv X pins Z H s'->RelV v u->Q u s'):wpAny (model X.prog X.w) A (getAttr (.ref a) f b) Q E s:=by
 obtain⟨mA,O,r,_,_,_⟩:=ins_get I.hok e
 obtain⟨u,hu,ru⟩:=RelO.some_of (v:=v) (o:=mA f) (by rw [<- l]; exact r f)
 exact get_map I.kIn O (c.get f) c.hd n hu (handed_of ru) (h u _ (I.tok _) ru)
def getmeth_ok{m:Str}{g:Addr}{pl:Sem Bool}{Q:Value × List Value->Shared->Prop}(I:Inv X pins Z H s)(e:H a=some (.ins C dx fs))(c:Cls X.K C)(k:Meth X.K C m g)(l:fs.lookup m=none)
  (h:Q (.ref g,[.ref a]) s):wpAny (model X.prog X.w) A (getMethod (.ref a) m pl) Q E s:=by
 obtain⟨mA,O,r,_,_,_⟩:=ins_get I.hok e
 have hn:mA m=none:=RelO.none_of (by rw [<- l]; exact r m)
 exact get_meth I.kIn O (c.get m) k.at_ k.fn hn h
def setattr_ok{y:V}(I:Inv X pins Z H s)(e:H a=some (.ins C dx fs))(c:Cls X.K C)(n:NoAttr X.K C f)(hl:fs.length < 1000)(ry:RelV y u)
  (h:∀ s',Inv X pins Z (upd H a (.ins C dx (putF f y fs))) s'->Q () s'):wpAny (model X.prog X.w) A (setAttr (.ref a) f u) Q E s:=by
 obtain⟨mA,O,r,wi,_,ho⟩:=ins_get I.hok e
 have hz:(fs.map (·.1)).length<=sizeLine:=by rw [Yg,YT]; omega
 refine set_map I.kIn O c.sa c.po n.taker c.hd wi hz λh' O' sb=>h _ ?_
 have hd:∃ o,h'.get? dx=some o:=let ⟨o,_,_,e',_⟩:=O'.ns; ⟨o,e'⟩
 refine I.write (x:=a) (e:=dx) (by rw [e]; exact True.intro) (.inr ho) (λb q hb z=>(sb.2 b hb).trans z) hd ?_
 refine⟨by rw [upd_ne O.ne]; exact ho,?_,O.ne,O'.obj,_,O'.ns,λg=>?_,λg hg=>?_⟩
 ·have:=length_putF f y fs; omega
 ·show RelO ((putF f y fs).lookup g) (if g=f then some u else mA g)
  rw [lookup_putF]
  by_cases q:g=f
  ·rw [if_pos q,if_pos q]; exact ry
  ·rw [if_neg q,if_neg q]; exact r g
 ·by_cases q:g=f
  ·rw [q]; exact (keys_putF f y fs).1
  ·refine (keys_putF f y fs).2 g (wi g λz=>hg ?_)
   show (if g=f then some u else mA g)=none
   rw [if_neg q]; exact z
def Inv.made(I:Inv X pins Z H s):Inv X pins Z (upd (upd H s.heap.objs.size (.own (s.heap.objs.size + 1))) (s.heap.objs.size + 1) (.ins C s.heap.objs.size []))
  { s with heap:=(s.heap.push emptyDict).push (instObj C s.heap.objs.size) }:=by
 have e1:(s.heap.push emptyDict).get? s.heap.objs.size=some emptyDict:=Yn s.heap rfl
 have e2:((s.heap.push emptyDict).push (instObj C s.heap.objs.size)).get? (s.heap.objs.size + 1)=some (instObj C s.heap.objs.size):=by
  have:=Yn (s.heap.push emptyDict) (o:=instObj C s.heap.objs.size) rfl
  rwa [VO] at this
 have e3:(s.heap.push emptyDict).Ns s.heap.objs.size (λ_=>none):=⟨emptyDict,#[],_,e1,rfl,(λe he=>absurd he (by simp)),λ_=>rfl⟩
 have I1:=I.laid (a:=s.heap.objs.size) (o:=.own (s.heap.objs.size + 1)) (h':=s.heap.push emptyDict) (t':=s.toks) (λb u q=>Yh _ q) (Yd _) ⟨_,e1⟩
 refine I1.laid (a:=s.heap.objs.size + 1) (o:=.ins C s.heap.objs.size []) (t':=s.toks) (λb u q=>Yh _ q) (Nat.le_of_eq (VO _ _)) ?_
 have ne:s.heap.objs.size ≠ s.heap.objs.size + 1:=Ym (VH _)
 refine⟨by rw [upd_ne ne,upd_same],YD _,ne,e2,λ_=>none,(Heap.Ns1.of_empty e3).at λo q=>Yh _ q,λ_=>True.intro,λy hy=>absurd rfl hy⟩
def attr_of{prog:Program}{env:Env}{e:Expr}{f:Str}{pos:Pos}{Q:VSP}(hb:attributeBase e f env (eval e env)=eval e env)
  (h:wpAny (model prog w) A (eval e env) (λo s₁=>wpAny (model prog w) A (getAttr o f true) Q E s₁) E s):wpAny (model prog w) A (eval (.Attribute e f pos) env) Q E s :=
 Attribute_any_ h (by rw [arm_eval_Attribute,hb])
end
def tFld(K:PySem.W.Frag)(ta:TE)(f:Str):TE:=λZ H Q=>ta Z H λx H1=>∃ a C dx fs v,x=.ref a/\H1 a=some (.ins C dx fs)/\Cls K C/\NoAttr K C f/\fs.lookup f=some v/\Q v H1
def sFld(K:PySem.W.Frag)(ta tv:TE)(f:Str):TS:=λD Z H=>tv Z H λy H1=>ta Z H1 λx H2=>∃ a C dx fs,x=.ref a/\H2 a=some (.ins C dx fs)/\Cls K C/\NoAttr K C f/\fs.length < 1000 /\
 D.nx Z (upd H2 a (.ins C dx (putF f y fs)))
section
variable {X:Cx}{o e value:Expr}{f:Str}{pos pos' tpos:Pos}{ta tv:TE}
def pe_fld(he:PE X e ta)(hb:attributeBase e f X.env (eval e X.env)=eval e X.env):PE X (.Attribute e f pos) (tFld X.K ta f):=by
 intro pins s Z H Q I h
 refine attr_of hb (thn (he pins s Z H _ I h) λu s1 ⟨x,H1,I1,rx,a,C,dx,fs,v,ex,ea,c,n,l,q⟩=>?_)
 subst ex
 obtain rfl:u=Value.ref a:=rx
 exact getattr_ok I1 ea c n l λu' s2 I2 ru=>⟨v,H1,I2,ru,q⟩
def ps_fld(ha:PE X o ta)(hv:PE X value tv)(hs:swapsWith value (some (.Attribute o f pos')) pos.line X.env=pure false):PS X (.Assign [.Attribute o f pos'] value pos) (sFld X.K ta tv f):=by
 intro pins s Z H D I h
 refine plainObj_wpAny_Assign_Attribute (thn (hv pins s Z H _ I h) λu s1 ⟨y,H1,I1,ry,q⟩=>thn (ha pins s1 Z H1 _ I1 q) λov s2 ⟨x,H2,I2,rx,a,C,dx,fs,ex,ea,c,n,l,q2⟩=>?_) hs
 subst ex
 obtain rfl:ov=Value.ref a:=rx
 exact setattr_ok I2 ea c n l ry λs3 I3=>⟨Z,_,I3,q2⟩
end
section
variable {X:Cx}{pins:List (Addr × Obj)}{Z:St}{H:Hp}{s:Shared}{A:Around}{E:VSP}{Q:VSP}{c:Value}{b:Bool}
inductive TyOf (K:PySem.W.Frag) (H:Hp):V->Value->Prop where
 | non:TyOf K H .non (.type "NoneType")
 | bl (x:Bool):TyOf K H (.bl x) (.type "bool")
 | int (i:Int):TyOf K H (.int i) (.type "int")
 | str (x:Str):TyOf K H (.str x) (.type "str")
 | flt (x:UInt64):TyOf K H (.flt x) (.type "float")
 | lst {a:Addr}{xs:List V}(e:H a=some (.lst xs)):TyOf K H (.ref a) (.type "list")
 | frz {a:Addr}{o:Obj}{xs:List V}(e:H a=some (.frz o (.lst xs))):TyOf K H (.ref a) (.type "list")
 | tup {a:Addr}{xs:List V}(e:H a=some (.tup xs)):TyOf K H (.ref a) (.type "tuple")
 | dK {a:Addr}{kvs:List (Key × V)}(e:H a=some (.dK kvs)):TyOf K H (.ref a) (.type "dict")
 | dT {a:Addr}{kvs:List (List Key × V)}(e:H a=some (.dT kvs)):TyOf K H (.ref a) (.type "dict")
 | ins {a C dx:Addr}{fs:List (Str × V)}(e:H a=some (.ins C dx fs)) (cl:Cls K C) (ha:PySem.W.findIn K (.ref C) "__class__"=some (some (.builtin "object.__class__")))
   (hn:PySem.W.specialIn K (.builtin "object.__class__") "__get__"=some (some (.builtin "getset_descriptor.__get__"))) (htk:PySem.W.takesIn K (.builtin "object.__class__")=some true)
   (hm:PySem.W.mroIn K C (.type "object")=some true):TyOf K H (.ref a) (.ref C)
def isinst_ok{x:V}{u t:Value}(I:Inv X pins Z H s)(rx:RelV x u)(ty:TyOf X.K H x t)(e:kitOne X.K t c=some b)(h:∀ tk,Q (.bool b) { s with toks:=tk }) :
  wpAny (model X.prog X.w) A (call (.builtin "isinstance") [u,c]) Q E s:=by
 cases ty with
 | non=>cases (show u=Value.none from rx); exact kia_one PySem.W.kitx_none I.kIn True.intro e (λz=>nomatch z) h
 | bl y=>cases (show u=Value.bool y from rx); exact kia_one PySem.W.kitx_bool I.kIn True.intro e (λz=>nomatch z) h
 | int i=>obtain⟨t,q⟩:=(show ∃ t,u=Value.int i t from rx); cases q; exact kia_one PySem.W.kitx_int I.kIn True.intro e (λz=>nomatch z) h
 | str y=>obtain⟨t,q⟩:=(show ∃ t,u=Value.str y t from rx); cases q; exact kia_one PySem.W.kitx_str I.kIn True.intro e (λz=>nomatch z) h
 | flt y=>obtain⟨t,q⟩:=(show ∃ t,u=Value.float y t from rx); cases q; exact kia_one PySem.W.kitx_float I.kIn True.intro e (λz=>nomatch z) h
 | @lst a xs ea =>
  cases (show u=Value.ref a from rx)
  obtain⟨_,_,n,_,h1⟩:=(show ObjOk X.prog X.w H s.heap a (.lst xs) from I.hok a _ ea)
  exact kia_one kitx_list I.kIn ⟨_,h1,rfl⟩ e (λz=>nomatch z) h
 | @frz a ob xs ea =>
  cases (show u=Value.ref a from rx)
  obtain⟨_,_,_,n,_,h1⟩:=(show ObjOk X.prog X.w H s.heap a (.frz ob (.lst xs)) from I.hok a _ ea)
  exact kia_one kitx_list I.kIn ⟨_,h1,rfl⟩ e (λz=>nomatch z) h
 | @tup a xs ea =>
  cases (show u=Value.ref a from rx)
  obtain⟨_,_,_,p⟩:=(show ObjOk X.prog X.w H s.heap a (.tup xs) from I.hok a _ ea)
  obtain⟨o,h1,h2,_⟩:=p
  exact kia_one PySem.W.kitx_tuple I.kIn ⟨o,h1,h2⟩ e (λz=>nomatch z) h
 | @dK a kvs ea =>
  cases (show u=Value.ref a from rx)
  obtain⟨_,_,vs,_,p⟩:=(show ObjOk X.prog X.w H s.heap a (.dK kvs) from I.hok a _ ea)
  obtain⟨o,es,ep,h1,h2,_⟩:=p
  exact kia_one kitx_dict I.kIn ⟨o,h1,h2.1⟩ e (λz=>nomatch z) h
 | @dT a kvs ea =>
  cases (show u=Value.ref a from rx)
  obtain⟨_,_,xs,_,o,es,ep,h1,h2,_⟩:=(show ObjOk X.prog X.w H s.heap a (.dT kvs) from I.hok a _ ea)
  exact kia_one kitx_dict I.kIn ⟨o,h1,h2.1⟩ e (λz=>nomatch z) h
 | @ins a C dx fs ea cl ha hn htk hm =>
  cases (show u=Value.ref a from rx)
  obtain⟨mA,O,_⟩:=ins_get I.hok ea
  obtain⟨od,J,_⟩:=O.look
  exact kia_one (PySem.W.kitx_own (cl.get _) cl.hd ha hn htk hm) I.kIn J e (λz=>nomatch z) h
end
structure Room(k:Nat)(A:Around):Prop where
 hd:A.handled=none
 dp:A.depth + 3 * k + 5 < recursionLimit
 un:A.units + 16 * k + 200 < cLine
def Room.mono{j k:Nat}(r:Room k A)(h:j<=k):Room j A:=⟨r.hd,by have:=r.dp; omega,by have:=r.un; omega⟩
variable {k:Nat}
theorem Room.deeper(r:Room (k + 1) A)(env:Env):Room k (A.deeper env) :=
 ⟨r.hd,by have:=r.dp; show A.depth + 1 + 3 * k + 5 < _; omega,by have:=r.un; show A.units + 3 + 16 * k + 200 < _; omega⟩
theorem Room.in1(r:Room (k + 1) A):Room k A.in1 :=
 ⟨r.hd,by have:=r.dp; show A.depth + 3 * k + 5 < _; omega,by have:=r.un; show A.units + 1 + 16 * k + 200 < _; omega⟩
def make_depth{C:Addr}{kw:List (Str × Value)}:(A.under (.builtin "type.__call__" ⟨.ref C :: us,kw⟩)).depth=A.depth + 1:=by
 first | rfl | simp [Around.under,Code.weight,Code.isCreation,Code.isGuard,Code.isCaller,Code.frames,Code.isFrame,guardIds]
def make_units{C:Addr}{kw:List (Str × Value)}:(A.under (.builtin "type.__call__" ⟨.ref C :: us,kw⟩)).units=A.units + 1:=by
 first | rfl | simp [Around.under,Code.cUnits,Code.frames,Code.isFrame]
def Room.make(r:Room (k + 1) A)(C:Addr)(us:List Value)(kw:List (Str × Value)):Room k (A.under (.builtin "type.__call__" ⟨.ref C :: us,kw⟩)) :=
 ⟨r.hd,by have:=r.dp; rw [make_depth]; omega,by have:=r.un; rw [make_units]; omega⟩
def Room.depth(r:Room k A):A.depth < recursionLimit:=by have:=r.dp; omega
theorem Room.units(r:Room k A):A.units + 64 < cLine:=by have:=r.un; omega
def tNil:TA:=λ_ H Q=>Q [] H
def tCons(ta:TE)(tr:TA):TA:=λZ H Q=>ta Z H λx H1=>tr Z H1 λxs H2=>Q (x :: xs) H2
section
variable {X:Cx}{e:Expr}{es:List Expr}{te:TE}{t:TA}{pos:Pos}
def pa_nil:PA X [] tNil:=λ_ _ _ _ H Q I h=>Calls.spliced_nil ⟨[],H,I,.nil,h⟩
def pa_cons(ha:PE X e te)(hr:PA X es t)(hs:starEach (e :: es) X.env=(false,eval e X.env) :: starEach es X.env:=by rfl):PA X (e :: es) (tCons te t):=by
 intro pos pins s Z H Q I h
 rw [hs]
 show wpAny _ _ (spliced ((false,eval e X.env) :: backTo pos (starEach es X.env))) _ _ s
 refine Calls.spliced_cons (thn (ha pins s Z H _ I h) λu s1 ⟨x,H1,I1,r1,q1⟩=>?_)
 exact thn (hr pos pins s1 Z H1 _ I1 q1) λus s2 ⟨xs,H2,I2,r2,q2⟩=>⟨x :: xs,H2,I2,.cons r1 r2,q2⟩
end
abbrev Sp:=List V->Hp->VK->XK->Prop
abbrev CXT:=List Env->Hp->Shared->XK->Value->Shared->Prop
structure Env0(P:Program)(w:World)(K:PySem.W.Frag)(mg:Str->Option Value)(base:Heap)(A:Around)(outer:List Env)(s:Shared)(H:Hp):Prop where
 frames:A.frames=some outer
 mod:Mod K mg base
 bs:∀ b o,base.get? b=some o->s.heap.get? b=some o/\H b=none
 bsz:base.objs.size<=s.heap.objs.size
 funs:s.heap.FunFrames base outer
 frf:∀ b∈frs outer,H b=none
 hok:HOk P w H s.heap
 bare:AllBare s.gens
def CE(outer:List Env)(P:Program)(w:World)(H:Hp)(s:Shared)(Q:VK)(u:Value)(s':Shared):Prop :=
 ∃ v H',s'.os=s.os/\AllBare s'.gens/\Un (frs outer) [] H H' s.heap s'.heap/\HOk P w H' s'.heap/\RelV v u/\Q v H'
def CR(CX:CXT)(outer:List Env)(P:Program)(w:World)(H:Hp)(s:Shared)(Q:VK)(E:XK)(r:Result)(s':Shared):Prop :=
 match r with
 | .ok (.ret u)=>CE outer P w H s Q u s'
 | .ok _=>False
 | .error e=>CX outer H s E e s'
structure FnOk(P:Program)(w:World)(K:PySem.W.Frag)(mg:Str->Option Value)(base:Heap)(CX:CXT)(k:Nat)(f:Addr)(fd:FuncData)(ps:List Str)(sp:Sp):Prop where
 len:∀ vs H Q E,sp vs H Q E->vs.length=ps.length
 run:∀ (A:Around) (outer:List Env) (s:Shared) (H:Hp) (args:Args) (us:List Value) (vs:List V) (Q:VK) (E:XK),Room k A->Env0 P w K mg base A outer s H->BindsTo s fd args (ps.zip us)->Vals vs us->sp vs H Q E ->
  codeAny (model P w) A (.call (.ref f) args) (CR CX outer P w H s Q E) s
variable {mg:Str->Option Value}
def FnOk.mono{base:Heap}{CX:CXT}{j k:Nat}{f:Addr}{fd:FuncData}{ps:List Str}{sp:Sp}(F:FnOk P w K mg base CX j f fd ps sp)(h:j<=k) :
  FnOk P w K mg base CX k f fd ps sp:=⟨F.len,λA outer s H args us vs Q E hr=>F.run A outer s H args us vs Q E (hr.mono h)⟩
def FnOk.imp{base:Heap}{CX:CXT}{f:Addr}{fd:FuncData}{ps:List Str}{sp sp':Sp}(F:FnOk P w K mg base CX k f fd ps sp)
  (h:∀ vs H Q E,sp' vs H Q E->sp vs H Q E):FnOk P w K mg base CX k f fd ps sp' :=
 ⟨λvs H Q E q=>F.len vs H Q E (h _ _ _ _ q),λA outer s H args us vs Q E hr he hb hv hs=>F.run A outer s H args us vs Q E hr he hb hv (h _ _ _ _ hs)⟩
def Env0.make{base:Heap}{outer:List Env}(e:Env0 P w K mg base A outer s H)(C:Addr)(us:List Value)(kw:List (Str × Value)) :
  Env0 P w K mg base (A.under (.builtin "type.__call__" ⟨.ref C :: us,kw⟩)) outer s H:=⟨by first | exact e.frames | (simpa [Around.under,Code.envs,Code.isFrame,pushEnvs] using e.frames),e.mod,e.bs,e.bsz,e.funs,e.frf,e.hok,e.bare⟩
theorem Env0.in1{base:Heap}{outer:List Env}(e:Env0 P w K mg base A outer s H) :
  Env0 P w K mg base A.in1 outer s H:=⟨e.frames,e.mod,e.bs,e.bsz,e.funs,e.frf,e.hok,e.bare⟩
section
variable {X:Cx}{pins:List (Addr × Obj)}{Z:St}{H:Hp}{s s':Shared}
def Inv.env0(I:Inv X pins Z H s):Env0 X.prog X.w X.K X.mg X.base X.A X.stack s H :=
 ⟨I.ok.frames,I.ok.mod,I.bs,Yi I.ok.bsz I.sz,I.stack,I.stkFree,I.hok,I.bare⟩
def Inv.after{Q:VK}(I:Inv X pins Z H s)(h:CE X.stack X.prog X.w H s Q u s'):EP X pins Z Q u s':=by
 obtain⟨v,H',os,bare,un,hok,r,q⟩:=h
 obtain⟨hh,g,d,t,os'⟩:=s'
 obtain rfl:os'=s.os:=os
 exact⟨v,H',I.call (h':=hh) (g':=g) (d':=d) (t':=t) (ch:=[]) un hok bare (λb z=>absurd z (by simp)),r,q⟩
end
def tCall(sp:Sp)(dvs:List V)(E:XK)(t:TA):TE:=λZ H Q=>t Z H λvs H1=>sp (vs ++ dvs) H1 Q E
def tMeth(C:Addr)(m:Str)(sp:Sp)(dvs:List V)(E:XK)(ta:TE)(t:TA):TE:=λZ H Q=>ta Z H λx H1=>∃ a dx fs,x=.ref a/\H1 a=some (.ins C dx fs)/\fs.lookup m=none /\
 t Z H1 λvs H2=>sp (x :: (vs ++ dvs)) H2 Q E
def tMake(C:Addr)(sp:Sp)(dvs:List V)(E:XK)(t:TA):TE:=λZ H Q=>t Z H λvs H1=>∀ x dx,H1 x=none->H1 dx=none->dx ≠ x ->
 sp (.ref x :: (vs ++ dvs)) (upd (upd H1 dx (.own x)) x (.ins C dx [])) (λv H2=>v=.non/\Q (.ref x) H2) E
def Binds(K:PySem.W.Frag)(fd:FuncData)(ps:List Str)(ds:List Value):Prop :=
 ∀ (s:Shared) (us:List Value),K.In s.heap->(us ++ ds).length=ps.length->BindsTo s fd ⟨us,[]⟩ (ps.zip (us ++ ds))
def Binds.all{fd:FuncData}{ps:List Str}(h:∀ us:List Value,us.length=ps.length->bindArgs fd ⟨us,[]⟩=pure (ps.zip us)):Binds K fd ps []:=λs us _ hl=>by
 rw [Vb] at hl ⊢
 exact .of_eq (h us hl)
def Passes(CX:CXT)(X:Cx)(E:XK):Prop:=∀ (pins:List (Addr × Obj)) (Z:St) (H:Hp) (s:Shared) (e:Value) (s':Shared),Inv X pins Z H s->CX X.stack H s E e s'->X.xe e s'
section
variable {X:Cx}{CX:CXT}{k:Nat}{f C:Addr}{fd:FuncData}{ps:List Str}{sp:Sp}{dvs:List V}{ds:List Value}{E:XK}{x m:Str}{p pos apos:Pos}{e o:Expr}{es:List Expr}{ta:TE}{t:TA}
def run_fn{Q:VK}{vs:List V}(F:FnOk X.prog X.w X.K X.mg X.base CX k f fd ps sp)(hr:Room k X.A)(hb:Binds X.K fd ps ds)(hd:Vals dvs ds)(hx:Passes CX X E)
  (I:Inv X pins Z H s) (r:Vals vs us) (h:sp (vs ++ dvs) H Q E):wpAny (model X.prog X.w) X.A (call (.ref f) us) (EP X pins Z Q) X.xe s:=by
 have r2:Vals (vs ++ dvs) (us ++ ds):=r.append hd
 have hl:(us ++ ds).length=ps.length:=by rw [<- r2.length]; exact F.len _ _ _ _ h
 refine wpAny_call (YS (F.run X.A X.stack s H ⟨us,[]⟩ (us ++ ds) (vs ++ dvs) Q E hr I.env0 (hb s us I.kIn hl) r2 h) λr s' hq=>?_)
 cases r with
 | error e=>exact hx pins Z H s e s' I hq
 | ok fl =>
  cases fl with
  | ret u=>exact I.after hq
  | next=>exact False.elim hq
  | brk=>exact False.elim hq
  | cont=>exact False.elim hq
def pe_call(F:FnOk X.prog X.w X.K X.mg X.base CX k f fd ps sp)(hr:Room k X.A)(hg:Gl X x)(hm:X.mg x=some (.ref f))(hk:keepIn X.K (.ref f)=true)(hb:Binds X.K fd ps ds)(hd:Vals dvs ds)(hx:Passes CX X E)
  (ha:PA X (e :: es) t) (hdb:(x == ("__debug__":Str))=false:=by decide) (he:starEach (e :: es) X.env=(false,eval e X.env) :: starEach es X.env:=by rfl) (hpl:(backTo pos (starEach es X.env)).any (·.1)=false:=by rfl) :
  PE X (.Call (.Name x p) (e :: es) [] pos) (tCall sp dvs E t):=by
 intro pins s Z H Q I h
 refine Vm (ld_glob I hg hm ?_ hdb)
 refine callWith_K (h₀:=X.base) I.ok.mod.kin hk (thn (ha pos pins s Z H _ I h) λus s1 ⟨vs,H1,I1,r,q⟩=>⟨I1.kIn,?_⟩) he hpl
 exact run_fn F hr hb hd hx I1 r q
def pe_meth{pl:Sem Bool}(he:PE X o ta)(c:Cls X.K C)(hm:Meth X.K C m f)(F:FnOk X.prog X.w X.K X.mg X.base CX k f fd ps sp)(hr:Room k X.A)(hb:Binds X.K fd ps ds)(hd:Vals dvs ds)(hx:Passes CX X E)(ha:PA X (e :: es) t)
  (hst:starEach (e :: es) X.env=(false,eval e X.env) :: starEach es X.env:=by rfl) (hpl:(backTo pos (starEach es X.env)).any (·.1)=false:=by rfl)
  (ht:eval (.Call (.Attribute o m apos) (e :: es) [] pos) X.env=(do
   let ov <- eval o X.env
   standAt apos.atName
   let (f,first) <- holding [ov] (getMethod ov m pl)
   callWith pos f first (backTo pos (starEach (e :: es) X.env)) (backToKw pos (keywordEach [] X.env))):=by rfl) :
  PE X (.Call (.Attribute o m apos) (e :: es) [] pos) (tMeth C m sp dvs E ta t):=by
 intro pins s Z H Q I h
 refine methodCall_KW (pl:=pl) (thn (he pins s Z H _ I h) λu s1 ⟨x,H1,I1,rx,a,dx,fs,ex,ea,l,q⟩=>?_) ht
 subst ex
 obtain rfl:u=Value.ref a:=rx
 refine getmeth_ok I1 ea c hm l ?_
 refine callWith_K (first:=[.ref a]) (h₀:=X.base) I.ok.mod.kin hm.kp (thn (ha pos pins s1 Z H1 _ I1 q) λus s2 ⟨vs,H2,I2,r,q2⟩=>⟨I2.kIn,?_⟩) hst hpl
 exact run_fn (us:=.ref a :: us) (vs:=.ref a :: vs) F hr hb hd hx I2 (.cons rfl r) q2
def pe_meth0{pl:Sem Bool}(he:PE X o ta)(c:Cls X.K C)(hm:Meth X.K C m f)(F:FnOk X.prog X.w X.K X.mg X.base CX k f fd ps sp)(hr:Room k X.A)(hb:Binds X.K fd ps ds)(hd:Vals dvs ds)(hx:Passes CX X E)
  (ht:eval (.Call (.Attribute o m apos) [] [] pos) X.env=(do
   let ov <- eval o X.env
   standAt apos.atName
   let (f,first) <- holding [ov] (getMethod ov m pl)
   callWith pos f first (backTo pos (starEach [] X.env)) (backToKw pos (keywordEach [] X.env))):=by rfl) :
  PE X (.Call (.Attribute o m apos) [] [] pos) (tMeth C m sp dvs E ta tNil):=by
 intro pins s Z H Q I h
 refine methodCall_KW (pl:=pl) (thn (he pins s Z H _ I h) λu s1 ⟨x,H1,I1,rx,a,dx,fs,ex,ea,l,q⟩=>?_) ht
 subst ex
 obtain rfl:u=Value.ref a:=rx
 refine getmeth_ok I1 ea c hm l ?_
 exact PySem.W.callWith_K0 (first:=[.ref a]) I1.kIn hm.kp (run_fn (us:=[.ref a]) (vs:=[.ref a]) F hr hb hd hx I1 (.cons rfl .nil) q)
structure Mk(K:PySem.W.Frag)(C f:Addr):Prop where
 makes:makesIn K C=true
 init:PySem.W.findIn K (.ref C) "__init__"=some (some (.ref f))
 fn:isFn K (.ref f)=true
 kp:keepIn K (.ref C)=true
def run_make{Q:VK}{vs:List V}(M:Mk X.K C f)(F:FnOk X.prog X.w X.K X.mg X.base CX k f fd ps sp)(hr:Room (k + 1) X.A)(hb:Binds X.K fd ps ds)(hd:Vals dvs ds)
  (hx:Passes CX X E) (I:Inv X pins Z H s) (r:Vals vs us)
  (h:∀ x dx,H x=none->H dx=none->dx ≠ x->sp (.ref x :: (vs ++ dvs)) (upd (upd H dx (.own x)) x (.ins C dx [])) (λv H2=>v=.non/\Q (.ref x) H2) E) :
  wpAny (model X.prog X.w) X.A (call (.ref C) us) (EP X pins Z Q) X.xe s:=by
 have hq:=h (s.heap.objs.size + 1) s.heap.objs.size (I.hok.fresh (Vr _)) (I.hok.fresh (Yd _)) (Ym (VH _))
 have I2:=Inv.made (C:=C) I
 have r2:Vals (V.ref (s.heap.objs.size + 1) :: (vs ++ dvs)) (Value.ref (s.heap.objs.size + 1) :: (us ++ ds)):=.cons rfl (r.append hd)
 have hl:(Value.ref (s.heap.objs.size + 1) :: us ++ ds).length=ps.length:=by
  have e:=r2.length
  rw [F.len _ _ _ _ hq] at e
  exact e.symm
 refine wpAny_call (make_map (f:=f) I.kIn M.makes M.init (beq_iff_eq.mp M.fn) (YS (F.run _ X.stack _ _ ⟨Value.ref (s.heap.objs.size + 1) :: us,[]⟩ (Value.ref (s.heap.objs.size + 1) :: (us ++ ds)) _ _ E (hr.make C us [])
  (I2.env0.make C us []) (hb _ (Value.ref (s.heap.objs.size + 1) :: us) I2.kIn hl) r2 hq) λr s' hq'=>?_))
 cases r with
 | error e=>exact hx pins Z _ _ e s' I2 hq'
 | ok fl =>
  cases fl with
  | ret u =>
   obtain⟨v,H',I3,rv,ev,q3⟩:=I2.after hq'
   subst ev
   exact⟨rv,⟨V.ref (s.heap.objs.size + 1),H',I3,rfl,q3⟩⟩
  | next=>exact False.elim hq'
  | brk=>exact False.elim hq'
  | cont=>exact False.elim hq'
def pe_make(M:Mk X.K C f)(F:FnOk X.prog X.w X.K X.mg X.base CX k f fd ps sp)(hr:Room (k + 1) X.A)(hg:Gl X x)(hm:X.mg x=some (.ref C))(hb:Binds X.K fd ps ds)(hd:Vals dvs ds)(hx:Passes CX X E)
  (ha:PA X (e :: es) t) (hdb:(x == ("__debug__":Str))=false:=by decide) (he:starEach (e :: es) X.env=(false,eval e X.env) :: starEach es X.env:=by rfl) (hpl:(backTo pos (starEach es X.env)).any (·.1)=false:=by rfl) :
  PE X (.Call (.Name x p) (e :: es) [] pos) (tMake C sp dvs E t):=by
 intro pins s Z H Q I h
 refine Vm (ld_glob I hg hm ?_ hdb)
 refine callWith_K (h₀:=X.base) I.ok.mod.kin M.kp (thn (ha pos pins s Z H _ I h) λus s1 ⟨vs,H1,I1,r,q⟩=>⟨I1.kIn,?_⟩) he hpl
 exact run_make M F hr hb hd hx I1 r q
end
def PK(X:Cx)(kws:List Keyword)(t:TA):Prop :=
 ∀ (pos:Pos) (pins:List (Addr × Obj)) (s:Shared) (Z:St) (H:Hp) (Q:List V->Hp->Prop),Inv X pins Z H s->t Z H Q->wpAny (model X.prog X.w) X.A (evalAll ((backToKw pos (keywordEach kws X.env)).map (·.2))) (AP X pins Z Q) X.xe s
section
variable {X:Cx}{CX:CXT}{k:Nat}{f C:Addr}{fd:FuncData}{ps ks:List Str}{sp:Sp}{E:XK}{x m:Str}{p pos apos kpos:Pos}{e o:Expr}{es:List Expr}{kws:List Keyword}{te ta:TE}{t tk:TA}{nm:Option Str}
def pk_nil:PK X [] tNil:=λ_ _ _ _ H Q I h=>wpAny_evalAll_nil ⟨[],H,I,.nil,h⟩
def pk_cons(ha:PE X e te)(hr:PK X kws t):PK X (⟨nm,e,kpos⟩ :: kws) (tCons te t):=by
 intro pos pins s Z H Q I h
 show wpAny _ _ (evalAll ((do let v <- eval e X.env; standAt pos; pure v) :: (backToKw pos (keywordEach kws X.env)).map (·.2))) _ _ s
 refine wpAny_evalAll_cons (Ya (thn (ha pins s Z H _ I h) λu s1 ⟨x,H1,I1,r1,q1⟩=>Ya (wpAny_standAt (Yc ?_))))
 exact thn (hr pos pins s1 Z H1 _ I1 q1) λus s2 ⟨xs,H2,I2,r2,q2⟩=>⟨x :: xs,H2,I2,.cons r1 r2,q2⟩
structure KBinds(K:PySem.W.Frag)(fd:FuncData)(ps ks:List Str)(g:List Value->List Value->List Value)(gV:List V->List V->List V):Prop where
 to:∀ (s:Shared) (us ws:List Value),K.In s.heap->(g us ws).length=ps.length->BindsTo s fd ⟨us,ks.zip ws⟩ (ps.zip (g us ws))
 rel:∀ {vs:List V}{us:List Value}{zs:List V}{ws:List Value},Vals vs us->Vals zs ws->Vals (gV vs zs) (g us ws)
variable {g:List Value->List Value->List Value}{gV:List V->List V->List V}
end
structure FnScope(N P:List Str)(sc:Scope):Prop where
 kind:sc.kind=.function
 co:sc.isCoroutine=false
 gen:sc.isGenerator=false
 nd:N.Nodup
 pre:N.take P.length=P
 par:∀ x∈P,sc.names.lookup x=some .local\/sc.names.lookup x=some .cell
 nofree:∀ y∈sc.names,y.2 ≠ .free
variable {kindOf:Str->Option NameKind}{x:Str}
def bindL_out:∀ {binds:List (Str × Value)}{m:Str->Option Value},(∀ v,(x,v) ∉ binds)->bindL kindOf binds m x=m x
 | [],_,_=>rfl
 | (n,v) :: r,m,h=>by
  unfold bindL
  rw [bindL_out λw hw=>h w (YZ _ hw)]
  split
  ·have:x ≠ n:=by rintro rfl; exact h v Vl
   simp [this]
  ·rfl
def bindC_out:∀ {binds:List (Str × Value)}{m:Str->Option Value},(∀ v,(x,v) ∉ binds)->bindC kindOf binds m x=m x
 | [],_,_=>rfl
 | (n,v) :: r,m,h=>by
  unfold bindC
  rw [bindC_out λw hw=>h w (YZ _ hw)]
  split
  ·rfl
  ·have:x ≠ n:=by rintro rfl; exact h v Vl
   simp [this]
theorem bindL_get{v:Value}:∀ {P:List Str}{vs:List Value}{i:Nat}{m:Str->Option Value},P.Nodup->P[i]?=some x->vs[i]?=some v->kindOf x=some .local ->
  bindL kindOf (P.zip vs) m x=some v
 | [],_,_,_,_,h,_,_=>by simp at h
 | _ :: _,[],_,_,_,_,h,_=>by simp at h
 | p :: P,w :: vs,0,m,nd,h1,h2,hk=>by
  simp at h1 h2; subst h1; subst h2
  show bindL kindOf ((p,w) :: P.zip vs) m p=_
  unfold bindL
  rw [bindL_out λv hv=>(Va.mp nd).1 (VM hv).1,if_pos hk]
  simp
 | p :: P,w :: vs,i + 1,m,nd,h1,h2,hk=>by
  show bindL kindOf ((p,w) :: P.zip vs) m x=_
  unfold bindL
  exact bindL_get (i:=i) (List.nodup_cons.mp nd).2 (by simpa using h1) (by simpa using h2) hk
theorem bindC_get{v:Value}:∀ {P:List Str}{vs:List Value}{i:Nat}{m:Str->Option Value},P.Nodup->P[i]?=some x->vs[i]?=some v->kindOf x ≠ some .local ->
  bindC kindOf (P.zip vs) m x=some v
 | [],_,_,_,_,h,_,_=>by simp at h
 | _ :: _,[],_,_,_,_,h,_=>by simp at h
 | p :: P,w :: vs,0,m,nd,h1,h2,hk=>by
  simp at h1 h2; subst h1; subst h2
  show bindC kindOf ((p,w) :: P.zip vs) m p=_
  unfold bindC
  rw [bindC_out λv hv=>(Va.mp nd).1 (VM hv).1,if_neg hk]
  simp
 | p :: P,w :: vs,i + 1,m,nd,h1,h2,hk=>by
  show bindC kindOf ((p,w) :: P.zip vs) m x=_
  unfold bindC
  exact bindC_get (i:=i) (List.nodup_cons.mp nd).2 (by simpa using h1) (by simpa using h2) hk
def start(N:List Str)(vs:List V):St:=vs.map some ++ List.replicate (N.length - vs.length) none
def cxOf(CX:CXT)(P:Program)(w:World)(K:PySem.W.Frag)(mg:Str->Option Value)(base:Heap)(N:List Str)(qual:Str)(scope:Scope)(f:Addr)(cd:Value)(A:Around)(outer:List Env)(s:Shared)(H:Hp)(E:XK):Cx where
 prog:=P
 w:=w
 K:=K
 mg:=mg
 base:=base
 A:=A.deeper (envOfC qual scope s.heap.objs.size f cd)
 N:=N
 s₀:=s
 H₀:=H
 env:=envOfC qual scope s.heap.objs.size f cd
 outer:=outer
 stack:=envOfC qual scope s.heap.objs.size f cd :: outer
 ex:=[]
 calm:=true
 fn:=λ_=>true
 pn:=[]
 xe:=λe s'=>wpAny (model P w) (A.deeper (envOfC qual scope s.heap.objs.size f cd)) (leaving (envOfC qual scope s.heap.objs.size f cd) e) (λ_ s''=>CX outer H s E e s'') (λe' s''=>CX outer H s E e' s'') s'
def cell_has{sc:Scope}{n:Nat}(h:sc.names.lookup x=some .cell):∃ c,(cellsFrom n sc.names []).lookup x=some c:=by
 have q:=cellsFrom_some sc.names n [] (.inl h)
 exact Option.isSome_iff_exists.mp q
def inv_start{CX:CXT}{base:Heap}{N ps:List Str}{qual:Str}{scope:Scope}{f:Addr}{cd:Value}{outer:List Env}{s s1:Shared}{E:XK}{vs:List V}
  (S:FnScope N ps scope) (hd:A.handled=none) (e0:Env0 P w K mg base A outer s H) (hl:vs.length=ps.length) (r:Vals vs us)
  (x:InCallC s s.heap.objs.size (bindL (envOfC qual scope s.heap.objs.size f cd).kindOf (ps.zip us) λ_=>none) (cellsFrom (s.heap.objs.size + 1) scope.names []) (bindC (envOfC qual scope s.heap.objs.size f cd).kindOf (ps.zip us) λ_=>none) s1) :
  Inv (cxOf CX P w K mg base N qual scope f cd A outer s H E) [] (start N vs) H s1:=by
 have hpl:ps.length<=N.length:=by have:=congrArg List.length S.pre; rw [YG] at this; omega
 obtain⟨h1,tk,rfl,hk⟩:=x.done
 have noA:∀ b:Addr,b ∉ (cxOf CX P w K mg base N qual scope f cd A outer s H E).ex:=λb z=>absurd (show b∈([]:List Addr) from z) (by simp)
 refine⟨⟨e0.mod,S.kind,rfl,rfl,Yd _,λy z c h1 h2=>?_,λy hy=>?_,λy c _ h=>?_,λ_=>hd,Around.frames_deeper e0.frames,.inr ⟨rfl,rfl⟩,λb z=>absurd z (noA b),e0.bs,e0.bsz,λb _ _=>noA b,λb z=>absurd z (noA b),e0.funs,e0.frf⟩,
  rfl,e0.bare,Un.kept hk,⟨_,x.toInCall.ns,λi y v h1 h2 h3=>?_⟩,λy c h=>⟨_,x.cell y c h⟩,e0.hok.fresh (Nat.le_refl _),λy c h=>?_,λp hp=>absurd (show p∈([]:List (Addr × Obj)) from hp) (by simp),e0.hok.kept hk,?_⟩
 ·exact name_of_addr x.apart (YV h1) (YV h2)
 ·have hy:scope.names.lookup y=some .cell\/scope.names.lookup y=some .free:=hy
  rcases hy with hy | hy
  ·exact cell_has hy
  ·exact absurd rfl (S.nofree _ (YV hy))
 ·exact Yt (x.above y c (YV h))
 ·have hi:i < vs.length:=by
   unfold start at h2
   by_cases hi:i < vs.length
   ·exact hi
   ·rw [List.getElem?_append_right (by simpa using hi)] at h2
    rw [List.getElem?_replicate] at h2
    split at h2 <;> cases h2
  have ha:vs[i]?=some v:=by
   unfold start at h2
   rw [List.getElem?_append_left (by simpa using hi),List.getElem?_map] at h2
   cases e:vs[i]? with
   | none=>rw [e] at h2; cases h2
   | some a=>rw [e] at h2; cases h2; rfl
  obtain⟨u,hu,rv⟩:=r.get ha
  have hp:ps[i]?=some y:=by
   rw [<- S.pre,List.getElem?_take_of_lt (by omega)]; exact h1
  have ndP:ps.Nodup:=by rw [<- S.pre]; exact S.nd.sublist (List.take_sublist _ _)
  refine⟨u,rv,?_⟩
  rcases S.par y (Yo hp) with k | k
  ·exact .inl ⟨k,bindL_get ndP hp hu k⟩
  ·obtain⟨c,e⟩:=cell_has (n:=s.heap.objs.size + 1) k
   refine .inr ⟨.inl k,c,e,?_⟩
   have q:=x.cell y c e
   rw [bindC_get ndP hp hu (by show scope.names.lookup y ≠ _; rw [k]; decide)] at q
   exact q
 ·exact e0.hok.fresh (Yt (x.above y c (YV h)))
 ·unfold start
  show _=N.length
  rw [YE,Yg,List.length_replicate]
  omega
def fn_of{CX:CXT}{base:Heap}{f:Addr}{name qual:Str}{params:Arguments}{body:List Stmt}{scope:Scope}{dV kV doc pm cdv ct oc:Value}{an od:Option Addr}
  {osl:Array (Option Value)}{N ps:List Str}{sp:Sp}(lk:K.lookup f=some ⟨oc,od,.func (fnOf name qual params body scope dV kV doc pm an cdv ct),osl⟩) (hcd:codeIn K cdv qual=true) (S:FnScope N ps scope)
  (len:∀ vs H Q E,sp vs H Q E->vs.length=ps.length)
  (hbody:∀ (A:Around) (outer:List Env) (s:Shared) (H:Hp) (vs:List V) (Q:VK) (E:XK),Room k (A.deeper (envOfC qual scope s.heap.objs.size f cdv))->sp vs H Q E ->
   ∃ t,PSs (cxOf CX P w K mg base N qual scope f cdv A outer s H E) body t/\t { nx:=λ_ H'=>Q .non H',rt:=Q } (start N vs) H) :
  FnOk P w K mg base CX (k + 1) f (fnOf name qual params body scope dV kV doc pm an cdv ct) ps sp:=by
 refine⟨len,λA outer s H args us vs Q E hr e0 hb r hsp=>?_⟩
 have hl:=len _ _ _ _ hsp
 have KX:K.In s.heap:=e0.mod.kin.keeps λb o e=>(e0.bs b o e).1
 have lim:s.heap.NoLimit:=e0.mod.nolimit.keeps λb o e=>(e0.bs b o e).1
 have hkind:∀ y∈ps.zip us,scope.names.lookup y.1=some .local\/(scope.names.lookup y.1=some .cell/\((cellsFrom (s.heap.objs.size + 1) scope.names []).lookup y.1).isSome=true):=λ⟨n,v⟩ hy=>by
  rcases S.par n (VM hy).1 with q | q
  ·exact .inl q
  ·exact .inr ⟨q,cellsFrom_some _ _ _ (.inl q)⟩
 refine codeAny_call_function hr.depth (KX _ _ lk) rfl S.co S.gen rfl (PySem.W.codeRec_of KX hcd) (hb _ _ _ _ ?_)
 refine wpAny_newFunctionEnv_cells S.kind hkind λenv he s1 x=>?_
 subst he
 refine⟨lim.keeps x.toInCall.keep,codeAny_func ?_⟩
 obtain⟨t,ht,hq⟩:=hbody A outer s H vs Q E (hr.deeper _) hsp
 have I:Inv (cxOf CX P w K mg base N qual scope f cdv A outer s H E) [] (start N vs) H s1:=inv_start S hr.hd e0 hl r x
 refine Yv (ht [] s1 (start N vs) H _ I hq) (λfl s' hs=>?_) λe s' hs=>hs
 have fin:∀ {Z':St}{H':Hp}{v:V}{u:Value},Inv (cxOf CX P w K mg base N qual scope f cdv A outer s H E) [] Z' H' s'->RelV v u->Q v H'->CE outer P w H s Q u s' :=
  λ{Z' H' v u} J rv q=>⟨v,H',J.os,J.bare,J.base,J.hok,rv,q⟩
 cases fl with
 | ret u =>
  obtain⟨v,Z',H',J,rv,q⟩:=hs
  exact fin J rv q
 | next =>
  obtain⟨Z',H',J,q⟩:=hs
  exact fin (v:=V.non) (u:=Value.none) J rfl q
 | brk =>
  obtain⟨_,_,_,q⟩:=hs
  exact False.elim q
 | cont =>
  obtain⟨_,_,_,q⟩:=hs
  exact False.elim q
section
variable {X:Cx}{x:Str}{p pos:Pos}{e:Expr}{es:List Expr}{t:TA}{id T:String}{r:List V->Hp->VK->Prop}
def tCB(r:List V->Hp->VK->Prop)(t:TA):TE:=λZ H Q=>t Z H λvs H1=>r vs H1 Q
def pe_callB(hc:CallR X (.builtin id) r)(hg:Gl X x)(hm:X.mg x=none)(hv:bootBuiltins x=some (.builtin id))(ha:PA X (e :: es) t)(hn:x ≠ "__name__":=by decide)(hdb:(x == ("__debug__":Str))=false:=by decide)
  (he:starEach (e :: es) X.env=(false,eval e X.env) :: starEach es X.env:=by rfl) (hpl:(backTo pos (starEach es X.env)).any (·.1)=false:=by rfl):PE X (.Call (.Name x p) (e :: es) [] pos) (tCB r t):=by
 intro pins s Z H Q I h
 refine Vm (ld_blt I hg hm hv ?_ hn hdb)
 exact PyProof.Rows.callWith_builtin1 (thn (ha pos pins s Z H _ I h) λus s1 ⟨vs,H1,I1,r1,q1⟩=>hc pins s1 Z H1 vs us Q I1 r1 q1) he hpl
def pe_callTy(hc:CallR X (.type T) r)(hg:Gl X x)(hm:X.mg x=none)(hv:bootBuiltins x=some (.type T))(ha:PA X (e :: es) t)(hn:x ≠ "__name__":=by decide)(hdb:(x == ("__debug__":Str))=false:=by decide)
  (he:starEach (e :: es) X.env=(false,eval e X.env) :: starEach es X.env:=by rfl) (hpl:(backTo pos (starEach es X.env)).any (·.1)=false:=by rfl):PE X (.Call (.Name x p) (e :: es) [] pos) (tCB r t):=by
 intro pins s Z H Q I h
 refine Vm (ld_blt I hg hm hv ?_ hn hdb)
 exact VC (thn (ha pos pins s Z H _ I h) λus s1 ⟨vs,H1,I1,r1,q1⟩=>hc pins s1 Z H1 vs us Q I1 r1 q1) he hpl
end
end L2
namespace HT
open PySem PyProof.Rows
section
open PySem.SeqAt
open PySem.AutoSeq1 (wpAny_loadPart')
open PySem.MeetsSeq PySem.MeetsSeq2 PySem.MeetsSeq3
end
section
variable {prog:Program}{w:World}{A:Around}{E:VSP}{s:Shared}
def sIx(n d:Nat):Option Int->Nat
 | none=>d
 | some v=>if v < 0 then (v + (n:Int)).toNat else min v.toNat n
def sIx_none(n d:Nat):sIx n d none=d:=rfl
def sIx_nat(n d k:Nat):sIx n d (some (k:Int))=min k n:=by
 show (if (k:Int) < 0 then ((k:Int) + (n:Int)).toNat else min (k:Int).toNat n)=min k n
 rw [if_neg (by omega),Y9]
end
end HT
namespace L2
open PySem PySem.Spec PyProof.Rows
abbrev TO:=St->Hp->(Option Int->Hp->Prop)->Prop
def PO(X:Cx)(e:Option Expr)(t:TO):Prop :=
 ∀ (pins:List (Addr × Obj)) (s:Shared) (Z:St) (H:Hp) (Q:Option Int->Hp->Prop),Inv X pins Z H s->t Z H Q ->
  wpAny (model X.prog X.w) X.A (evalPart e X.env) (λu s'=>∃ o H',Inv X pins Z H' s'/\IsPart u o/\Q o H') X.xe s
def tNoPart:TO:=λ_ H Q=>Q none H
def tPart(t:TE):TO:=λZ H Q=>t Z H λx H1=>∃ i,x=.int i/\Q (some i) H1
section
variable {X:Cx}{e:Expr}{te:TE}{lo hi:Option Expr}{tl th:TO}{pos p2:Pos}
def po_none:PO X none tNoPart:=by
 intro pins s Z H Q I h
 rw [evalPart_none]
 exact Yc ⟨none,H,I,.none,h⟩
def po_some(h:PE X e te):PO X (some e) (tPart te):=by
 intro pins s Z H Q I hw
 rw [evalPart_some]
 refine thn (h pins s Z H _ I hw) λu s1 ⟨x,H1,I1,r1,q1⟩=>?_
 obtain⟨i,rfl,q⟩:=q1
 obtain⟨t,rfl⟩:=r1
 exact⟨some i,H1,I1,.int i t,q⟩
def SlR(X:Cx)(r:V->Option Int->Option Int->Hp->VK->Prop):Prop :=
 ∀ (pins:List (Addr × Obj)) (s:Shared) (Z:St) (H:Hp) (x:V) (v vl vu:Value) (lo hi:Option Int) (sl:Addr) (Q:VK),Inv X pins Z H s->RelV x v->s.heap.IsSliceOf sl vl vu .none->IsPart vl lo->IsPart vu hi->r x lo hi H Q ->
  ∃ T id,typeLookup (.type T) "__getitem__"=pure (some (.builtin id))/\s.TypeIs v T/\wpAny (model X.prog X.w) X.A (getItem v (.ref sl)) (EP X pins Z Q) X.xe s
def SlR.or{r r':V->Option Int->Option Int->Hp->VK->Prop}(h:SlR X r)(h':SlR X r'):SlR X (λx lo hi H Q=>r x lo hi H Q\/r' x lo hi H Q):=by
 intro pins s Z H x v vl vu lo hi sl Q I rx hs pl pu q
 rcases q with q | q
 ·exact h pins s Z H x v vl vu lo hi sl Q I rx hs pl pu q
 ·exact h' pins s Z H x v vl vu lo hi sl Q I rx hs pl pu q
def tSl(r:V->Option Int->Option Int->Hp->VK->Prop)(te:TE)(tl th:TO):TE:=λZ H Q=>te Z H λx H1=>tl Z H1 λl H2=>th Z H2 λu H3=>r x l u H3 Q
def pe_slice{r:V->Option Int->Option Int->Hp->VK->Prop}(hr:SlR X r)(he:PE X e te)(hl:PO X lo tl)(hu:PO X hi th):PE X (.Subscript e (.Slice lo hi none p2) pos) (tSl r te tl th):=by
 intro pins s Z H Q I h
 refine Subscript_ (thn (he pins s Z H _ I h) λv s1 ⟨x,H1,I1,r1,q1⟩=>?_)
 refine wpAny_Slice (thn (hl pins s1 Z H1 _ I1 q1) λvl s2 ⟨l,H2,I2,pl,q2⟩=>thn (hu pins s2 Z H2 _ I2 q2) λvu s3 ⟨u,H3,I3,pu,q3⟩=>?_)
 rw [evalPart_none]
 refine Yc ?_
 have I4:Inv X pins Z H3 { s3 with heap:=s3.heap.push { cls:=.type "slice",data:=.fields #[vl,vu,.none] } }:=I3.kept (t':=s3.toks) λb ob q=>Yh _ q
 obtain⟨T,id,hT,ht,hg⟩:=hr pins { s3 with heap:=s3.heap.push { cls:=.type "slice",data:=.fields #[vl,vu,.none] } } Z H3 x v vl vu l u s3.heap.objs.size Q I4 r1 (Heap.IsSliceOf.new ..) pl pu q3
 show wpAny (model X.prog X.w) X.A (subscriptTail e (.Slice lo hi none p2) v (.ref s3.heap.objs.size)) (EP X pins Z Q) X.xe { s3 with heap:=s3.heap.push { cls:=.type "slice",data:=.fields #[vl,vu,.none] } }
 exact tail_any (ops:=[.ref s3.heap.objs.size,v]) ht hT hg (by with_unfolding_all rfl)
def cutV(xs:List V)(lo hi:Option Int):List V:=(xs.drop (HT.sIx xs.length 0 lo)).take (HT.sIx xs.length xs.length hi - HT.sIx xs.length 0 lo)
def cutV_length(xs:List V)(lo hi:Option Int):(cutV xs lo hi).length<=xs.length:=by
 unfold cutV
 rw [YG,List.length_drop]
 omega
end
def ixN(n:Nat)(i:Int):Option Nat:=if 0<=i then (if i < n then some i.toNat else none) else if -(n:Int)<=i then some (i + n).toNat else none
def atI{α:Type}(xs:List α)(i:Int):Option α:=(ixN xs.length i).bind λj=>xs[j]?
def ixN_seq{n:Nat}{i:Int}{j:Nat}(h:ixN n i=some j):seqIndex? i n=some j/\j < n/\-(n:Int)<=i/\i < n:=by
 unfold ixN at h
 by_cases h0:0<=i
 ·rw [if_pos h0] at h
  by_cases h1:i < n
  ·rw [if_pos h1] at h
   have e:i.toNat=j:=YK h
   exact⟨by rw [seqIndex_of h0 h1,e],by omega,by omega,h1⟩
  ·rw [if_neg h1] at h; cases h
 ·rw [if_neg h0] at h
  by_cases h1:-(n:Int)<=i
  ·rw [if_pos h1] at h
   have e:(i + n).toNat=j:=YK h
   exact⟨by rw [seqIndex_neg (by omega) h1,e],by omega,h1,by omega⟩
  ·rw [if_neg h1] at h; cases h
def atI_get{α:Type}{xs:List α}{i:Int}{v:α}(h:atI xs i=some v):∃ j,seqIndex? i xs.length=some j/\xs[j]?=some v/\j < xs.length/\-(xs.length:Int)<=i/\i < xs.length:=by
 unfold atI at h
 cases e:ixN xs.length i with
 | none=>rw [e] at h; cases h
 | some j =>
  rw [e] at h
  obtain⟨h1,h2,h3,h4⟩:=ixN_seq e
  exact⟨j,h1,h,h2,h3,h4⟩
theorem atI_nat{α:Type}{xs:List α}{j:Nat}{v:α}(h:xs[j]?=some v):atI xs (j:Int)=some v:=by
 have hj:j < xs.length:=(Yf.mp h).1
 have e:ixN xs.length (j:Int)=some j:=by
  unfold ixN
  rw [if_pos (by omega),if_pos (by omega)]; simp
 unfold atI; rw [e]; exact h
def PlainIx(b:Expr):Prop:=∀ o i,subscripted b false o i=operate [o,i] (getItem o i)
def IxR(X:Cx)(r:R2):Prop :=
 ∀ (value slice:Expr) (pins:List (Addr × Obj)) (s:Shared) (Z:St) (H:Hp) (x y:V) (v u:Value) (Q:VK),Inv X pins Z H s->RelV x v->RelV y u->r x y H Q ->
  subscripted slice false v u=operate [v,u] (getItem v u)->wpAny (model X.prog X.w) X.A (subscriptTail value slice v u) (EP X pins Z Q) X.xe s
def MtR(X:Cx)(id:String)(r:V->List V->Hp->VK->Prop):Prop :=
 ∀ (pins:List (Addr × Obj)) (s:Shared) (Z:St) (H:Hp) (x:V) (xs:List V) (v:Value) (us:List Value) (Q:VK),Inv X pins Z H s->RelV x v->Vals xs us->r x xs H Q ->
  wpAny (model X.prog X.w) X.A (call (.builtin id) (v :: us)) (EP X pins Z Q) X.xe s
section
variable {X:Cx}{a b:Expr}{ta tb:TE}{pos:Pos}
def IxR.or{r r':R2}(h:IxR X r)(h':IxR X r'):IxR X (λx y H Q=>r x y H Q\/r' x y H Q):=by
 intro value slice pins s Z H x y v u Q I rx ry q hs
 rcases q with q | q
 ·exact h value slice pins s Z H x y v u Q I rx ry q hs
 ·exact h' value slice pins s Z H x y v u Q I rx ry q hs
def MtR.or{id:String}{r r':V->List V->Hp->VK->Prop}(h:MtR X id r)(h':MtR X id r'):MtR X id (λx xs H Q=>r x xs H Q\/r' x xs H Q):=by
 intro pins s Z H x xs v us Q I rx rs q
 rcases q with q | q
 ·exact h pins s Z H x xs v us Q I rx rs q
 ·exact h' pins s Z H x xs v us Q I rx rs q
def pe_ix{r:R2}(hr:IxR X r)(ha:PE X a ta)(hb:PE X b tb)(hs:PlainIx b):PE X (.Subscript a b pos) (tOp r ta tb):=by
 intro pins s Z H Q I h
 exact Subscript_ (binT ha hb I h λv u s2 x y H2 I2 rx ry q=>hr a b pins s2 Z H2 x y v u Q I2 rx ry q (hs _ _))
def rIxL(K:PySem.W.Frag):R2:=λx y H Q=>∃ p xs i v,x=.ref p/\y=.int i/\SqL K H p xs/\atI xs i=some v/\Q v H
def rIxT(K:PySem.W.Frag):R2:=λx y H Q=>∃ p xs i v,x=.ref p/\y=.int i/\SqT K H p xs/\atI xs i=some v/\Q v H
def rIxS:R2:=λx y H Q=>∃ z i c,x=.str z/\y=.int i/\z.length<=sizeLine/\atI z.cps.toList i=some c/\Q (.str ⟨#[c]⟩) H
def ix_list:IxR X (rIxL X.K):=by
 intro value slice pins s Z H x y v u Q I rx ry h hs
 obtain⟨p,xs,i,z,rfl,rfl,hq,he,q⟩:=h
 cases rx
 obtain⟨t,rfl⟩:=ry
 obtain⟨its,r,pl,hz⟩:=I.list hq
 obtain⟨j,h1,h2,h3,h4,h5⟩:=atI_get he
 obtain⟨w,ew,rw'⟩:=r.get h2
 have hl:=r.length
 have hn:=line63
 have fin:EP X pins Z Q w s:=⟨z,H,I,rw',q⟩
 by_cases h0:0<=i
 ·have hj:i.toNat=j:=by
   rw [seqIndex_of h0 h5] at h1
   exact YK h1
  exact item_listR pl.isList h0 (by omega) (by rw [hj]; simpa using ew) fin hs
 ·have hj:(i + (its.toArray.size:Int)).toNat=j:=by
   rw [seqIndex_neg (by omega) h4] at h1
   rw [YM,<- hl]
   exact YK h1
  exact subscriptTail_builtinR (x:=w) pl.isList.typeIs slot_list_getitem.lookup
   (wpAny_getItem_list_neg (Q:=λr s'=>r=w/\EP X pins Z Q r s') pl.isList (by omega) (by rw [List.size_toArray] <;> omega) (by omega) (by rw [hj]; simpa using ew) ⟨rfl,fin⟩) hs
def ix_tup:IxR X (rIxT X.K):=by
 intro value slice pins s Z H x y v u Q I rx ry h hs
 obtain⟨p,xs,i,z,rfl,rfl,hq,he,q⟩:=h
 cases rx
 obtain⟨t,rfl⟩:=ry
 obtain⟨its,r,pl,hz⟩:=I.tuple hq
 obtain⟨j,h1,h2,h3,h4,h5⟩:=atI_get he
 obtain⟨w,ew,rw'⟩:=r.get h2
 have hl:=r.length
 have hn:=line63
 have fin:EP X pins Z Q w s:=⟨z,H,I,rw',q⟩
 exact subscriptTail_builtinR (x:=w) pl.typeIs slot_tuple_getitem.lookup
  (getItem_tuple (j:=j) (Q:=λr s'=>r=w/\EP X pins Z Q r s') pl (by omega) (by omega) (by rw [List.size_toArray,<- hl]; exact h1) (by simpa using ew) ⟨rfl,fin⟩) hs
def ix_str:IxR X rIxS:=by
 intro value slice pins s Z H x y v u Q I rx ry h hs
 obtain⟨z,i,c,rfl,rfl,hz,he,q⟩:=h
 obtain⟨t,rfl⟩:=rx
 obtain⟨t',rfl⟩:=ry
 obtain⟨j,h1,h2,h3,h4,h5⟩:=atI_get he
 have hl:z.cps.toList.length=z.length:=by simp [Str.length]
 rw [hl] at h1 h4 h5
 have hn:=line63
 exact tail_any (typeIs_str s z t) slot_str_getitem.lookup (getItem_str (c:=c) (by
  have e1:decide (i < -(2 ^ 63:Int))=false:=YQ (by omega)
  have e2:decide (i >= 2 ^ 63)=false:=YQ (by omega)
  rw [e1,e2,Bool.or_false]) (by rw [h1]; simpa using h2) ⟨.str ⟨#[c]⟩,H,I.tok _,⟨_,rfl⟩,q⟩) hs
def mapSeq_set(its:List Value)(n j:Nat)(u:Value):Obj.mapSeq (·.setIfInBounds j u) { cls:=.type "list",data:=.seq its.toArray n }={ cls:=.type "list",data:=.seq (its.set j u).toArray n }:=by
 simp [Obj.mapSeq]
theorem Inv.lst{pins:List (Addr × Obj)}{Z:St}{H:Hp}{s:Shared}{p:Addr}{xs:List V}(I:Inv X pins Z H s)(h:H p=some (.lst xs)) :
  ∃ (its:List Value) (n:Nat),Vals xs its/\s.heap.get? p=some { cls:=.type "list",data:=.seq its.toArray n }/\xs.length<=sizeLine:=by
 obtain⟨z,its,n,r,e⟩:=I.hok p _ h
 exact⟨its,n,r,e,z⟩
def Inv.lstUpd{pins:List (Addr × Obj)}{Z:St}{H:Hp}{s:Shared}{p:Addr}{xs ys:List V}{its its':List Value}{n n':Nat}{f:Obj->Obj}(I:Inv X pins Z H s)(h:H p=some (.lst xs))
  (ho:s.heap.get? p=some { cls:=.type "list",data:=.seq its.toArray n }) (hf:f { cls:=.type "list",data:=.seq its.toArray n }={ cls:=.type "list",data:=.seq its'.toArray n' }) (r:Vals ys its') (hz:ys.length<=sizeLine) (t:Nat) :
  Inv X pins Z (upd H p (.lst ys)) { s with heap:=s.heap.update p f,toks:=t }:=by
 have e:(s.heap.update p f).get? p=some { cls:=.type "list",data:=.seq its'.toArray n' }:=by
  rw [VW f ho (by rw [hf] <;> rfl),hf]
 refine I.write (x:=p) (e:=p) (by rw [h]; trivial) (.inl rfl) (λb u hb q=>(Vj _ _ (Ne.symm hb)).trans q) ⟨_,e⟩ ?_
 exact⟨hz,its',n',r,e⟩
def rSetL:V->V->V->Hp->(Hp->Prop)->Prop:=λo i v H Q=>∃ p xs k j,o=.ref p/\i=.int k/\H p=some (.lst xs)/\ixN xs.length k=some j/\Q (upd H p (.lst (xs.set j v)))
def set_list:PSet X rSetL:=by
 intro pins s Z H o i v ov iv u Q I ro ri rv h
 obtain⟨p,xs,k,j,rfl,rfl,hp,hj,q⟩:=h
 cases ro
 obtain⟨t,rfl⟩:=ri
 obtain⟨its,n,r,ho,hz⟩:=I.lst hp
 obtain⟨h1,h2,h3,h4⟩:=ixN_seq hj
 have hl:=r.length
 have hn:=line63
 have I':Inv X pins Z (upd H p (.lst (xs.set j v))) { s with heap:=s.heap.update p (Obj.mapSeq (·.setIfInBounds j u)) } :=
  I.lstUpd hp ho (mapSeq_set its n j u) (r.set rv j) (by rw [List.length_set]; exact hz) s.toks
 by_cases h0:0<=k
 ·have hk:k.toNat=j:=by
   rw [seqIndex_of h0 h4] at h1
   exact YK h1
  exact PySem.W.ki_setAt ho h0 (by omega) (by rw [YM,<- hl]; exact h4) (by rw [hk]; exact⟨_,I',q⟩)
 ·have hk:(k + (its.toArray.size:Int)).toNat=j:=by
   rw [seqIndex_neg (by omega) h3] at h1
   rw [YM,<- hl]
   exact YK h1
  exact PySem.W.ki_setBack ho (by omega) (by rw [YM,<- hl]; exact h3) (by omega) (by rw [hk]; exact⟨_,I',q⟩)
def slice_bounds(lo hi:Option Int)(n:Nat):(sliceBounds lo hi none n).1=((HT.sIx n 0 lo:Nat):Int)/\(sliceBounds lo hi none n).2.1=((HT.sIx n n hi:Nat):Int)/\(sliceBounds lo hi none n).2.2=1:=by
 refine⟨?_,?_,rfl⟩
 ·cases lo with
  | none=>simp [sliceBounds,HT.sIx]
  | some i =>
   simp only [sliceBounds,HT.sIx,Option.getD_none,show (1:Int) > 0 by decide,if_true]
   by_cases h:i < 0
   ·simp only [h,if_true] <;> omega
   ·simp only [h,if_false] <;> omega
 ·cases hi with
  | none=>simp [sliceBounds,HT.sIx]
  | some i =>
   simp only [sliceBounds,HT.sIx,Option.getD_none,show (1:Int) > 0 by decide,if_true]
   by_cases h:i < 0
   ·simp only [h,if_true] <;> omega
   ·simp only [h,if_false] <;> omega
def slicePick_cut(its:List Value)(lo hi:Option Int):slicePick its.toArray lo hi none=((its.drop (HT.sIx its.length 0 lo)).take (HT.sIx its.length its.length hi - HT.sIx its.length 0 lo)).toArray:=by
 obtain⟨h1,h2,h3⟩:=slice_bounds lo hi its.toArray.size
 unfold slicePick
 rw [h1,h2,h3]
 simp only [sliceRange_one,pick_run,List.size_toArray] <;> rfl
def rSlL(K:PySem.W.Frag):V->Option Int->Option Int->Hp->VK->Prop:=λx lo hi H Q=>∃ a xs,x=.ref a/\SqL K H a xs/\∀ p,H p=none->Q (.ref p) (upd H p (.lst (cutV xs lo hi)))
def sl_list:SlR X (rSlL X.K):=by
 intro pins s Z H x v vl vu lo hi sl Q I rx hs pl pu h
 obtain⟨a,xs,rfl,hx,q⟩:=h
 cases rx
 obtain⟨its,r,ht,hz⟩:=I.list hx
 have hlen:=r.length
 refine⟨"list",_,slot_list_getitem.lookup,ht.isList.typeIs,?_⟩
 refine wpAny_getItem_list_slice ht.isList hs pl pu .none (by simp) ?_ (by rw [List.size_toArray] <;> omega)
 rw [slicePick_cut,<- hlen]
 refine⟨.ref s.heap.objs.size,_,I.laid (t':=s.toks) (o:=.lst (cutV xs lo hi)) (λb ob q=>Yh _ q) (Yd _) ?_,rfl,q _ (I.hok.fresh (Yd _))⟩
 exact⟨Yi (cutV_length xs lo hi) hz,_,0,(r.drop (HT.sIx xs.length 0 lo)).take (HT.sIx xs.length xs.length hi - HT.sIx xs.length 0 lo),Yn _ rfl⟩
def flatV:V->Bool
 | .non=>true
 | .bl _=>true
 | .int _=>true
 | .str _=>true
 | _=>false
def eqV:V->V->Bool
 | .non,.non=>true
 | .bl a,.bl b=>a == b
 | .bl a,.int b=>(if a then 1 else 0) == b
 | .int a,.bl b=>a == (if b then 1 else 0)
 | .int a,.int b=>a == b
 | .str a,.str b=>a == b
 | _,_=>false
def eqAt_V{A:Around}{s:Shared}{y x:V}{u v:Value}(ry:RelV y u)(rx:RelV x v)(fy:flatV y=true)(fx:flatV x=true):SeqAt.EqAt A s u v (eqV y x):=by
 cases y with
 | non =>
  cases ry
  cases x with
  | non=>cases rx; exact SeqAt.EqAt.same _
  | bl b=>cases rx; exact SeqAt.EqAt.none_bool b
  | int b=>obtain⟨t,rfl⟩:=rx; exact SeqAt.EqAt.none_int b t
  | str b=>obtain⟨t,rfl⟩:=rx; exact SeqAt.EqAt.none_str b t
  | _=>exact absurd (show false=true from fx) Yu
 | bl a =>
  cases ry
  cases x with
  | non=>cases rx; exact SeqAt.EqAt.bool_none a
  | bl b=>cases rx; exact SeqAt.EqAt.bool_bool a b
  | int b=>obtain⟨t,rfl⟩:=rx; exact SeqAt.EqAt.bool_int a b t
  | str b=>obtain⟨t,rfl⟩:=rx; exact SeqAt.EqAt.bool_str a b t
  | _=>exact absurd (show false=true from fx) Yu
 | int a =>
  obtain⟨t',rfl⟩:=ry
  cases x with
  | non=>cases rx; exact SeqAt.EqAt.int_none a t'
  | bl b=>cases rx; exact SeqAt.EqAt.int_bool a t' b
  | int b=>obtain⟨t,rfl⟩:=rx; exact SeqAt.EqAt.int_int a t' b t
  | str b=>obtain⟨t,rfl⟩:=rx; exact SeqAt.EqAt.int_str a t' b t
  | _=>exact absurd (show false=true from fx) Yu
 | str a =>
  obtain⟨t',rfl⟩:=ry
  cases x with
  | non=>cases rx; exact SeqAt.EqAt.str_none a t'
  | bl b=>cases rx; exact SeqAt.EqAt.str_bool a t' b
  | int b=>obtain⟨t,rfl⟩:=rx; exact SeqAt.EqAt.str_int a t' b t
  | str b=>obtain⟨t,rfl⟩:=rx; exact SeqAt.EqAt.str_str a t' b t
  | _=>exact absurd (show false=true from fx) Yu
 | _=>exact absurd (show false=true from fy) Yu
def eqU(x:V)(u:Value):Bool:=match u with
 | .none=>eqV .non x
 | .bool b=>eqV (.bl b) x
 | .int i _=>eqV (.int i) x
 | .str z _=>eqV (.str z) x
 | _=>false
def eqU_of{x y:V}{u:Value}(r:RelV y u)(f:flatV y=true):eqU x u=eqV y x:=by
 cases y with
 | non=>cases r; rfl
 | bl b=>cases r; rfl
 | int i=>obtain⟨t,rfl⟩:=r; rfl
 | str z=>obtain⟨t,rfl⟩:=r; rfl
 | _=>exact absurd (show false=true from f) Yu
theorem any_eqU{x:V}:∀ {xs:List V}{us:List Value},Vals xs us->xs.all flatV=true->us.any (eqU x)=xs.any λy=>eqV y x
 | _,_,.nil,_=>rfl
 | y :: xs,u :: us,.cons r t,f=>by
  rw [List.all_cons,VI] at f
  rw [VA,VA,eqU_of r f.1,any_eqU t f.2]
theorem mem_eqAt{A:Around}{s:Shared}{x:V}{v:Value}(rx:RelV x v)(fx:flatV x=true):∀ {xs:List V}{us:List Value},Vals xs us->xs.all flatV=true->∀ u∈us,SeqAt.EqAt A s u v (eqU x u)
 | _,_,.nil,_=>λu hu=>by cases hu
 | y :: xs,u :: us,.cons r t,f=>λu' hu=>by
  rw [List.all_cons,VI] at f
  rcases Yl.mp hu with rfl | hu
  ·rw [eqU_of r f.1]; exact eqAt_V r rx f.1 fx
  ·exact mem_eqAt rx fx t f.2 u' hu
def inV(x:V)(xs:List V):Bool:=xs.any λy=>eqV y x
def rIn(K:PySem.W.Frag)(neg:Bool):R2:=λx y H Q=>∃ p xs,y=.ref p/\(SqL K H p xs\/SqT K H p xs)/\flatV x=true/\xs.all flatV=true/\Q (.bl (if neg then !inV x xs else inV x xs)) H
theorem op_notIn_seq:OpR X (compareOp .NotIn) (rIn X.K true):=by
 intro pins s Z H x y v u Q I rx ry h
 obtain⟨p,xs,rfl,hq,fx,fs,q⟩:=h
 cases ry
 rcases hq with hq | hq
 ·obtain⟨its,r,pl,hz⟩:=I.list hq
  refine SeqAt.notIn_listAt (eqU x) pl.isList (λw hw=>mem_eqAt rx fx r fs w (by simpa using hw)) ⟨.bl _,H,I,rfl,?_⟩
  rw [show its.toArray.any (eqU x)=its.any (eqU x) by simp,any_eqU r fs]
  exact q
 ·obtain⟨its,r,pl,hz⟩:=I.tuple hq
  refine SeqAt.notIn_tupleAt (eqU x) pl (λw hw=>mem_eqAt rx fx r fs w (by simpa using hw)) ⟨.bl _,H,I,rfl,?_⟩
  rw [show its.toArray.any (eqU x)=its.any (eqU x) by simp,any_eqU r fs]
  exact q
def call_len_seq:CallR X (.builtin "len") (λxs H Q=>∃ p ys,xs=[.ref p]/\(SqL X.K H p ys\/SqT X.K H p ys)/\Q (.int ys.length) H):=by
 intro pins s Z H xs us Q I r h
 obtain⟨p,ys,rfl,hq,q⟩:=h
 obtain⟨u,rfl,rx⟩:=vals1 r
 cases rx
 have hn:=line63
 rcases hq with hq | hq
 ·obtain⟨its,r',pl,hz⟩:=I.list hq
  have hlen:=r'.length
  exact Calls.call_len_list pl.isList (by simp only [List.size_toArray] <;> omega) ⟨.int ys.length,H,I.tok _,⟨s.toks + 1,by rw [List.size_toArray,hlen]⟩,q⟩
 ·obtain⟨its,r',pl,hz⟩:=I.tuple hq
  have hlen:=r'.length
  exact len_tuple pl (by simp only [List.size_toArray] <;> omega) ⟨.int ys.length,H,I.tok _,⟨s.toks + 1,by rw [List.size_toArray,hlen]⟩,q⟩
def CallR.or{f:Value}{r r':List V->Hp->VK->Prop}(h:CallR X f r)(h':CallR X f r'):CallR X f (λxs H Q=>r xs H Q\/r' xs H Q):=by
 intro pins s Z H xs us Q I rs q
 rcases q with q | q
 ·exact h pins s Z H xs us Q I rs q
 ·exact h' pins s Z H xs us Q I rs q
def call_list_of:CallR X (.type "list") (λxs H Q=>∃ p ys,xs=[.ref p]/\(SqL X.K H p ys\/SqT X.K H p ys)/\∀ l,H l=none->Q (.ref l) (upd H l (.lst ys))):=by
 intro pins s Z H xs us Q I r h
 obtain⟨p,ys,rfl,hq,q⟩:=h
 obtain⟨u,rfl,rx⟩:=vals1 r
 cases rx
 have fin:∀ (its:List Value),Vals ys its->ys.length<=sizeLine->∀ (h':Heap) (c':Nat),(∀ b o',s.heap.get? b=some o'->h'.get? b=some o') ->
   h'.get? s.heap.objs.size=some { cls:=.type "list",dict:=none,data:=.seq its.toArray c',slots:=#[] }->EP X pins Z Q (.ref s.heap.objs.size) { s with heap:=h' }:=λits r' hz h' c' kp e =>
  ⟨.ref s.heap.objs.size,_,I.laid (t':=s.toks) kp (Yd _) (show ObjOk X.prog X.w _ h' _ (.lst ys) from ⟨hz,its,c',r',e⟩),rfl,q _ (I.hok.fresh (Yd _))⟩
 rcases hq with hq | hq
 ·obtain⟨its,r',pl,hz⟩:=I.list hq
  have hlen:=r'.length
  obtain⟨o,ho,hc,n,hd⟩:=pl.isList
  exact call_list_seq p (.inl rfl) ho hc hd (λh' c' kp e=>fin its r' hz h' c' kp e) (by simp only [List.size_toArray] <;> omega)
 ·obtain⟨its,r',pl,hz⟩:=I.tuple hq
  have hlen:=r'.length
  obtain⟨o,ho,hc,n,hd⟩:=pl
  exact call_list_seq p (.inr rfl) ho hc hd (λh' c' kp e=>fin its r' hz h' c' kp e) (by simp only [List.size_toArray] <;> omega)
def tyV(K:PySem.W.Frag)(T:String)(x:V)(H:Hp):Prop:=match x with
 | .str _=>T="str"
 | .int _=>T="int"
 | .ref p=>(T="list"/\∃ xs,SqL K H p xs)\/(T="tuple"/\∃ o,K.lookup p=some o/\o.cls=.type "tuple"/\o.dict=none) \/
   (T="dict"/\((∃ kvs,H p=some (.dK kvs))\/∃ kvs,H p=some (.dT kvs)))\/(T="set"/\∃ S n,H p=some (.set S n))
 | _=>False
def tyV_is{pins:List (Addr × Obj)}{Z:St}{H:Hp}{s:Shared}{T:String}{x:V}{v:Value}(I:Inv X pins Z H s)(r:RelV x v)(ty:tyV X.K T x H) :
  s.TypeIs v T/\∀ a,v=.ref a->∃ ob,s.heap.get? a=some ob/\ob.dict=none:=by
 cases x with
 | str z =>
  obtain⟨t,rfl⟩:=r
  cases (show T="str" from ty)
  exact⟨typeIs_str s z t,λ_ e=>nomatch e⟩
 | int i =>
  obtain⟨t,rfl⟩:=r
  cases (show T="int" from ty)
  exact⟨typeIs_int s i t,λ_ e=>nomatch e⟩
 | ref p =>
  cases r
  rcases ty with ⟨rfl,xs,hq⟩ | ⟨rfl,o,hk,hc,hd⟩ | ⟨rfl,hk⟩ | ⟨rfl,S,n,hk⟩
  ·obtain⟨its,_,pl,_⟩:=I.list hq
   refine⟨pl.isList.typeIs,λa e=>?_⟩
   cases e
   obtain⟨o,n,e,c,hd,_⟩:=pl
   exact⟨o,e,hd⟩
  ·refine⟨⟨o,I.kIn p o hk,hc⟩,λa e=>?_⟩
   cases e
   exact⟨o,I.kIn _ o hk,hd⟩
  ·have z:∃ o,s.heap.get? p=some o/\o.ExactDict:=by
    rcases hk with ⟨kvs,hk⟩ | ⟨kvs,hk⟩
    ·obtain⟨_,_,_,_,o,_,_,e,ex,_⟩:=I.hok p _ hk
     exact⟨o,e,ex⟩
    ·obtain⟨_,_,_,_,o,_,_,e,ex,_⟩:=I.hok p _ hk
     exact⟨o,e,ex⟩
   obtain⟨o,e,ex⟩:=z
   refine⟨⟨o,e,ex.1⟩,λa e2=>?_⟩
   cases e2
   exact⟨o,e,ex.2.1⟩
  ·obtain⟨o,_,_,_,e,ex,_⟩:=I.hok p _ hk
   refine⟨⟨o,e,ex.1⟩,λa e2=>?_⟩
   cases e2
   exact⟨o,e,ex.2.1⟩
 | _=>exact False.elim ty
def tBM(K:PySem.W.Frag)(T:String)(r:V->List V->Hp->VK->Prop)(to:TE)(t:TA):TE:=λZ H Q=>to Z H λx H1=>tyV K T x H1/\t Z H1 λxs H2=>r x xs H2 Q
variable {o e:Expr}{es:List Expr}{to:TE}{t:TA}{name:Str}{apos cpos:Pos}{T id:String}{r:V->List V->Hp->VK->Prop}
end
def MtM(X:Cx)(id:String)(r:V->List V->Hp->VK->Prop):Prop :=
 ∀ (pins:List (Addr × Obj)) (s:Shared) (Z:St) (H:Hp) (x:V) (xs:List V) (v:Value) (us:List Value) (Q:VK),Inv X pins Z H s->RelV x v->Vals xs us->r x xs H Q ->
  wpAny (model X.prog X.w) X.A (call (.builtin id) (v :: us)) (EP X pins Z Q) X.xe s
def Vals.one:∀ {x:V}{us:List Value},Vals [x] us->∃ u,us=[u]/\RelV x u
 | _,_,.cons r .nil=>⟨_,rfl,r⟩
theorem Vals.zero:∀ {us:List Value},Vals [] us->us=[]
 | _,.nil=>rfl
def Vals.dropLast{xs:List V}{us:List Value}(h:Vals xs us):Vals xs.dropLast us.dropLast:=by
 induction h with
 | nil=>exact .nil
 | cons r t ih =>
  cases t with
  | nil=>exact .nil
  | cons q t'=>exact .cons r ih
def Vals.eraseIdx:∀ {xs:List V}{us:List Value}(i:Nat),Vals xs us->Vals (xs.eraseIdx i) (us.eraseIdx i)
 | _,_,_,.nil=>.nil
 | _,_,0,.cons _ t=>t
 | _,_,i + 1,.cons r t=>.cons r (Vals.eraseIdx i t)
def Vals.reverse{xs:List V}{us:List Value}(h:Vals xs us):Vals xs.reverse us.reverse:=by
 induction h with
 | nil=>exact .nil
 | cons r t ih=>rw [List.reverse_cons,List.reverse_cons]; exact Vals.append ih (.cons r .nil)
def Vals.rep{xs:List V}{us:List Value}(h:Vals xs us):∀ k:Nat,Vals (List.replicate k xs).flatten (List.replicate k us).flatten
 | 0=>.nil
 | k + 1=>by
  rw [List.replicate_succ,List.replicate_succ,List.flatten_cons,List.flatten_cons]
  exact Vals.append h (Vals.rep h k)
def foldl_rep(its:List Value):∀ (k:Nat) (acc:List Value),
  List.foldl (λx1 x2=>x1 ++ x2) acc.toArray (List.replicate k its.toArray)=(acc ++ (List.replicate k its).flatten).toArray
 | 0,acc=>by simp
 | k + 1,acc=>by
  have e:acc.toArray ++ its.toArray=(acc ++ its).toArray:=by simp
  have e2:(acc ++ its) ++ (List.replicate k its).flatten=acc ++ (List.replicate (k + 1) its).flatten:=by
   rw [List.replicate_succ,List.flatten_cons,List.append_assoc]
  rw [<- e2,<- foldl_rep its k (acc ++ its),<- e,List.replicate_succ,List.foldl_cons]
section
variable {X:Cx}{pins:List (Addr × Obj)}{Z:St}{H:Hp}{s:Shared}{l b:Addr}{xs ys zs:List V}
theorem Inv.lset{its its':List Value}{n:Nat}{f:Array Value->Array Value}{t':Nat}(I:Inv X pins Z H s)(hH:H l=some (.lst xs))
  (e:s.heap.get? l=some { cls:=.type "list",data:=.seq its.toArray n }) (hf:f its.toArray=its'.toArray) (hv:Vals ys its') (hz:ys.length<=sizeLine) :
  Inv X pins Z (upd H l (.lst ys)) { s with heap:=s.heap.update l (Obj.mapSeq f),toks:=t' }:=by
 have q:=PySem.IsL.update e f
 rw [hf] at q
 refine I.write (x:=l) (e:=l) (by rw [hH]; exact trivial) (.inl rfl) (λb' u hb hu=>(Vj s.heap (Obj.mapSeq f) (Ne.symm hb)).trans hu) ⟨_,q⟩ ?_
 exact⟨hz,its',_,hv,q⟩
def Inv.lnew{its:List Value}{t':Nat}(I:Inv X pins Z H s)(hv:Vals ys its)(hz:ys.length<=sizeLine) :
  Inv X pins Z (upd H s.heap.objs.size (.lst ys)) { s with heap:=s.heap.push { cls:=.type "list",data:=.seq its.toArray },toks:=t' } :=
 I.laid (λ_ _ q=>Yh _ q) (Yd _) ⟨hz,its,0,hv,Yn _ rfl⟩
theorem Inv.fresh(I:Inv X pins Z H s):H s.heap.objs.size=none:=I.hok.fresh (Yd _)
def Inv.lstM(I:Inv X pins Z H s)(hH:H l=some (.lst xs)):xs.length<=sizeLine/\∃ (its:List Value) (n:Nat),Vals xs its/\xs.length=its.length/\s.heap.get? l=some { cls:=.type "list",data:=.seq its.toArray n }:=by
 obtain⟨z,its,n,r,e⟩:=I.hok l _ hH
 exact⟨z,its,n,r,r.length,e⟩
def notLongL{n:Nat}(h:n<=sizeLine):Builtin.List.listTooLong n=false:=by
 unfold Builtin.List.listTooLong
 exact YQ (by omega)
end
section
variable {X:Cx}
def rAppend:V->List V->Hp->VK->Prop:=λx vs H Q=>∃ l xs y,x=.ref l/\vs=[y]/\H l=some (.lst xs)/\xs.length < sizeLine/\Q .non (upd H l (.lst (xs ++ [y])))
def mt_append:MtM X "list.append" rAppend:=by
 intro pins s Z H x vs v us Q I rx rv h
 obtain⟨l,xs,y,rfl,rfl,hH,hz,q⟩:=h
 cases rx
 obtain⟨u,rfl,ru⟩:=rv.one
 obtain⟨z,its,n,r,hl,e⟩:=I.lstM hH
 refine call_meets F.slot_list_append ⟨_,e,rfl⟩ F.entry_list_append (F.args_list_append_2 _ _) (PySem.list_append l its.toArray n u (by rw [YM]; omega)) ⟨e,?_⟩
 refine⟨.non,_,I.lset (its':=its ++ [u]) hH e (by simp) (r.append (.cons ru .nil)) ?_,rfl,q⟩
 rw [YE,List.length_singleton]
 omega
def rExtend:V->List V->Hp->VK->Prop:=λx vs H Q=>∃ l b xs zs,x=.ref l/\vs=[.ref b]/\H l=some (.lst xs)/\H b=some (.lst zs)/\xs.length + zs.length<=sizeLine/\Q .non (upd H l (.lst (xs ++ zs)))
def mt_extend:MtM X "list.extend" rExtend:=by
 intro pins s Z H x vs v us Q I rx rv h
 obtain⟨l,b,xs,zs,rfl,rfl,hH,hB,hz,q⟩:=h
 cases rx
 obtain⟨u,rfl,ru⟩:=rv.one
 cases ru
 obtain⟨z,its,n,r,hl,e⟩:=I.lstM hH
 obtain⟨z2,its2,n2,r2,hl2,e2⟩:=I.lstM hB
 have hsz:its.toArray.size + its2.toArray.size<=sizeLine:=by rw [YM,YM]; omega
 have hlong:¬ (!its.toArray.isEmpty && Builtin.List.listTooLong (its.toArray.size + its2.toArray.size))=true:=by
  rw [notLongL hsz,Bool.and_false]
  exact Yu
 refine call_meets F.slot_list_extend ⟨_,e,rfl⟩ F.entry_list_extend (F.args_list_extend_2 _ _)
  (AutoSeq1.list_extend_list_list_0 l its.toArray n b its2.toArray n2 hlong (by rw [YM]; omega) (by omega)) ⟨e,e2,?_⟩
 refine⟨.non,_,I.lset (its':=its ++ its2) hH e (by simp) (r.append r2) ?_,rfl,q⟩
 rw [YE]
 omega
def rPop:V->List V->Hp->VK->Prop:=λx vs H Q=>∃ l xs y,x=.ref l/\vs=[]/\H l=some (.lst xs)/\xs[xs.length - 1]?=some y/\Q y (upd H l (.lst xs.dropLast))
def rReverse:V->List V->Hp->VK->Prop:=λx vs H Q=>∃ l xs,x=.ref l/\vs=[]/\H l=some (.lst xs)/\Q .non (upd H l (.lst xs.reverse))
def rClear:V->List V->Hp->VK->Prop:=λx vs H Q=>∃ l xs,x=.ref l/\vs=[]/\H l=some (.lst xs)/\Q .non (upd H l (.lst []))
def rCat:R2:=λx y H Q=>∃ l b xs zs,x=.ref l/\y=.ref b/\H l=some (.lst xs)/\H b=some (.lst zs)/\xs.length + zs.length<=sizeLine/\∀ p,H p=none->Q (.ref p) (upd H p (.lst (xs ++ zs)))
def op_cat:OpR X (binaryOp .Add) rCat:=by
 intro pins s Z H x y v u Q I rx ry h
 obtain⟨l,b,xs,zs,rfl,rfl,hH,hB,hz,q⟩:=h
 cases rx
 cases ry
 obtain⟨z,its,n,r,hl,e⟩:=I.lstM hH
 obtain⟨z2,its2,n2,r2,hl2,e2⟩:=I.lstM hB
 refine PySem.P.add_list e e2 ?_ (by rw [YM,YM]; omega)
 have ea:its.toArray ++ its2.toArray=(its ++ its2).toArray:=by simp
 rw [ea]
 exact⟨.ref _,_,I.lnew (t':=s.toks) (r.append r2) (by rw [YE]; omega),rfl,q _ I.fresh⟩
def rRep:R2:=λx y H Q=>∃ l k xs,x=.ref l/\y=.int k/\H l=some (.lst xs)/\-(2 ^ 63)<=k/\k < 2 ^ 63/\xs.length * k.toNat<=sizeLine /\
 ∀ p,H p=none->Q (.ref p) (upd H p (.lst (List.replicate k.toNat xs).flatten))
theorem len_rep{α:Type}(xs:List α)(k:Nat):(List.replicate k xs).flatten.length=k * xs.length:=by
 induction k with
 | zero=>simp
 | succ k ih=>rw [List.replicate_succ,List.flatten_cons,YE,ih,Nat.succ_mul,Nat.add_comm]
def op_rep:OpR X (binaryOp .Mult) rRep:=by
 intro pins s Z H x y v u Q I rx ry h
 obtain⟨l,k,xs,rfl,rfl,hH,h1,h2,hz,q⟩:=h
 cases rx
 obtain⟨t,rfl⟩:=ry
 obtain⟨z,its,n,r,hl,e⟩:=I.lstM hH
 have hlen:its.toArray.size * k.toNat<=sizeLine:=by rw [YM,<- hl]; exact hz
 have hcap:¬ its.toArray.size * k.toNat > (2 ^ 63 - 1) / 8:=by
  have:(sizeLine:Nat)<=(2 ^ 63 - 1) / 8:=by decide
  omega
 have hfit:¬ (!Builtin.List.listFitsIndex k)=true:=by
  rw [fitsIndex_both h1 h2]
  exact Yu
 have hlong:¬ Builtin.List.listTooLong (its.toArray.size * k.toNat)=true:=by
  rw [notLongL hlen]
  exact Yu
 have hnew:List.foldl (λx1 x2=>x1 ++ x2) #[] (List.replicate (if its.toArray.isEmpty=true then 0 else k.toNat) its.toArray)=(List.replicate k.toNat its).flatten.toArray:=by
  have f0:∀ m:Nat,List.foldl (λx1 x2=>x1 ++ x2) #[] (List.replicate m its.toArray)=(List.replicate m its).flatten.toArray:=λm=>by
   have:=foldl_rep its m []
   rw [List.nil_append] at this
   exact this
  rw [f0]
  cases its with
  | nil=>simp
  | cons a r'=>rw [if_neg (by simp)]
 refine wpAny_binaryOp_repeat_ref (T:="list") (U:="int") (by decide) ⟨_,e,rfl⟩ (λs'=>typeIs_int s' k t) noFill_list_mul F.fills_int_mul F.slot_int_rmul repeat_list F.slot_int_index.lookup
  (call_meets F.slot_int_rmul (typeIs_int s k t) F.entry_int_rmul (F.args_int_rmul_2 _ _) (int___rmul___int_list k t l its.toArray n)
   ⟨e,rfl,⟨_,e,rfl⟩,call_meets F.slot_list_mul ⟨_,e,rfl⟩ F.entry_list_mul (F.args_list_mul_2 _ _) (AutoListH.list___mul___list_int_3 l its.toArray n k t hfit hcap hlong) ⟨e,?_⟩⟩)
 rw [hnew]
 exact⟨.ref _,_,I.lnew (t':=s.toks) (r.rep k.toNat) (by rw [len_rep,Nat.mul_comm]; exact hz),rfl,q _ I.fresh⟩
end
section
variable {prog:Program}{w:World}{A:Around}{E:VSP}{s:Shared}
end
section
variable {X:Cx}
end
end L2
namespace Att
open PySem PySem.W PySem.Calls PyProof.Rows
def ints_of_wellAll{P:Params}{h:Heap}:∀ (ns:List Int) (vs:List Value),WellAll P h vs (ns.map WData.int)->IntsAre vs ns:=by
 intro ns
 induction ns with
 | nil =>
  intro vs w
  rw [List.map_nil] at w
  cases w
  exact .nil
 | cons n ns ih =>
  intro vs w
  rw [Yr] at w
  cases w with
  | cons a b =>
   cases a
   exact .cons _ _ (ih _ b)
def script_of{l:OpenLaw}{n:Nat}(hn:l.most=some n){P:Params}{h:Heap}{args:List WData}{vals:List Value}
  (hpre:l.row.toRowW.claim.pre args=true) (hwl:WellAll P h vals args) :
  ∃ a vs ns,vals=[Value.ref a]/\args=[WData.list (ns.map WData.int)]/\h.get? a=some { cls:=.type "list",data:=.seq vs.toArray }/\IntsAre vs ns/\ns.length<=n:=by
 have hsh:WShape.hasAll [] args [.list .int]=true:=(pre_splitW hpre).1
 have hc:l.pre.holds [] { args:=args }=true:=(pre_splitW hpre).2
 obtain⟨d,r,rfl,h1,h2⟩:=hasAllW_cons hsh
 obtain rfl:=hasAllW_nil h2
 obtain⟨xs,rfl,h3⟩:=hasW_list h1
 obtain⟨ns,rfl⟩:=items_int h3
 have hlen:ns.length<=n:=by
  unfold OpenLaw.pre at hc
  have h4:(WTm.not (.lt (.lit (.int (n:Int))) (.len (.arg 0)))).holds [] { args:=[.list (ns.map .int)] }=true:=by
   have h4:=(holds_andW hc).1
   rw [hn] at h4
   exact h4
  have h5:=condW_of h4 (w_not (w_lt w_lit (w_len_list (w_arg rfl))))
  rw [Yg] at h5
  refine Nat.le_of_not_lt λq=>?_
  have q':(n:Int) < ((ns.length:Nat):Int):=by omega
  first
   | (rw [YX q'] at h5; exact absurd h5 (by decide))
   | (simp at h5; omega)
 cases hwl with
 | cons w1 w2 =>
  cases w2
  cases w1 with
  | list ho hall=>exact⟨_,_,ns,rfl,rfl,ho,ints_of_wellAll ns _ hall,hlen⟩
def post_true(l:OpenLaw)(args:List WData):l.row.toRowW.claim.post args (.bool true) args=true :=
 postW_of (r:=l.row.toRowW) (X:=(true == true))
  (show WShape.has [] (.bool true) .bool=true by first | rfl | decide | simp [WShape.has,WShape.arms,WShape.armsAll])
  (show (WTm.eq .res (.lit (.bool true))).value [] { args:=args,res:=some (.bool true),after:=args }=some (.bool (true == true)) from w_eq_bool (w_res rfl) w_lit) rfl
def attach_call{l:OpenLaw}{n:Nat}{q:Program}{loose:List Str}{XP:(Str->Option Value)->Heap->Prop}{YP:World->Heap->Prop}{d:DefRec}
  (hn:l.most=some n) (hdf:d.params.defaults=[])
  (call:∀ (w:World) (s₀ s₁:Shared) (mg mb:Str->Option Value) (fa:Addr) (o:Obj) (pm cd doc:Value) (a:Addr) (vs:List Value) (ns:List Int),
   Ground q loose [] XP w s₀ mg mb s₁.heap->YP w s₁.heap ->
   s₁.heap.get? fa=some o->o.data=.func (docDef d.name d.params d.body d.scope pm cd doc)->s₁.heap.CodeRec cd d.name->mg d.name=some (.ref fa) ->
   s₁.heap.get? a=some { cls:=.type "list",data:=.seq vs.toArray }->IntsAre vs ns->ns.length<=n->s₁.gens=#[] ->
   codeAny (model l.prog w) callerA (.call (.ref fa) ⟨[.ref a],[]⟩) (λr s'=>r=.ok (.ret (.bool true))/\OldK s₁.heap s'.heap/\s'.os=s₁.os/\AllBare s'.gens) s₁) :
  WalkO q loose XP YP l.row.toRowW d [] (λf vs=>PySem.call f vs):=by
 intro w s₀ s₁ mg mb G Y fa o pm cd doc dV kV ho hd hcd hD hmg hg args vals as hpre hlay hrd hwl hlo
 obtain rfl:dV=.none:=Dflts.none hD hdf
 obtain rfl:kV=.none:=Dflts.noKw hD
 obtain⟨a,vs,ns,rfl,rfl,hobj,hints,hlen⟩:=script_of hn hpre hwl
 refine enter_call (YS (call w s₀ s₁ mg mb fa o pm cd doc a vs ns G Y ho (fd_plain hd) hcd hmg hobj hints hlen hg) λr s' hq=>?_)
 obtain⟨rfl,h2,h3,h4⟩:=hq
 exact⟨.inl ⟨.bool true,.bool true,[],rfl,λ_=>rfl,.bool true,post_true l _,λ_=>⟨List.Pairwise.nil,λ_ hm=>(nomatch hm)⟩⟩,h2,h3,h4⟩
section
variable {prog:Program}{w:World}{A:Around}{E:VSP}{s:Shared}{K:Frag}
def noObjs(h:Heap):Heap:={ h with objs:=#[] }
theorem noObjs_get(h:Heap)(b:Addr):(noObjs h).get? b=none:=by
 cases e:(noObjs h).get? b with
 | none=>rfl
 | some o=>exact absurd (Ye e) (VL _)
def fr_all{h:Heap}{L:Addr}{m:Str->Option Value}(n:h.Ns L m):Fr (noObjs h) L h m :=
 ⟨n,λb o e=>(by rw [noObjs_get] at e; cases e),YD _⟩
end
end Att
namespace L2
open PySem PySem.Spec PyProof.Rows
def vals_ints:∀ {vs:List Value}{ns:List Int},IntsAre vs ns->Vals (ns.map V.int) vs
 | _,_,.nil=>.nil
 | _,_,.cons n t h=>.cons ⟨t,rfl⟩ (vals_ints h)
def inClass(s:Stmt)(j:Nat):Stmt:=match s with
 | .ClassDef _ _ _ body _ _ _ _ _ _ _=>body.getD j (.Pass ⟨0,0,0,0⟩)
 | _=>.Pass ⟨0,0,0,0⟩
def defArgs(s:Stmt):Arguments:=match s with
 | .FunctionDef _ a _ _ _ _ _ _ _ _=>a
 | _=>{ posonlyargs:=[],args:=[],vararg:=none,kwonlyargs:=[],kw_defaults:=[],kwarg:=none,defaults:=[] }
def defBody(s:Stmt):List Stmt:=match s with
 | .FunctionDef _ _ b _ _ _ _ _ _ _=>b
 | _=>[]
def defScope(s:Stmt):Scope:=match s with
 | .FunctionDef _ _ _ _ _ _ sc _ _ _=>sc
 | _=>{ kind:=.function,names:=[],isGenerator:=false,isCoroutine:=false }
abbrev CX0:CXT:=λ_ _ _ _ _ _=>False
abbrev E0:XK:=λ_ _ _=>False
def pass0{X:Cx}:Passes CX0 X E0:=λ_ _ _ _ _ _ _ h=>h.elim
structure Fun(K:PySem.W.Frag)(x qual:Str)(st:Stmt)(f:Addr)(fd:FuncData):Prop where
 ex:∃ (oc:Value) (od:Option Addr) (kV doc pm:Value) (an:Option Addr) (cdv ct:Value) (osl:Array (Option Value)),
  fd=fnOf x qual (defArgs st) (defBody st) (defScope st) .none kV doc pm an cdv ct/\K.lookup f=some ⟨oc,od,.func fd,osl⟩/\codeIn K cdv qual=true
 kp:keepIn K (.ref f)=true
section
variable {P:Program}{w:World}{K:PySem.W.Frag}{mg:Str->Option Value}{base:Heap}
theorem Fun.ok{x qual:Str}{st:Stmt}{f:Addr}{fd:FuncData}{N ps:List Str}{k:Nat}{sp:Sp}(F:Fun K x qual st f fd)(S:FnScope N ps (defScope st))(len:∀ vs H Q E,sp vs H Q E->vs.length=ps.length)
  (hbody:∀ (cdv:Value) (A:Around) (outer:List Env) (s:Shared) (H:Hp) (vs:List V) (Q:VK) (E:XK),Room k (A.deeper (envOfC qual (defScope st) s.heap.objs.size f cdv))->sp vs H Q E ->
   ∃ t,PSs (cxOf CX0 P w K mg base N qual (defScope st) f cdv A outer s H E).nox (defBody st) t/\t { nx:=λ_ H'=>Q .non H',rt:=Q } (start N vs) H):FnOk P w K mg base CX0 (k + 1) f fd ps sp:=by
 obtain⟨oc,od,kV,doc,pm,an,cdv,ct,osl,rfl,lk,hcd⟩:=F.ex
 refine fn_of lk hcd S len λA outer s H vs Q E hr hsp=>?_
 obtain⟨t,h,q⟩:=hbody cdv A outer s H vs Q E hr hsp
 exact⟨t,h.nox,q⟩
def Fun.binds{x qual:Str}{st:Stmt}{f:Addr}{fd:FuncData}{ps:List Str}(F:Fun K x qual st f fd)
  (h:∀ (kV doc pm:Value) (an:Option Addr) (cdv ct:Value) (us:List Value),us.length=ps.length->bindArgs (fnOf x qual (defArgs st) (defBody st) (defScope st) .none kV doc pm an cdv ct) ⟨us,[]⟩=pure (ps.zip us)):Binds K fd ps []:=by
 obtain⟨oc,od,kV,doc,pm,an,cdv,ct,osl,rfl,lk,hcd⟩:=F.ex
 exact .all (h kV doc pm an cdv ct)
def fun_mk{x qual:Str}{st:Stmt}{f:Addr}{oc:Value}{od an:Option Addr}{osl:Array (Option Value)}{kV doc pm cdv ct:Value}(l:K.lookup f=some ⟨oc,od,.func (fnOf x qual (defArgs st) (defBody st) (defScope st) .none kV doc pm an cdv ct),osl⟩)
  (c:codeIn K cdv qual=true) (k:keepIn K (.ref f)=true):Fun K x qual st f (fnOf x qual (defArgs st) (defBody st) (defScope st) .none kV doc pm an cdv ct):=⟨⟨oc,od,kV,doc,pm,an,cdv,ct,osl,rfl,l,c⟩,k⟩
end
def hu_of{A:Around}{k:Nat}(hr:Room k A):A.units + 1 < cLine:=Yx (Nat.add_le_add_left (by decide:1<=64) _) hr.units
def small1000{n:Nat}(h:n<=1000):n < sizeLine:=Yx h (by decide)
section
variable {X:Cx}
end
theorem ite2{c A B:Prop}[Decidable c](h1:c->A)(h2:¬ c->B):if c then A else B:=by
 by_cases h:c
 ·rw [if_pos h]
  exact h1 h
 ·rw [if_neg h]
  exact h2 h
def Same(H H':Hp):Prop:=∀ b o,H b=some o->H' b=some o
def Same.refl(H:Hp):Same H H:=λ_ _ h=>h
theorem Same.trans{H H1 H2:Hp}(a:Same H H1)(b:Same H1 H2):Same H H2:=λc o h=>b c o (a c o h)
theorem Same.free{H H':Hp}(e:Same H H'){l:Addr}(h:H' l=Option.none):H l=Option.none:=by
 cases q:H l with
 | none=>rfl
 | some o =>
  rw [e l o q] at h
  cases h
def Same.seq{K:PySem.W.Frag}{H H':Hp}{a:Addr}{xs:List V}(e:Same H H')(h:SqL K H a xs):SqL K H' a xs:=by
 rcases h with (h | ⟨o,h⟩) | h
 ·exact .inl (.inl (e _ _ h))
 ·exact .inl (.inr ⟨o,e _ _ h⟩)
 ·exact .inr h
section
variable {κ:Type}[DecidableEq κ]
def valV(kvs:List (κ × V))(k:κ):Option V:=(kvs.find? λkv=>decide (kv.1=k)).map (·.2)
def putK(kvs:List (κ × V))(k:κ)(v:V):List (κ × V) :=
 if (kvs.any λkv=>decide (kv.1=k))=true then kvs.map (λkv=>if kv.1=k then (kv.1,v) else kv) else kvs ++ [(k,v)]
def dropK(kvs:List (κ × V))(k:κ):List (κ × V):=kvs.filter λkv=>decide (kv.1 ≠ k)
theorem valV_pos{p:κ × V}{r:List (κ × V)}{k:κ}(e:p.1=k):valV (p :: r) k=some p.2:=by simp [valV,List.find?_cons,e]
theorem valV_neg{p:κ × V}{r:List (κ × V)}{k:κ}(e:¬ p.1=k):valV (p :: r) k=valV r k:=by simp [valV,List.find?_cons,e]
def valV_any(k:κ):∀ kvs:List (κ × V),(kvs.any λkv=>decide (kv.1=k))=(valV kvs k).isSome
 | []=>rfl
 | p :: r=>by
  rw [VA]
  by_cases e:p.1=k
  ·simp only [valV_pos e,decide_eq_true e,Bool.true_or,Option.isSome_some]
  ·rw [valV_neg e,YQ e,Bool.false_or]; exact valV_any k r
def valV_map(k j:κ)(y:V):∀ kvs:List (κ × V),valV (kvs.map λkv=>if kv.1=k then (kv.1,y) else kv) j=(valV kvs j).map λx=>if j=k then y else x
 | []=>rfl
 | p :: r=>by
  have ih:=valV_map k j y r
  rw [Yr]
  by_cases h:p.1=k
  ·rw [if_pos h]
   by_cases e:p.1=j
   ·rw [valV_pos (p:=(p.1,y)) e,valV_pos e,V1,if_pos (e.symm.trans h)]
   ·rw [valV_neg (p:=(p.1,y)) e,valV_neg e,ih]
  ·rw [if_neg h]
   by_cases e:p.1=j
   ·rw [valV_pos (p:=p) e,valV_pos e,V1,if_neg (λz=>h (e.trans z))]
   ·rw [valV_neg (p:=p) e,valV_neg e,ih]
def valV_snoc(k j:κ)(y:V):∀ kvs:List (κ × V),valV kvs k=none->valV (kvs ++ [(k,y)]) j=if j=k then some y else valV kvs j
 | [],_=>by
  by_cases e:k=j
  ·rw [if_pos e.symm]; exact valV_pos (p:=(k,y)) e
  ·rw [if_neg (λz=>e z.symm)]; exact valV_neg (p:=(k,y)) e
 | p :: r,hn=>by
  rw [List.cons_append]
  have hk:¬ p.1=k:=λz=>by rw [valV_pos z] at hn; cases hn
  rw [valV_neg hk] at hn
  have ih:=valV_snoc k j y r hn
  by_cases e:p.1=j
  ·rw [valV_pos e,valV_pos e,if_neg (λz=>hk (e.trans z))]
  ·rw [valV_neg e,valV_neg e,ih]
def valV_put(kvs:List (κ × V))(k j:κ)(y:V):valV (putK kvs k y) j=if j=k then some y else valV kvs j:=by
 unfold putK
 by_cases a:(kvs.any λkv=>decide (kv.1=k))=true
 ·rw [if_pos a,valV_map]
  rw [valV_any] at a
  by_cases e:j=k
  ·obtain⟨x,hx⟩:=Option.isSome_iff_exists.mp a
   rw [if_pos e,e,hx,V1,if_pos rfl]
  ·rw [if_neg e]
   cases valV kvs j with
   | none=>rfl
   | some x=>rw [V1,if_neg e]
 ·rw [if_neg a]
  refine valV_snoc k j y kvs ?_
  rw [valV_any] at a
  cases q:valV kvs k with
  | none=>rfl
  | some x=>rw [q] at a; exact (a rfl).elim
def length_putK(kvs:List (κ × V))(k:κ)(v:V):(putK kvs k v).length<=kvs.length + 1:=by
 unfold putK
 split
 ·rw [Yg]; omega
 ·rw [YE,YO,List.length_nil]; omega
def putK_new{kvs:List (κ × V)}{k:κ}(v:V)(h:valV kvs k=none):putK kvs k v=kvs ++ [(k,v)]:=by
 unfold putK
 rw [valV_any,h]
 exact if_neg (by decide)
def RelO.isSome_eq{o:Option V}{u:Option Value}(r:RelO o u):o.isSome=u.isSome:=by
 cases o with
 | none=>cases u with
  | none=>rfl
  | some _=>exact (show False from r).elim
 | some _=>cases u with
  | none=>exact (show False from r).elim
  | some _=>rfl
theorem RelO.getD{o:Option V}{u:Option Value}{d:V}{d':Value}(r:RelO o u)(rd:RelV d d'):RelV (o.getD d) (u.getD d'):=by
 cases o with
 | none=>cases u with
  | none=>exact rd
  | some _=>exact (show False from r).elim
 | some _=>cases u with
  | none=>exact (show False from r).elim
  | some _=>exact r
def KV.val{kvs:List (κ × V)}{vs:List (κ × Value)}(r:KV kvs vs)(k:κ):RelO (valV kvs k) (valueAt vs k):=by
 unfold KV at r
 induction r with
 | nil=>exact True.intro
 | @cons p q ps qs h t ih =>
  obtain⟨h1,h2⟩:=h
  by_cases e:p.1=k
  ·have e':q.1=k:=h1.symm.trans e
   have b:valueAt (q :: qs) k=some q.2:=by simp [valueAt,List.find?_cons,e']
   rw [valV_pos e,b]; exact h2
  ·have e':¬ q.1=k:=λz=>e (h1.trans z)
   have b:valueAt (q :: qs) k=valueAt qs k:=by simp [valueAt,List.find?_cons,e']
   rw [valV_neg e,b]; exact ih
theorem KV.any{kvs:List (κ × V)}{vs:List (κ × Value)}(r:KV kvs vs)(k:κ):(kvs.any λkv=>decide (kv.1=k))=vs.any λkv=>decide (kv.1=k):=by
 unfold KV at r
 induction r with
 | nil=>rfl
 | cons h t ih=>rw [VA,VA,ih,h.1]
def KV.repl{kvs:List (κ × V)}{vs:List (κ × Value)}(r:KV kvs vs)(k:κ){y:V}{u:Value}(ry:RelV y u) :
  KV (kvs.map λkv=>if kv.1=k then (kv.1,y) else kv) (vs.map λkv=>if kv.1=k then (kv.1,u) else kv):=by
 unfold KV at r ⊢
 induction r with
 | nil=>exact .nil
 | @cons p q ps qs h t ih =>
  rw [Yr,Yr]
  refine .cons ?_ ih
  obtain⟨h1,h2⟩:=h
  by_cases e:p.1=k
  ·rw [if_pos e,if_pos (h1.symm.trans e)]; exact⟨h1,ry⟩
  ·rw [if_neg e,if_neg (λz=>e (h1.trans z))]; exact⟨h1,h2⟩
def KV.put{kvs:List (κ × V)}{vs:List (κ × Value)}(r:KV kvs vs)(k:κ){y:V}{u:Value}(ry:RelV y u):KV (putK kvs k y) (stored vs k u):=by
 unfold putK stored
 rw [r.any k]
 by_cases e:(vs.any λkv=>decide (kv.1=k))=true
 ·rw [if_pos e,if_pos e]; exact r.repl k ry
 ·rw [if_neg e,if_neg e]; exact Paired.snoc r ⟨rfl,ry⟩
theorem KV.drop{kvs:List (κ × V)}{vs:List (κ × Value)}(r:KV kvs vs)(k:κ):KV (dropK kvs k) (without vs k):=by
 unfold KV at r ⊢
 unfold dropK without
 induction r with
 | nil=>exact .nil
 | @cons p q ps qs h t ih =>
  obtain⟨h1,h2⟩:=h
  rw [List.filter_cons,List.filter_cons]
  by_cases e:p.1=k
  ·have a:¬ decide (p.1 ≠ k)=true:=by simp [e]
   have b:¬ decide (q.1 ≠ k)=true:=by simp [h1.symm.trans e]
   rw [if_neg a,if_neg b]; exact ih
  ·have e':¬ q.1=k:=λz=>e (h1.trans z)
   have a:decide (p.1 ≠ k)=true:=by simp [e]
   have b:decide (q.1 ≠ k)=true:=by simp [e']
   rw [if_pos a,if_pos b]; exact .cons ⟨h1,h2⟩ ih
def KV.keys{kvs:List (κ × V)}{vs:List (κ × Value)}(r:KV kvs vs):kvs.map (·.1)=vs.map (·.1):=by
 unfold KV at r
 induction r with
 | nil=>rfl
 | cons h t ih=>rw [Yr,Yr,ih,h.1]
theorem KV.length{kvs:List (κ × V)}{vs:List (κ × Value)}(r:KV kvs vs):kvs.length=vs.length:=Paired.length r
end
def kV_is{P:Program}{w:World}{k:Key}{u:Value}(r:RelV (kV k) u):(mixKind P w).is k u=true:=by
 cases k with
 | inl i=>obtain⟨t,e⟩:=(show ∃ t,u=Value.int i t from r); subst e; exact mixKind_int P w i t
 | inr x=>obtain⟨t,e⟩:=(show ∃ t,u=Value.str x t from r); subst e; exact mixKind_str P w x t
theorem items_are{P:Program}{w:World}:∀ {ks:List Key}{us:List Value},Vals (ks.map kV) us->ItemsAre (mixKind P w) ks us
 | [],_,r=>by rw [List.map_nil] at r; cases r; exact .nil
 | k :: ks,_,r=>by
  rw [Yr] at r
  cases r with
  | cons h t=>exact .cons (kV_is h) (items_are t)
abbrev KT(H:Hp):List (List Key × V)->List (List Key × Addr × Value)->Prop:=Paired λp q=>p.1=q.1/\H q.2.1=some (.tup (p.1.map kV))/\RelV p.2 q.2.2
variable {H:Hp}{xs:List (List Key × Addr × Value)}
def KT.val{kvs:List (List Key × V)}(r:KT H kvs xs)(k:List Key):RelO (valV kvs k) ((atKey xs k).map (·.2)):=by
 induction r with
 | nil=>exact True.intro
 | @cons p q ps qs h t ih =>
  obtain⟨h1,_,h2⟩:=h
  by_cases e:p.1=k
  ·have e':q.1=k:=h1.symm.trans e
   have b:atKey (q :: qs) k=some q.2:=by simp [atKey,List.find?_cons,e']
   rw [valV_pos e,b]; exact h2
  ·have e':¬ q.1=k:=λz=>e (h1.trans z)
   have b:atKey (q :: qs) k=atKey qs k:=by simp [atKey,List.find?_cons,e']
   rw [valV_neg e,b]; exact ih
def KT.repl{kvs:List (List Key × V)}(r:KT H kvs xs)(k:List Key){y:V}{u:Value}(ry:RelV y u) :
  KT H (kvs.map λkv=>if kv.1=k then (kv.1,y) else kv) (xs.map (putAt k u)):=by
 induction r with
 | nil=>exact .nil
 | @cons p q ps qs h t ih =>
  rw [Yr,Yr]
  refine .cons ?_ ih
  obtain⟨h1,h2,h3⟩:=h
  unfold putAt
  by_cases e:p.1=k
  ·rw [if_pos e,if_pos (h1.symm.trans e)]; exact⟨h1,h2,ry⟩
  ·rw [if_neg e,if_neg (λz=>e (h1.trans z))]; exact⟨h1,h2,h3⟩
def KT.put{kvs:List (List Key × V)}(r:KT H kvs xs)(k:List Key){b:Addr}{y:V}{u:Value}(hb:H b=some (.tup (k.map kV)))(ry:RelV y u) :
  KT H (putK kvs k y) (storedH xs k b u):=by
 have e:(kvs.any λkv=>decide (kv.1=k))=(atKey xs k).isSome:=by
  rw [valV_any,(r.val k).isSome_eq,Option.isSome_map]
 unfold putK storedH
 rw [e]
 by_cases q:(atKey xs k).isSome=true
 ·rw [if_pos q,if_pos q]; exact r.repl k ry
 ·rw [if_neg q,if_neg q]; exact Paired.snoc r ⟨rfl,hb,ry⟩
def KT.keeps{H H':Hp}{kvs:List (List Key × V)}(r:KT H kvs xs)(ht:∀ b ys,H b=some (.tup ys)->H' b=some (.tup ys)):KT H' kvs xs :=
 Paired.mapP r λ_ _ z=>⟨z.1,ht _ _ z.2.1,z.2.2⟩
section
variable {P:Program}{w:World}{H:Hp}{h:Heap}{a:Addr}
def rd_of{u:HO}(ok:HOk P w H h)(e:Rd H a u):ObjOk P w H h a u:=e.ok ok
def dk_rd{kvs:List (Key × V)}(ok:HOk P w H h)(e:Rd H a (.dK kvs)):kvs.length<=sizeLine/\(a == sysModules)=false/\∃ vs,KV kvs vs/\h.DictOf (mixKind P w) a vs :=
 show ObjOk P w H h a (.dK kvs) from rd_of ok e
def dk_of{kvs:List (Key × V)}(ok:HOk P w H h)(e:H a=some (.dK kvs)):kvs.length<=sizeLine/\(a == sysModules)=false/\∃ vs,KV kvs vs/\h.DictOf (mixKind P w) a vs:=dk_rd ok (.inl e)
def key_of{ks:List Key}(ok:HOk P w H h)(e:H a=some (.tup (ks.map kV))):(tupleKind (mixKind P w)).is h ks a:=by
 obtain⟨_,its,r,o,h1,h2,n,h3⟩:=(show ObjOk P w H h a (.tup (ks.map kV)) from ok a _ e)
 exact⟨o,its.toArray,n,h1,h2,h3,by simpa using items_are r⟩
def dt_rd{kvs:List (List Key × V)}(ok:HOk P w H h)(e:Rd H a (.dT kvs)):kvs.length<=sizeLine/\(a == sysModules)=false /\
  ∃ xs,KT H kvs xs/\h.DictOfH (tupleKind (mixKind P w)) a xs:=by
 obtain⟨z,y,xs,r,o,es,ep,h1,h2,h3,h4,h5⟩:=(show ObjOk P w H h a (.dT kvs) from rd_of ok e)
 refine⟨z,y,xs,r,o,es,ep,h1,h2,h3,h4,λx hx=>?_,h5⟩
 have all:∀ {l:List (List Key × V)}{m:List (List Key × Addr × Value)},KT H l m->∀ x∈m,(tupleKind (mixKind P w)).is h x.1 x.2.1:=by
  intro l m q
  induction q with
  | nil=>intro x hx; exact nomatch hx
  | @cons p q ps qs hq t ih =>
   intro x hx
   rcases Yl.mp hx with e | hx
   ·subst e
    exact key_of ok (by rw [<- hq.1]; exact hq.2.1)
   ·exact ih x hx
 exact all r x hx
def dt_of{kvs:List (List Key × V)}(ok:HOk P w H h)(e:H a=some (.dT kvs)):kvs.length<=sizeLine/\(a == sysModules)=false /\
  ∃ xs,KT H kvs xs/\h.DictOfH (tupleKind (mixKind P w)) a xs:=dt_rd ok (.inl e)
end
def DGet(H:Hp)(a:Addr)(y:V)(r:Option V):Prop :=
 (∃ kvs k,Rd H a (.dK kvs)/\y=kV k/\r=valV kvs k)\/∃ kvs k b,Rd H a (.dT kvs)/\y=.ref b/\H b=some (.tup (k.map kV))/\r=valV kvs k
def DPut(H:Hp)(a:Addr)(y v:V)(H':Hp):Prop :=
 (∃ kvs k,H a=some (.dK kvs)/\y=kV k/\kvs.length < sizeLine/\H'=upd H a (.dK (putK kvs k v))) \/
 ∃ kvs k b,H a=some (.dT kvs)/\y=.ref b/\H b=some (.tup (k.map kV))/\kvs.length < sizeLine/\H'=upd H a (.dT (putK kvs k v))
theorem DGet.k{a:Addr}{kvs:List (Key × V)}{k:Key}(e:H a=some (.dK kvs)):DGet H a (kV k) (valV kvs k):=.inl ⟨kvs,k,.inl e,rfl,rfl⟩
theorem DGet.t{a b:Addr}{kvs:List (List Key × V)}{k:List Key}(e:H a=some (.dT kvs))(eb:H b=some (.tup (k.map kV))):DGet H a (.ref b) (valV kvs k):=.inr ⟨kvs,k,b,.inl e,rfl,eb,rfl⟩
theorem DPut.k{a:Addr}{kvs:List (Key × V)}{k:Key}{v:V}(e:H a=some (.dK kvs))(hl:kvs.length < sizeLine):DPut H a (kV k) v (upd H a (.dK (putK kvs k v))):=.inl ⟨kvs,k,e,rfl,hl,rfl⟩
theorem DPut.t{a b:Addr}{kvs:List (List Key × V)}{k:List Key}{v:V}(e:H a=some (.dT kvs))(eb:H b=some (.tup (k.map kV)))(hl:kvs.length < sizeLine) :
  DPut H a (.ref b) v (upd H a (.dT (putK kvs k v))):=.inr ⟨kvs,k,b,e,rfl,eb,hl,rfl⟩
section
variable {X:Cx}{pins:List (Addr × Obj)}{Z:St}{H:Hp}{s:Shared}{a:Addr}{y v:V}{u r:Value}{o:Option V}{A:Around}{E:VSP}
def Inv.big(I:Inv X pins Z H s):sysModules < s.heap.objs.size:=by
 have h:mainGlobals < s.heap.objs.size:=(I.mod.glob.keeps I.bk).lt
 exact Nat.lt_trans (by decide) h
def d_getItem{Q:VSP}(hu:A.units + 1 < cLine)(I:Inv X pins Z H s)(g:DGet H a y (some v))(ry:RelV y u)(h:∀ w' s',Inv X pins Z H s'->RelV v w'->Q w' s') :
  wpAny (model X.prog X.w) A (getItem (.ref a) u) Q E s:=by
 rcases g with ⟨kvs,k,e,ey,l⟩ | ⟨kvs,k,b,e,ey,eb,l⟩
 ·subst ey
  obtain⟨z,hd,vs,rel,dd⟩:=dk_rd I.hok e
  obtain⟨w',hw,rw'⟩:=RelO.some_of (v:=v) (o:=valueAt vs k) (by rw [l]; exact rel.val k)
  exact wpAny_getItem_of (kV_is ry) dd.mapOf hw (h w' _ (I.tok _) rw')
 ·subst ey
  cases (show u=Value.ref b from ry)
  obtain⟨z,hd,xs,rel,dd⟩:=dt_rd I.hok e
  obtain⟨w',hw,rw'⟩:=RelO.some_of (v:=v) (o:=(atKey xs k).map (·.2)) (by rw [l]; exact rel.val k)
  obtain⟨p,hp,hp2⟩:=Vh.mp hw
  refine wpAny_getItem_heap (tupleKind_room_in1 hu) (key_of I.hok eb) dd hp ?_
  rw [hp2]
  exact h w' _ (I.tok _) rw'
def d_write{h':Heap}{t':Nat}{ob:HO}(I:Inv X pins Z H s)(mu:Mut (H a))(hs:Heap.SameBut a s.heap h')(he:∃ q,h'.get? a=some q)(new:ObjOk X.prog X.w (upd H a ob) h' a ob) :
  Inv X pins Z (upd H a ob) { s with heap:=h',toks:=t' } :=
 I.write (x:=a) (e:=a) mu (.inl rfl) (λb q hb z=>(hs.2 b hb).trans z) he new
def dk_new{P:Program}{w:World}{H':Hp}{h':Heap}{kvs:List (Key × V)}{vs:List (Key × Value)}(z:kvs.length<=sizeLine)(hd:(a == sysModules)=false)(rel:KV kvs vs)(dd:h'.DictOf (mixKind P w) a vs) :
  ObjOk P w H' h' a (.dK kvs):=⟨z,hd,vs,rel,dd⟩
def d_setItem{H':Hp}{Q:Unit->Shared->Prop}(hu:A.units + 1 < cLine)(I:Inv X pins Z H s)(g:DPut H a y v H')(ry:RelV y u)(rv:RelV v r)(h:∀ s',Inv X pins Z H' s'->Q () s') :
  wpAny (model X.prog X.w) A (setItem (.ref a) u r) Q E s:=by
 rcases g with ⟨kvs,k,e,ey,l,eH⟩ | ⟨kvs,k,b,e,ey,eb,l,eH⟩
 ·subst ey eH
  obtain⟨z,hd,vs,rel,dd⟩:=dk_of I.hok e
  have hz:vs.length<=sizeLine:=by rw [<- rel.length]; exact z
  have hl:(putK kvs k v).length<=sizeLine:=by have:=length_putK kvs k v; omega
  refine wpAny_setItem_pairs (hsz:=hz) (kV_is ry) dd λh' dd' hs=>h _ ?_
  have he:∃ q,h'.get? a=some q:=let ⟨q,_,_,hq,_⟩:=dd'; ⟨q,hq⟩
  exact d_write I (by rw [e]; exact True.intro) hs he (dk_new hl hd (rel.put k rv) dd')
 ·subst ey eH
  cases (show u=Value.ref b from ry)
  obtain⟨z,hd,xs,rel,dd⟩:=dt_of I.hok e
  have hz:xs.length<=sizeLine:=by rw [<- Paired.length rel]; exact z
  have hl:(putK kvs k v).length<=sizeLine:=by have:=length_putK kvs k v; omega
  refine wpAny_setItem_heap (hsz:=hz) (tupleKind_room_in1 hu) (key_of I.hok eb) dd λh' dd' hs=>h _ ?_
  obtain⟨q,es,ep,hq,h2,h3,h4,_,h5⟩:=dd'
  refine d_write I (by rw [e]; exact True.intro) hs ⟨q,hq⟩ ⟨hl,hd,_,(rel.put k eb rv).keeps λc ys ec=>?_,q,es,ep,hq,h2,h3,h4,h5⟩
  rw [upd_ne (ne_of ec e (λz=>nomatch z))]
  exact ec
end
section
variable {X:Cx}{pins:List (Addr × Obj)}{Z:St}{H:Hp}{s:Shared}{a:Addr}{kvs:List (Key × V)}{k:Key}{u:Value}{A:Around}{E:VSP}
def d_len{Q:VSP}(I:Inv X pins Z H s)(e:Rd H a (.dK kvs))(h:∀ t s',Inv X pins Z H s'->Q (.int kvs.length t) s'):wpAny (model X.prog X.w) A (call (.builtin "len") [.ref a]) Q E s:=by
 obtain⟨z,hd,vs,rel,dd⟩:=dk_rd I.hok e
 refine call_len_dict hd dd (by rw [<- rel.length]; rw [YT] at z; omega) ?_
 rw [<- rel.length]
 exact h _ _ (I.tok _)
end
def NoSl(i:Expr):Prop:=∀ ov iv,subscripted i false ov iv=operate [ov,iv] (getItem ov iv)
def subD_of{prog:Program}{w:World}{A:Around}{E:VSP}{s:Shared}{env:Env}{value slice:Expr}{pos:Pos}{T id:String}{Q:VSP}
  (hl:typeLookup (.type T) "__getitem__"=pure (some (.builtin id))) (hs:NoSl slice)
  (h:wpAny (model prog w) A (eval value env) (λo s₁=>wpAny (model prog w) A (eval slice env) (λi s₂=>s₂.TypeIs o T/\wpAny (model prog w) A (getItem o i) Q E s₂) E s₁) E s) :
  wpAny (model prog w) A (eval (.Subscript value slice pos) env) Q E s:=by
 refine Subscript_ (Yv h (λo s₁ h₁=>Yv h₁ (λi s₂ h₂=>?_) λ_ _ x=>x) λ_ _ x=>x)
 obtain⟨hT,h₂⟩:=h₂
 unfold subscriptTail
 refine Ya ?_
 rw [getitemInPython_of_ne hT.not_modules]
 refine Ya (wpAny_specialOf hT hl ?_)
 have fin:wpAny (model prog w) A (subscripted slice false o i) (λr s₃=>wpAny (model prog w) A (letTemporaryGo value o r >>= λ_=>pure r) Q E s₃) E s₂:=by
  rw [hs o i]
  exact wpAny_operating (Yv h₂ (λr s₃ h₃=>Ya (wpAny_letTemporaryGo (Yc h₃))) λ_ _ x=>x)
 first
  | exact Yc (Ya fin)
  | exact Ya (Yc (Ya fin))
  | exact Ya fin
def dict_typeIs{X:Cx}{pins:List (Addr × Obj)}{Z:St}{s:Shared}{a:Addr}{y:V}{o:Option V}(I:Inv X pins Z H s)(g:DGet H a y o):s.TypeIs (.ref a) "dict":=by
 rcases g with ⟨kvs,k,e,_,_⟩ | ⟨kvs,k,b,e,_,_,_⟩
 ·obtain⟨_,_,vs,_,dd⟩:=dk_rd I.hok e
  exact dd.typeIs
 ·obtain⟨_,_,xs,_,dd⟩:=dt_rd I.hok e
  exact dd.typeIs
section
variable {X:Cx}{o i e value:Expr}{pos pos' tpos:Pos}{td ty tv:TE}
end
def dk_empty{P:Program}{w:World}(h:Heap)(hb:sysModules < h.objs.size):ObjOk P w H (h.push { cls:=.type "dict",data:=.dict #[] }) h.objs.size (.dK []) :=
 ⟨YD _,Vu.mpr (Ne.symm (Ym hb)),[],.nil,Heap.DictOf.new h⟩
def tDNewK:TE:=λ_ H Q=>∀ p,H p=none->Q (.ref p) (upd H p (.dK []))
section
variable {X:Cx}{pos:Pos}
def pe_dnewK:PE X (.Dict [] [] pos) tDNewK:=λpins s Z H Q I h =>
 wpAny_Dict_empty ⟨.ref s.heap.objs.size,_,I.laid (a:=s.heap.objs.size) (o:=.dK []) (t':=s.toks) (λ_ _ q=>Yh _ q) (Yd _) (dk_empty s.heap I.big),rfl,h _ (I.hok.fresh (Yd _))⟩
end
structure M1(X:Cx)(o:Expr)(m:Str)(apos:Pos)(e:Expr)(cpos:Pos):Prop where
 base:attributeBase o m X.env (eval o X.env)=eval o X.env
 few:((backTo cpos (starEach [e] X.env)).all (λx=>!x.1) && (backToKw cpos (keywordEach [] X.env)).all (λx=>x.1.isSome)
  && decide (([e]:List Expr).length + ([]:List Keyword).length + (if ([]:List Keyword).isEmpty then 0 else 1) < 30))=true
 line:(apos.endLine == cpos.line)=true
 trees:backTo cpos (starEach [e] X.env)=[(false,eval e X.env)]
structure M2(X:Cx)(o:Expr)(m:Str)(apos:Pos)(e f:Expr)(cpos:Pos):Prop where
 base:attributeBase o m X.env (eval o X.env)=eval o X.env
 few:((backTo cpos (starEach [e,f] X.env)).all (λx=>!x.1) && (backToKw cpos (keywordEach [] X.env)).all (λx=>x.1.isSome)
  && decide (([e,f]:List Expr).length + ([]:List Keyword).length + (if ([]:List Keyword).isEmpty then 0 else 1) < 30))=true
 line:(apos.endLine == cpos.line)=true
 trees:backTo cpos (starEach [e,f] X.env)=[(false,eval e X.env),(false,eval f X.env)]
def IsD(H:Hp)(a:Addr):Prop:=(∃ kvs,Rd H a (.dK kvs))\/∃ kvs,Rd H a (.dT kvs)
section
variable {X:Cx}{pins:List (Addr × Obj)}{Z:St}{H:Hp}{s:Shared}{a:Addr}{y d:V}{u r:Value}{o:Option V}{A:Around}{E:VSP}
end
def tDGet2(td ty tx:TE):TE:=λZ H Q=>td Z H λx H1=>∃ a,x=.ref a/\IsD H1 a/\ty Z H1 λy H2=>tx Z H2 λz H3=>∃ o,DGet H3 a y o/\Q (o.getD z) H3
section
variable {X:Cx}{o e f:Expr}{apos cpos:Pos}{td ty tx:TE}
end
section
variable {X:Cx}{pins:List (Addr × Obj)}{Z:St}{H:Hp}{s:Shared}{a:Addr}{kvs:List (Key × V)}{A:Around}{E:VSP}
def d_copyOf{Q:VSP}(I:Inv X pins Z H s)(e:Rd H a (.dK kvs))(h:∀ p s',H p=none->Inv X pins Z (upd H p (.dK kvs)) s'->Q (.ref p) s'):wpAny (model X.prog X.w) A (call (.type "dict") [.ref a]) Q E s:=by
 obtain⟨z,hd,vs,rel,dd⟩:=dk_rd I.hok e
 refine kt_call_dict hd dd (by rw [<- rel.length]; exact z) λh' dd' hs=>?_
 refine h _ _ (I.hok.fresh (Yd _)) (I.laid (a:=s.heap.objs.size) (o:=.dK kvs) (t':=s.toks) (λb q hq=>?_) (Yd _) (dk_new z (Vu.mpr (Ne.symm (Ym I.big))) rel dd'))
 exact (hs.2 b (Ym (Ye hq))).trans (Yh _ hq)
end
section
variable {X:Cx}{pins:List (Addr × Obj)}{Z:St}{H:Hp}{s:Shared}{a:Addr}{y:V}{u:Value}{A:Around}{E:VSP}
end
end L2
namespace My
def gcd_turn{a b:Int}:Int.gcd b (a % b)=Int.gcd a b:=by
 rw [Int.emod_def,Int.gcd_comm a b]
 exact Int.gcd_sub_mul_left_right b a (a / b)
def emod_lt_nat{a b:Int}(hb:0 < b):(a % b).toNat < b.toNat:=by
 have h1:=Vy a (Int.ne_of_gt hb)
 have h2:=VX a hb
 omega
theorem abs_ite(i:Int):(if i < 0 then -i else i)=(i.natAbs:Int):=by
 split <;> omega
def gcd_abs(a b:Int):Int.gcd (a.natAbs:Int) (b.natAbs:Int)=Int.gcd a b:=by
 simp [Int.gcd]
def sgcd(t b:Int):Int:=if b < 0 then -(Int.gcd t b:Int) else (Int.gcd t b:Int)
def sgcd_ne{t b:Int}(hb:b ≠ 0):sgcd t b ≠ 0:=by
 have h:=VQ t hb
 unfold sgcd
 split <;> omega
def sgcd_dvd_left(t b:Int):sgcd t b ∣ t:=by
 unfold sgcd
 split
 ·exact Int.neg_dvd.mpr (Int.gcd_dvd_left t b)
 ·exact Int.gcd_dvd_left t b
def sgcd_dvd_right(t b:Int):sgcd t b ∣ b:=by
 unfold sgcd
 split
 ·exact Int.neg_dvd.mpr (Int.gcd_dvd_right t b)
 ·exact Int.gcd_dvd_right t b
def sgcd_abs(t b:Int):(sgcd t b).natAbs=Int.gcd t b:=by
 unfold sgcd
 split <;> simp
def fdiv_of_dvd{a d:Int}(h:d ∣ a):a.fdiv d=a / d:=by
 rw [Int.fdiv_eq_ediv_of_dvd h]
def sden_pos{t b:Int}(hb:b ≠ 0):0 < b / sgcd t b:=by
 have hg:=VQ t hb
 obtain⟨k,hk⟩:=sgcd_dvd_right t b
 have e:b / sgcd t b=k:=Int.ediv_eq_of_eq_mul_right (sgcd_ne hb) hk
 rw [e]
 unfold sgcd at hk
 generalize hG:(Int.gcd t b:Int)=g at hk
 have hg':0 < g:=by omega
 by_cases h:0 < k
 ·exact h
 ·exfalso
  have h2:0<=g * (-k):=Int.mul_nonneg (by omega) (by omega)
  have h3:g * (-k)=-(g * k):=Int.mul_neg g k
  split at hk
  ·have h4:-g * k=-(g * k):=Int.neg_mul g k
   omega
  ·omega
def scop{t b:Int}(hb:b ≠ 0):Int.gcd (t / sgcd t b) (b / sgcd t b)=1:=by
 rw [Int.gcd_ediv (sgcd_dvd_left t b) (sgcd_dvd_right t b),sgcd_abs]
 exact Nat.div_self (VQ t hb)
def ratio_parts{t b:Int}(hb:b ≠ 0):t / sgcd t b=(Rat.divInt t b).num/\b / sgcd t b=((Rat.divInt t b).den:Int):=by
 have hp:=sden_pos (t:=t) hb
 have hc:=scop (t:=t) hb
 have hn:=sgcd_ne (t:=t) hb
 have e1:t=sgcd t b * (t / sgcd t b):=(Int.mul_ediv_cancel' (sgcd_dvd_left t b)).symm
 have e2:b=sgcd t b * (b / sgcd t b):=(Int.mul_ediv_cancel' (sgcd_dvd_right t b)).symm
 have hden:(b / sgcd t b).toNat ≠ 0:=by omega
 have hcop:(t / sgcd t b).natAbs.Coprime (b / sgcd t b).toNat:=by
  have:(b / sgcd t b).natAbs=(b / sgcd t b).toNat:=by omega
  rw [<- this]; exact hc
 have key:Rat.divInt t b=⟨t / sgcd t b,(b / sgcd t b).toNat,hden,hcop⟩:=by
  have:Rat.divInt (t / sgcd t b) (((b / sgcd t b).toNat:Nat):Int)=⟨t / sgcd t b,(b / sgcd t b).toNat,hden,hcop⟩:=by
   rw [Rat.divInt_ofNat]
   exact Rat.mkRat_self ⟨t / sgcd t b,(b / sgcd t b).toNat,hden,hcop⟩
  rw [<- this]
  rw [Rat.divInt_eq_divInt_iff hb (by omega)]
  have e3:(((b / sgcd t b).toNat:Nat):Int)=b / sgcd t b:=by omega
  rw [e3]
  conv=>lhs; rw [e1]
  conv=>rhs; rw [e2]
  grind
 constructor
 ·rw [key]
 ·rw [key]; show b / sgcd t b=(((b / sgcd t b).toNat:Nat):Int); omega
def mul_lt_pow{x y:Int}{a b:Nat}(hx:x.natAbs < 2 ^ a)(hy:y.natAbs < 2 ^ b):(x * y).natAbs < 2 ^ (a + b):=by
 rw [Int.natAbs_mul,Nat.pow_add]
 exact Nat.mul_lt_mul'' hx hy
def pow_mono{a c n:Nat}(h:n < 2 ^ a)(hac:a<=c):n < 2 ^ c:=Yw h (Vt (by decide) hac)
def add_lt_pow{x y:Int}{a b c:Nat}(hx:x.natAbs < 2 ^ a)(hy:y.natAbs < 2 ^ b)(ha:a<=c)(hb:b<=c):(x + y).natAbs < 2 ^ (c + 1):=by
 have h1:=pow_mono hx ha
 have h2:=pow_mono hy hb
 rw [Nat.pow_succ]
 omega
def divInt_num_le{t b:Int}(hb:b ≠ 0):(Rat.divInt t b).num.natAbs<=t.natAbs:=by
 rw [<- (ratio_parts hb).1]
 exact Int.natAbs_ediv_le_natAbs _ _
def divInt_den_le{t b:Int}(hb:b ≠ 0):(Rat.divInt t b).den<=b.natAbs:=by
 have h:((Rat.divInt t b).den:Int).natAbs<=b.natAbs:=by
  rw [<- (ratio_parts (t:=t) hb).2]
  exact Int.natAbs_ediv_le_natAbs _ _
 simpa using h
def log2_lt_of{n k:Nat}(h:n < 2 ^ k)(hk:0 < k):n.log2 < k:=by
 by_cases h0:n=0
 ·rw [h0]; simpa using hk
 ·exact (Nat.log2_lt h0).mpr h
def gcd_le_abs{t b:Int}(hb:b ≠ 0):Int.gcd t b<=b.natAbs:=Nat.le_of_dvd (by omega) (Nat.gcd_dvd_right _ _)
def SzQ(n:Nat)(q:Rat):Prop:=q.num.natAbs < 2 ^ n/\q.den < 2 ^ n
def SzQ.mono{n m:Nat}{q:Rat}(h:SzQ n q)(hm:n<=m):SzQ m q:=⟨pow_mono h.1 hm,pow_mono h.2 hm⟩
theorem SzQ.of{n:Nat}{t b:Int}(hb:b ≠ 0)(ht:t.natAbs < 2 ^ n)(hb2:b.natAbs < 2 ^ n):SzQ n (Rat.divInt t b) :=
 ⟨Yx (divInt_num_le hb) ht,Yx (divInt_den_le hb) hb2⟩
def rat_den_ne(q:Rat):(q.den:Int) ≠ 0:=by have:=q.den_pos; omega
def add_divInt(p q:Rat):p + q=Rat.divInt (p.num * q.den + q.num * p.den) (p.den * q.den):=by
 conv=>lhs; rw [<- Vv p,<- Vv q]
 exact Rat.divInt_add_divInt _ _ (rat_den_ne p) (rat_den_ne q)
def den_mul_ne(p q:Rat):(p.den:Int) * q.den ≠ 0:=Int.mul_ne_zero (rat_den_ne p) (rat_den_ne q)
end My
set_option Elab.async false
set_option maxRecDepth 100000
namespace My
open PySem PySem.Spec L2
open PyProof.Rows hiding St
def plainE:Expr->Bool
 | .Starred ..=>false
 | _=>true
def se_cons{e:Expr}{es:List Expr}{env:Env}(h:plainE e=true):starEach (e :: es) env=(false,eval e env) :: starEach es env:=by
 cases e <;> first | rfl | cases h
def se_any{env:Env}{pos:Pos}:∀ {es:List Expr},es.all plainE=true->(backTo pos (starEach es env)).any (·.1)=false
 | [],_=>rfl
 | e :: es,h=>by
  rw [List.all_cons,VI] at h
  rw [se_cons h.1]
  have:=se_any (env:=env) (pos:=pos) h.2
  unfold backTo at this ⊢
  simpa using this
section
variable {X:Cx}{e:Expr}{es:List Expr}{te:TE}{t:TA}{pos p:Pos}{x:Str}{id T:String}{r:List V->Hp->VK->Prop}
def pa_c(ha:PE X e te)(hr:PA X es t)(hp:plainE e=true:=by rfl):PA X (e :: es) (tCons te t):=pa_cons ha hr (se_cons hp)
def hd_plain{e:Expr}{es:List Expr}(h:(e :: es).all plainE=true):plainE e=true/\es.all plainE=true:=by
 rw [List.all_cons,VI] at h
 exact h
def pe_cB(hc:CallR X (.builtin id) r)(hg:Gl X x)(hm:X.mg x=none)(hv:bootBuiltins x=some (.builtin id))(ha:PA X (e :: es) t)(hp:(e :: es).all plainE=true:=by rfl)(hn:x ≠ "__name__":=by decide)(hdb:(x == ("__debug__":Str))=false:=by decide) :
  PE X (.Call (.Name x p) (e :: es) [] pos) (tCB r t):=pe_callB hc hg hm hv ha hn hdb (se_cons (hd_plain hp).1) (se_any (hd_plain hp).2)
def pe_cTy(hc:CallR X (.type T) r)(hg:Gl X x)(hm:X.mg x=none)(hv:bootBuiltins x=some (.type T))(ha:PA X (e :: es) t)(hp:(e :: es).all plainE=true:=by rfl)(hn:x ≠ "__name__":=by decide)(hdb:(x == ("__debug__":Str))=false:=by decide) :
  PE X (.Call (.Name x p) (e :: es) [] pos) (tCB r t):=pe_callTy hc hg hm hv ha hn hdb (se_cons (hd_plain hp).1) (se_any (hd_plain hp).2)
end
structure Fn(P:Program)(w:World)(K:PySem.W.Frag)(mg:Str->Option Value)(base:Heap)(CX:CXT)(k:Nat)(x:Str)(ps:List Str)(sp:Sp):Prop where
 ex:∃ (f:Addr) (fd:FuncData),FnOk P w K mg base CX k f fd ps sp/\Binds K fd ps []/\keepIn K (.ref f)=true/\mg x=some (.ref f)
section
variable {X:Cx}{CX:CXT}{j k:Nat}{x:Str}{ps:List Str}{sp:Sp}{p pos:Pos}{e:Expr}{es:List Expr}{t:TA}
def pe_fn(F:Fn X.prog X.w X.K X.mg X.base CX0 j x ps sp)(hr:Room k X.A)(hj:j<=k)(hg:Gl X x)(ha:PA X (e :: es) t)(hp:(e :: es).all plainE=true:=by rfl)(hdb:(x == ("__debug__":Str))=false:=by decide) :
  PE X (.Call (.Name x p) (e :: es) [] pos) (tCall sp [] E0 t):=by
 obtain⟨f,fd,G,b,kp,m⟩:=F.ex
 exact pe_call G (hr.mono hj) hg m kp b .nil pass0 ha hdb (se_cons (hd_plain hp).1) (se_any (hd_plain hp).2)
end
section
variable {X:Cx}
def op_fdivL:OpR X (binaryOp .FloorDiv) (rI (λ_ j=>j ≠ 0/\j.natAbs.log2 < 9000) λi j=>.int (i.fdiv j)) :=
 opI λ_ _ _ _ _ _ _ hc q=>floordiv_int hc.1 q (.inl (PyProof.noPylong_of_log2 hc.2))
def op_fdivP:OpR X (binaryOp .FloorDiv) (rI (λ_ j=>0 < j/\j.natAbs.log2 < 9000) λi j=>.int (i / j)) :=
 opI λi j _ _ _ _ _ hc q=>floordiv_int (Int.ne_of_gt hc.1) (by rw [VS i (Int.le_of_lt hc.1)]; exact q) (.inl (PyProof.noPylong_of_log2 hc.2))
def op_mulL:OpR X (binaryOp .Mult) (rI IntMulOk λi j=>.int (i * j)):=opI λ_ _ _ _ _ _ _ hc q=>mul_int q hc
end
def kindV(H:Hp):V->Option String
 | .non=>some "NoneType"
 | .bl _=>some "bool"
 | .int _=>some "int"
 | .str _=>some "str"
 | .ref a=>match H a with
  | some (.lst _)=>some "list"
  | some (.tup _)=>some "tuple"
  | some (.dK _)=>some "dict"
  | _=>none
 | _=>none
def kinds:List String:=["NoneType","bool","int","str","list","tuple","dict"]
def asks:List String:=["bool","int","str","list","tuple","dict"]
def isA(t n:String):Bool:=t == n || (t == "bool" && n == "int")
def kind_bl(H:Hp)(x:Bool):kindV H (.bl x)=some "bool":=rfl
def kind_int(H:Hp)(i:Int):kindV H (.int i)=some "int":=rfl
theorem kind_tup{H:Hp}{a:Addr}{xs:List V}(h:H a=some (.tup xs)):kindV H (.ref a)=some "tuple":=by unfold kindV; dsimp only; rw [h]
theorem kind_lst{H:Hp}{a:Addr}{xs:List V}(h:H a=some (.lst xs)):kindV H (.ref a)=some "list":=by unfold kindV; dsimp only; rw [h]
def ask_int:("int"∈asks)=True:=eq_true (by decide)
def ask_bool:("bool"∈asks)=True:=eq_true (by decide)
def ask_tuple:("tuple"∈asks)=True:=eq_true (by decide)
def ask_list:("list"∈asks)=True:=eq_true (by decide)
def ask_str:("str"∈asks)=True:=eq_true (by decide)
def isa_bb:isA "bool" "bool"=true:=by decide
def isa_bi:isA "bool" "int"=true:=by decide
def isa_ii:isA "int" "int"=true:=by decide
def isa_ib:isA "int" "bool"=false:=by decide
def isa_tt:isA "tuple" "tuple"=true:=by decide
def isa_ll:isA "list" "list"=true:=by decide
def kindV_ty{K:PySem.W.Frag}{H:Hp}{x:V}{t:String}(e:kindV H x=some t):TyOf K H x (.type t)/\t∈kinds:=by
 unfold kindV at e
 split at e
 ·cases e; exact⟨.non,by decide⟩
 ·cases e; exact⟨.bl _,by decide⟩
 ·cases e; exact⟨.int _,by decide⟩
 ·cases e; exact⟨.str _,by decide⟩
 ·split at e
  ·cases e; exact⟨.lst (by assumption),by decide⟩
  ·cases e; exact⟨.tup (by assumption),by decide⟩
  ·cases e; exact⟨.dK (by assumption),by decide⟩
  ·cases e
 ·cases e
def kit_table(K:PySem.W.Frag):∀ t∈kinds,∀ n∈asks,kitOne K (.type t) (.type n)=some (isA t n):=by
 intro t ht n hn
 simp only [kinds,asks,List.mem_cons,List.not_mem_nil,or_false] at ht hn
 rcases ht with rfl | rfl | rfl | rfl | rfl | rfl | rfl <;> rcases hn with rfl | rfl | rfl | rfl | rfl | rfl <;> rfl
section
variable {X:Cx}
def call_inst:CallR X (.builtin "isinstance") (λxs H Q=>∃ x n t,xs=[x,.ty n]/\kindV H x=some t/\n∈asks/\Q (.bl (isA t n)) H):=by
 intro pins s Z H xs us Q I r h
 obtain⟨x,n,t,rfl,e,hn,q⟩:=h
 obtain⟨u,v,rfl,ru,rv⟩:=vals2 r
 cases (show v=Value.type n from rv)
 obtain⟨ty,ht⟩:=kindV_ty (K:=X.K) e
 exact isinst_ok I ru ty (kit_table X.K t ht n hn) λtk=>⟨.bl (isA t n),H,I.tok tk,rfl,q⟩
def pe_ty{x:Str}{T:String}{pos:Pos}(hg:Gl X x)(hm:X.mg x=none)(hv:bootBuiltins x=some (.type T))(hn:x ≠ "__name__":=by decide)(hd:(x == ("__debug__":Str))=false:=by decide):PE X (.Name x pos) (tC (.ty T)) :=
 pe_bltn hg hm hv rfl hn hd
end
section
variable {X:Cx}{e:Expr}{es:List Expr}{te:TE}{t:TA}{pos:Pos}
theorem same_new{H:Hp}{p:Addr}(h:H p=none)(o:HO):Same H (upd H p o):=λb u q=>by rw [upd_ne (ne_of_none q h)]; exact q
def tTup2(t:TA):TE:=λZ H Q=>t Z H λxs H1=>xs.length<=1000/\∀ p H2,H1 p=none->Same H1 H2->H2 p=some (.tup xs)->Q (.ref p) H2
def tLst2(t:TA):TE:=λZ H Q=>t Z H λxs H1=>xs.length<=1000/\∀ p H2,H1 p=none->Same H1 H2->H2 p=some (.lst xs)->Q (.ref p) H2
def le1000{n:Nat}(h:n<=1000):n<=sizeLine:=Yt (small1000 h)
def pe_tup2{x1}(h:PA X es t):PE X (.Tuple es x1 pos) (tTup2 t):=by
 intro pins s Z H Q I hq
 refine wpAny_Tuple_spliced (thn (h pos pins s Z H _ I hq) λus s1 ⟨xs,H1,I1,r,z,q⟩=>⟨by rw [<- r.length]; exact le1000 z,?_⟩)
 have hf:H1 s1.heap.objs.size=none:=I1.hok.fresh (Yd _)
 refine⟨.ref s1.heap.objs.size,upd H1 s1.heap.objs.size (.tup xs),I1.laid (t':=s1.toks) (λb u e=>Yh _ e) (Yd _) ?_,rfl,q _ _ hf (same_new hf _) upd_same⟩
 exact⟨le1000 z,us,r,⟨_,Yn _ rfl,rfl,_,rfl⟩⟩
def pe_lst2(h:PA X es t):PE X (.List es pos) (tLst2 t):=by
 intro pins s Z H Q I hq
 refine wpAny_List_spliced (thn (h pos pins s Z H _ I hq) λus s1 ⟨xs,H1,I1,r,z,q⟩=>⟨by rw [<- r.length]; exact le1000 z,?_⟩)
 have hf:H1 s1.heap.objs.size=none:=I1.hok.fresh (Yd _)
 refine⟨.ref s1.heap.objs.size,upd H1 s1.heap.objs.size (.lst xs),I1.laid (t':=s1.toks) (λb u e=>Yh _ e) (Yd _) ?_,rfl,q _ _ hf (same_new hf _) upd_same⟩
 exact⟨le1000 z,us,0,r,Yn _ rfl⟩
def ix_imp{r r':R2}(h:IxR X r)(i:∀ x y H Q,r' x y H Q->r x y H Q):IxR X r' :=
 λvalue slice pins s Z H x y v u Q I rx ry q hs=>h value slice pins s Z H x y v u Q I rx ry (i x y H Q q) hs
def rIxT2:R2:=λx y H Q=>∃ p xs i v,x=.ref p/\y=.int i/\H p=some (.tup xs)/\atI xs i=some v/\Q v H
def rIxL2:R2:=λx y H Q=>∃ p xs i v,x=.ref p/\y=.int i/\H p=some (.lst xs)/\atI xs i=some v/\Q v H
def ix_tup2:IxR X rIxT2:=ix_imp ix_tup λ_ _ _ _ ⟨p,xs,i,v,h1,h2,h3,h4,q⟩=>⟨p,xs,i,v,h1,h2,SqT.of h3,h4,q⟩
def ix_lst2:IxR X rIxL2:=ix_imp ix_list λ_ _ _ _ ⟨p,xs,i,v,h1,h2,h3,h4,q⟩=>⟨p,xs,i,v,h1,h2,SqL.of h3,h4,q⟩
def call_len2:CallR X (.builtin "len") (λxs H Q=>∃ p ys,xs=[.ref p]/\(H p=some (.lst ys)\/H p=some (.tup ys))/\Q (.int ys.length) H) :=
 λpins s Z H xs us Q I r ⟨p,ys,h1,h2,q⟩=>call_len_seq pins s Z H xs us Q I r ⟨p,ys,h1,h2.imp SqL.of SqT.of,q⟩
def tApp(to:TE)(t:TA):TE:=λZ H Q=>to Z H λx H1=>∃ l zs,x=.ref l/\H1 l=some (.lst zs)/\t Z H1 λvs H2=>∃ y xs,vs=[y]/\H2 l=some (.lst xs)/\xs.length < 1000000/\Q .non (upd H2 l (.lst (xs ++ [y])))
def mill{n:Nat}(h:n < 1000000):n < sizeLine:=Nat.lt_trans h (by decide)
def pe_append{o:Expr}{to:TE}{apos cpos:Pos}(ho:PE X o to)(ha:PA X (e :: es) t)
  (hbase:attributeBase o "append" X.env (eval o X.env)=eval o X.env:=by rfl)
  (hfew:((backTo cpos (starEach (e :: es) X.env)).all (λx=>!x.1) && (backToKw cpos (keywordEach [] X.env)).all (λx=>x.1.isSome)
   && decide ((e :: es).length + ([]:List Keyword).length + (if ([]:List Keyword).isEmpty then 0 else 1) < 30))=true:=by rfl)
  (hline:(apos.endLine == cpos.line)=true:=by rfl) (hs:starEach (e :: es) X.env=(false,eval e X.env) :: starEach es X.env:=by rfl) (hplain:(backTo cpos (starEach es X.env)).any (·.1)=false:=by rfl) :
  PE X (.Call (.Attribute o "append" apos) (e :: es) [] cpos) (tApp to t):=by
 intro pins s Z H Q I h
 refine wpAny_Call_method_late hbase hfew hline rfl (thn (ho pins s Z H _ I h) λv s1 ⟨x,H1,I1,r1,l,zs,e1,e2,q1⟩=>?_)
 obtain⟨h1,h2⟩:=tyV_is (T:="list") I1 r1 (by rw [e1]; exact .inl ⟨rfl,zs,SqL.of e2⟩)
 refine⟨"list","list.append",PySem.F.plainAttrs_list,PySem.F.slot_list_append,PySem.F.type_list_append,h1,h2,?_⟩
 have hA:=ha cpos pins s1 Z H1 _ I1 q1
 rw [hs] at hA ⊢
 refine Calls.callWith_builtin (by show (false || (backTo cpos (starEach es X.env)).any (·.1))=false; rw [hplain] <;> rfl) (Calls.evalArgs_plain ?_)
 exact thn hA λus s2 ⟨vs,H2,I2,r2,y,xs,e3,e4,z,q2⟩=>mt_append pins s2 Z H2 x vs v us Q I2 r1 r2 ⟨l,xs,y,e1,e3,e4,mill z,q2⟩
theorem same_upd{H H':Hp}{p:Addr}{o:HO}(hp:H p=none)(hs:Same H H'):Same H (upd H' p o):=λb u q=>by rw [upd_ne (ne_of_none q hp)]; exact hs b u q
def gTup2(n:Nat)(t:TGs):TG:=λv Z H Q=>∃ a xs,v=.ref a/\H a=some (.tup xs)/\xs.length=n/\t xs Z H Q
def pg_tup2{es:List Expr}{k:Nat}{t:TGs}{n:Nat}(hc:X.calm=true)(h:PGs X es t)
  (hn:(assignEach es X.env).length=n:=by rfl) (hst:(assignEach es X.env).findIdx? (·.1)=none:=by rfl):PG X (.Tuple es k pos) (gTup2 n t) :=
 λpins s Z H v u Q I r ⟨a,xs,h1,h2,h3,q⟩=>pg_tup hc h hn hst pins s Z H v u Q I r ⟨a,xs,h1,SqT.of h2,h3,q⟩
end
def atI0{α:Type}(x:α)(xs:List α):atI (x :: xs) 0=some x:=atI_nat (j:=0) rfl
def atI1{α:Type}(x y:α)(xs:List α):atI (x :: y :: xs) 1=some y:=atI_nat (j:=1) rfl
def atI2{α:Type}(x y z:α)(xs:List α):atI (x :: y :: z :: xs) 2=some z:=atI_nat (j:=2) rfl
def atI3{α:Type}(x y z u:α)(xs:List α):atI (x :: y :: z :: u :: xs) 3=some u:=atI_nat (j:=3) rfl
def cellOf(ns:List Int)(k:Nat):Int:=ns.getD k (2 * (k:Int) + 1)
def cell_in{ns:List Int}{k:Nat}(h:k < ns.length):atI (ns.map V.int) (k:Int)=some (.int (cellOf ns k)):=by
 refine atI_nat ?_
 rw [Yj,Yb h]
 simp [cellOf,List.getD,List.getElem?_eq_getElem h]
def slotI(Z:St)(i:Nat):Int:=match Z[i]? with
 | some (some (.int m))=>m
 | _=>0
theorem while_w{c:TT}{tb:TS}{D:Ends}{Z:St}{H:Hp}(Pv:St->Hp->Prop)(μ:St->Hp->Nat)(h0:Pv Z H)
  (hs:∀ Z H,Pv Z H->c Z H λb H1=>if b=true then ∃ N:St->Hp->Prop,(∀ Z' H',N Z' H'->∃ m',m' < μ Z H/\(m'=μ Z' H'/\Pv Z' H'))/\tb { D with nx:=N,ct:=N,bk:=D.nx } Z H1 else D.nx Z H1):tWhile c tb D Z H:=by
 refine⟨λm Z H=>m=μ Z H/\Pv Z H,⟨_,rfl,h0⟩,?_⟩
 rintro m Z H ⟨rfl,p⟩
 exact hs Z H p
structure QE(X:Cx)(e:Expr)(t:TE):Prop where
 h:PE X e t
structure QT(X:Cx)(e:Expr)(t:TT):Prop where
 h:PT X e t
structure QW(X:Cx)(e:Expr)(t:TT):Prop where
 h:PW X e t
structure QA(X:Cx)(es:List Expr)(t:TA):Prop where
 h:PA X es t
structure QS(X:Cx)(st:Stmt)(t:TS):Prop where
 h:PS X st t
structure QB(X:Cx)(sts:List Stmt)(t:TS):Prop where
 h:PSs X sts t
structure QI(X:Cx)(tg it:Expr)(t:TI):Prop where
 h:PI X tg it t
structure QG(X:Cx)(tg:Expr)(t:TG):Prop where
 h:PG X tg t
structure QGs(X:Cx)(tgs:List Expr)(t:TGs):Prop where
 h:PGs X tgs t
section
variable {X:Cx}{a b c e:Expr}{es rest:List Expr}{ta tb tc te:TE}{tA tB':TT}{t:TA}{pos p:Pos}{x:Str}
theorem q_v(i:Nat)(hN:X.N[i]?=some x:=by rfl)(hv:Vis X.env.scope x:=by first | exact Or.inl rfl | exact Or.inr (Or.inl rfl) | exact Or.inr (Or.inr rfl))(hd:(x == ("__debug__":Str))=false:=by decide)
  (hcd:(x == ("__classdict__":Str))=false:=by decide):QE X (.Name x pos) (tVar i):=⟨pe_var hN hv hd hcd⟩
def q_int{i j}:QE X (.Constant (.int i) j pos) (tC (.int i)):=⟨pe_int⟩
theorem q_bl{k j}:QE X (.Constant (.bool k) j pos) (tC (.bl k)):=⟨pe_bl⟩
def q_non{j}:QE X (.Constant .none j pos) (tC .non):=⟨pe_non⟩
def q_str{y j}:QE X (.Constant (.str y) j pos) (tC (.str y)):=⟨pe_str⟩
def q_ty{T:String}(hg:Gl X x)(hm:X.mg x=none)(hv:bootBuiltins x=some (.type T))(hn:x ≠ "__name__":=by decide)(hd:(x == ("__debug__":Str))=false:=by decide):QE X (.Name x pos) (tC (.ty T)):=⟨pe_ty hg hm hv hn hd⟩
def q_add(ha:QE X a ta)(hb:QE X b tb):QE X (.BinOp a .Add b pos) (tOp (rI0 λi j=>.int (i + j)) ta tb):=⟨pe_op op_add ha.h hb.h⟩
def q_sub(ha:QE X a ta)(hb:QE X b tb):QE X (.BinOp a .Sub b pos) (tOp (rI0 λi j=>.int (i - j)) ta tb):=⟨pe_op op_sub ha.h hb.h⟩
def q_mul(ha:QE X a ta)(hb:QE X b tb):QE X (.BinOp a .Mult b pos) (tOp (rI CMul λi j=>.int (i * j)) ta tb):=⟨pe_op op_mul ha.h hb.h⟩
def q_mulL(ha:QE X a ta)(hb:QE X b tb):QE X (.BinOp a .Mult b pos) (tOp (rI IntMulOk λi j=>.int (i * j)) ta tb):=⟨pe_op op_mulL ha.h hb.h⟩
def q_mod(ha:QE X a ta)(hb:QE X b tb):QE X (.BinOp a .Mod b pos) (tOp (rI (λ_ j=>0 < j) λi j=>.int (i % j)) ta tb):=⟨pe_op op_mod ha.h hb.h⟩
def q_fdiv(ha:QE X a ta)(hb:QE X b tb):QE X (.BinOp a .FloorDiv b pos) (tOp (rI CDiv λi j=>.int (i / j)) ta tb):=⟨pe_op op_fdiv ha.h hb.h⟩
def q_fdivP(ha:QE X a ta)(hb:QE X b tb):QE X (.BinOp a .FloorDiv b pos) (tOp (rI (λ_ j=>0 < j/\j.natAbs.log2 < 9000) λi j=>.int (i / j)) ta tb):=⟨pe_op op_fdivP ha.h hb.h⟩
def q_fdivL(ha:QE X a ta)(hb:QE X b tb):QE X (.BinOp a .FloorDiv b pos) (tOp (rI (λ_ j=>j ≠ 0/\j.natAbs.log2 < 9000) λi j=>.int (i.fdiv j)) ta tb):=⟨pe_op op_fdivL ha.h hb.h⟩
def q_pow(ha:QE X a ta)(hb:QE X b tb):QE X (.BinOp a .Pow b pos) (tOp (rI CPow λi j=>.int (i ^ j.toNat)) ta tb):=⟨pe_op op_pow ha.h hb.h⟩
def q_cat(ha:QE X a ta)(hb:QE X b tb):QE X (.BinOp a .Add b pos) (tOp rCat ta tb):=⟨pe_op op_cat ha.h hb.h⟩
def q_addS(ha:QE X a ta)(hb:QE X b tb):QE X (.BinOp a .Add b pos) (tOp (λx y H Q=>∃ i j,x=.str i/\y=.str j/\i.length + j.length<=sizeLine/\Q (.str (i ++ j)) H) ta tb):=⟨pe_op op_add_str ha.h hb.h⟩
def q_neg(ha:QE X a ta):QE X (.UnaryOp .USub a pos) (tUn (rU λi=>.int (-i)) ta):=⟨pe_un un_neg ha.h⟩
def q_not(ha:QE X a ta):QE X (.UnaryOp .Not a pos) (tNotV ta):=⟨pe_not ha.h⟩
def q_one{op}(ha:QE X a ta):QE X (.BoolOp op [a] pos) ta:=⟨pe_one ha.h⟩
def q_and(ha:QE X a ta)(hb:QE X (.BoolOp .And (b :: rest) pos) tb):QE X (.BoolOp .And (a :: b :: rest) pos) (tAndV ta tb):=⟨pe_and ha.h hb.h⟩
def q_eq(ha:QE X a ta)(hb:QE X b tb):QE X (.Compare a [.Eq] [b] pos) (tOp rEq ta tb):=⟨pe_cmpR op_eq ha.h hb.h (nomark _)⟩
def q_lt(ha:QE X a ta)(hb:QE X b tb):QE X (.Compare a [.Lt] [b] pos) (tOp (rI0 λi j=>.bl (decide (i < j))) ta tb):=⟨pe_cmpR op_lt ha.h hb.h (nomark _)⟩
def q_ge(ha:QE X a ta)(hb:QE X b tb):QE X (.Compare a [.GtE] [b] pos) (tOp (rI0 λi j=>.bl (decide (j<=i))) ta tb):=⟨pe_cmpR op_ge ha.h hb.h (nomark _)⟩
def t_val(ha:QE X e te)(he:∀ whole,isTrue e X.env whole=(do let v <- whole; standAt e.pos; holding [v] (truthy v)):=by intro _; rfl):QT X e (tB te):=⟨pt_val ha.h he⟩
def t_not(ha:QT X a tA):QT X (.UnaryOp .Not a pos) (tNot tA):=⟨pt_not ha.h⟩
def w_or1(ha:QT X a tA):QW X (.BoolOp .Or [a] pos) tA:=⟨pw_or1 ha.h⟩
def w_or(ha:QT X a tA)(hb:QW X (.BoolOp .Or (b :: rest) pos) tB'):QW X (.BoolOp .Or (a :: b :: rest) pos) (tOr tA tB'):=⟨pw_or ha.h hb.h⟩
def t_w(h:QW X e tA):QT X e tA:=⟨h.h.pt⟩
def t_eq(ha:QE X a ta)(hb:QE X b tb):QT X (.Compare a [.Eq] [b] pos) (tTest (tOp rEq ta tb)):=⟨pt_cmpR op_eq ha.h hb.h (nomark _)⟩
def t_ne(ha:QE X a ta)(hb:QE X b tb):QT X (.Compare a [.NotEq] [b] pos) (tTest (tOp rNe ta tb)):=⟨pt_cmpR op_ne ha.h hb.h (nomark _)⟩
def t_lt(ha:QE X a ta)(hb:QE X b tb):QT X (.Compare a [.Lt] [b] pos) (tTest (tOp (rI0 λi j=>.bl (decide (i < j))) ta tb)):=⟨pt_cmpR op_lt ha.h hb.h (nomark _)⟩
def t_gt(ha:QE X a ta)(hb:QE X b tb):QT X (.Compare a [.Gt] [b] pos) (tTest (tOp (rI0 λi j=>.bl (decide (j < i))) ta tb)):=⟨pt_cmpR op_gt ha.h hb.h (nomark _)⟩
def t_ge(ha:QE X a ta)(hb:QE X b tb):QT X (.Compare a [.GtE] [b] pos) (tTest (tOp (rI0 λi j=>.bl (decide (j<=i))) ta tb)):=⟨pt_cmpR op_ge ha.h hb.h (nomark _)⟩
def t_isN(ha:QE X a ta)(hb:QE X b tb):QT X (.Compare a [.Is] [b] pos) (tTest (tOp (λx y H Q=>y=.non/\Q (.bl (decide (x=.non))) H) ta tb)):=⟨pt_cmpR op_isN ha.h hb.h (nomark _)⟩
theorem a_nil:QA X [] tNil:=⟨pa_nil⟩
theorem a_c(ha:QE X e te)(hr:QA X es t)(hp:plainE e=true:=by rfl):QA X (e :: es) (tCons te t):=⟨pa_c ha.h hr.h hp⟩
def q_tup{x1}(h:QA X es t):QE X (.Tuple es x1 pos) (tTup2 t):=⟨pe_tup2 h.h⟩
def q_lst(h:QA X es t):QE X (.List es pos) (tLst2 t):=⟨pe_lst2 h.h⟩
def q_ixT(ha:QE X a ta)(hb:QE X b tb)(hs:PlainIx b:=by intro _ _; rfl):QE X (.Subscript a b pos) (tOp rIxT2 ta tb):=⟨pe_ix ix_tup2 ha.h hb.h hs⟩
def q_ixL(ha:QE X a ta)(hb:QE X b tb)(hs:PlainIx b:=by intro _ _; rfl):QE X (.Subscript a b pos) (tOp rIxL2 ta tb):=⟨pe_ix ix_lst2 ha.h hb.h hs⟩
def q_ixS(ha:QE X a ta)(hb:QE X b tb)(hs:PlainIx b:=by intro _ _; rfl):QE X (.Subscript a b pos) (tOp (rIxL X.K) ta tb):=⟨pe_ix ix_list ha.h hb.h hs⟩
theorem q_len(hg:Gl X "len")(hm:X.mg "len"=none)(ha:QA X (e :: es) t)(hp:(e :: es).all plainE=true:=by rfl) :
  QE X (.Call (.Name "len" p) (e :: es) [] pos) (tCB (λxs H Q=>∃ p ys,xs=[.ref p]/\(H p=some (.lst ys)\/H p=some (.tup ys))/\Q (.int ys.length) H) t):=⟨pe_cB call_len2 hg hm PySem.boot_len ha.h hp⟩
def q_lenS(hg:Gl X "len")(hm:X.mg "len"=none)(ha:QA X (e :: es) t)(hp:(e :: es).all plainE=true:=by rfl) :
  QE X (.Call (.Name "len" p) (e :: es) [] pos) (tCB (λxs H Q=>∃ p ys,xs=[.ref p]/\(SqL X.K H p ys\/SqT X.K H p ys)/\Q (.int ys.length) H) t):=⟨pe_cB call_len_seq hg hm PySem.boot_len ha.h hp⟩
def q_abs(hg:Gl X "abs")(hm:X.mg "abs"=none)(ha:QA X (e :: es) t)(hp:(e :: es).all plainE=true:=by rfl) :
  QE X (.Call (.Name "abs" p) (e :: es) [] pos) (tCB (λxs H Q=>∃ i,xs=[.int i]/\Q (.int (if i < 0 then -i else i)) H) t):=⟨pe_cB call_abs hg hm (by rfl) ha.h hp⟩
def q_inst(hg:Gl X "isinstance")(hm:X.mg "isinstance"=none)(ha:QA X (e :: es) t)(hp:(e :: es).all plainE=true:=by rfl) :
  QE X (.Call (.Name "isinstance" p) (e :: es) [] pos) (tCB (λxs H Q=>∃ x n t,xs=[x,.ty n]/\kindV H x=some t/\n∈asks/\Q (.bl (isA t n)) H) t):=⟨pe_cB call_inst hg hm (by rfl) ha.h hp⟩
def q_int1(hg:Gl X "int")(hm:X.mg "int"=none)(ha:QA X (e :: es) t)(hp:(e :: es).all plainE=true:=by rfl) :
  QE X (.Call (.Name "int" p) (e :: es) [] pos) (tCB (λxs H Q=>(∃ i,xs=[.int i]/\Q (.int i) H)\/∃ k,xs=[.bl k]/\Q (.int (if k then 1 else 0)) H) t):=⟨pe_cTy call_int1 hg hm (by rfl) ha.h hp⟩
variable {j k:Nat}{ps:List Str}{sp:Sp}
theorem q_fn(F:Fn X.prog X.w X.K X.mg X.base CX0 j x ps sp)(hr:Room k X.A)(hj:j<=k)(hg:Gl X x)(ha:QA X (e :: es) t)(hp:(e :: es).all plainE=true:=by rfl)(hdb:(x == ("__debug__":Str))=false:=by decide) :
  QE X (.Call (.Name x p) (e :: es) [] pos) (tCall sp [] E0 t):=⟨pe_fn F hr hj hg ha.h hp hdb⟩
theorem qfn(F:Fn X.prog X.w X.K X.mg X.base CX0 j x ps sp)(hr:Room k X.A)(ha:QA X (e :: es) t)(hj:j<=k:=by decide)(hg:Gl X x:=by rfl)(hp:(e :: es).all plainE=true:=by rfl)(hdb:(x == ("__debug__":Str))=false:=by decide):QE X (.Call (.Name x p) (e :: es) [] pos) (tCall sp [] E0 t):=q_fn F hr hj hg ha hp hdb
def q_app{o:Expr}{to:TE}{apos cpos:Pos}(ho:QE X o to)(ha:QA X [e] t)(hbase:attributeBase o "append" X.env (eval o X.env)=eval o X.env:=by rfl)(hline:(apos.endLine == cpos.line)=true:=by rfl)(hp:plainE e=true:=by rfl) :
  QE X (.Call (.Attribute o "append" apos) [e] [] cpos) (tApp to t) :=
 ⟨pe_append ho.h ha.h hbase (by rw [se_cons hp]; rfl) hline (se_cons hp) rfl⟩
end
section
variable {X:Cx}{st:Stmt}{rest a b body:List Stmt}{t u tb:TS}{e c tg it:Expr}{te:TE}{tc:TT}{pos:Pos}{g:TG}{wi:TI}
def b_nil:QB X [] tNext:=⟨pss_nil⟩
def b_cons(h1:QS X st t)(h2:QB X rest u):QB X (st :: rest) (tSeq t u):=⟨pss_cons h1.h h2.h⟩
theorem b_one(h1:QS X st t):QB X [st] t:=⟨pss_one h1.h⟩
def s_never:QS X st tNever:=⟨ps_never⟩
theorem s_ret(he:QE X e te):QS X (.Return (some e) pos) (tRet te):=⟨ps_ret he.h⟩
def s_if(hc:QT X c tc)(ha:QB X a t)(hb:QB X b u):QS X (.If c a b pos) (tIfS tc t u):=⟨ps_if hc.h ha.h hb.h⟩
def s_expr(he:QE X e te)(hs:swapsWith e none pos.line X.env=pure false:=by rfl):QS X (.Expr e pos) (tDrop te):=⟨ps_expr he.h hs⟩
def s_set{x:Str}{pos':Pos}(i:Nat)(hN:X.N.Nodup)(he:QE X e te)(hi:X.N[i]?=some x:=by rfl)(hx:Loc X.env.scope x:=by first | exact Or.inl rfl | exact Or.inr rfl)(hs:swapsWith e (some (.Name x pos')) pos.line X.env=pure false:=by rfl)
  (hf:X.fn x=true\/X.env.scope.names.lookup x=some .local:=by first | exact .inl rfl | exact .inr rfl | assumption):QS X (.Assign [.Name x pos'] e pos) (tAsg te (gName i)):=⟨ps_set hN hi hx he.h hs hf⟩
def s_par{x y:Str}{c d:Expr}{ta:TA}{px py pt:Pos}{kt k2 pt2}(i j:Nat)(hN:X.N.Nodup)(ha:QA X [c,d] ta)(hc:X.calm=true:=by rfl)(hi:X.N[i]?=some x:=by rfl)(hj:X.N[j]?=some y:=by rfl)(hij:i ≠ j:=by decide)
  (hx:X.env.scope.names.lookup x=some .local:=by rfl) (hy:X.env.scope.names.lookup y=some .local:=by rfl)
  (hw:swappedStores [.Tuple [.Name x px,.Name y py] kt pt] (.Tuple [c,d] k2 pt2) X.env=pure (some [x,y]):=by rfl)
  (hs:swapsWithSole [.Tuple [.Name x px,.Name y py] kt pt] (.Tuple [c,d] k2 pt2) pos.line X.env=pure false:=by rfl) :
  QS X (.Assign [.Tuple [.Name x px,.Name y py] kt pt] (.Tuple [c,d] k2 pt2) pos) (tPar i j ta):=⟨ps_par hc hN hi hj hij hx hy ha.h hw hs⟩
def g_name{x:Str}(i:Nat)(hN:X.N.Nodup)(hi:X.N[i]?=some x:=by rfl)(hx:Loc X.env.scope x:=by first | exact Or.inl rfl | exact Or.inr rfl)(hf:X.fn x=true\/X.env.scope.names.lookup x=some .local:=by first | exact .inl rfl | exact .inr rfl | assumption) :
  QG X (.Name x pos) (gName i):=⟨pg_name hN hi hx hf⟩
def gs_nil:QGs X [] gNil:=⟨pgs_nil⟩
def gs_cons{es:List Expr}{v:TGs}(h1:QG X e g)(h2:QGs X es v)(hs:(assignEach (e :: es) X.env).map (·.2)=assign e X.env :: (assignEach es X.env).map (·.2):=by rfl):QGs X (e :: es) (gCons g v):=⟨pgs_cons h1.h h2.h hs⟩
def g_tup{es:List Expr}{k:Nat}{v:TGs}{n:Nat}(h:QGs X es v)(hc:X.calm=true:=by rfl)(hn:(assignEach es X.env).length=n:=by rfl)(hst:(assignEach es X.env).findIdx? (·.1)=none:=by rfl) :
  QG X (.Tuple es k pos) (gTup2 n v):=⟨pg_tup2 hc h.h hn hst⟩
def s_while(hp:PassesOwn (model X.prog X.w) X.A X.env X.xe)(hc:QT X c tc)(hb:QB X body tb):QS X (.While c body [] pos) (tWhile tc tb):=⟨ps_while hp hc.h hb.h⟩
def s_for(hp:PassesOwn (model X.prog X.w) X.A X.env X.xe)(hi:QI X tg it wi)(hg:QG X tg g)(hb:QB X body tb)(hc:X.calm=true:=by rfl)(hs:∀ x,foldedSetIterable it X.env x=pure x:=by intro _; rfl) :
  QS X (.For tg it body [] pos) (tFor wi g tb):=⟨ps_for hp hc hi.h hg.h hb.h hs⟩
def i_list(hl:QE X e te):QI X tg e (iList X.K te):=⟨pi_list hl.h⟩
def i_rng1{c:Expr}{ta:TA}{p:Pos}(hg:Gl X "range")(hm:X.mg "range"=none)(ha:QA X [c] ta)(hp:plainE c=true:=by rfl):QI X tg (.Call (.Name "range" p) [c] [] pos) (iRng1 ta):=⟨pi_range1 hg hm ha.h (se_cons hp)⟩
def i_rng2{c d:Expr}{ta:TA}{p:Pos}(hg:Gl X "range")(hm:X.mg "range"=none)(ha:QA X [c,d] ta)(hp:plainE c=true:=by rfl)(hq:plainE d=true:=by rfl) :
  QI X tg (.Call (.Name "range" p) [c,d] [] pos) (iRng2 ta):=⟨pi_range2 hg hm ha.h (by rw [se_cons hp,se_cons hq]; rfl) (se_cons hq)⟩
end
def okQ{P:Program}{w:World}{K:PySem.W.Frag}{mg:Str->Option Value}{base:Heap}{x qual:Str}{st:Stmt}{f:Addr}{fd:FuncData}{N ps:List Str}{k:Nat}{sp:Sp}(F:Fun K x qual st f fd)(S:FnScope N ps (defScope st))(len:∀ vs H Q E,sp vs H Q E->vs.length=ps.length)
  (hbody:∀ (cdv:Value) (A:Around) (outer:List Env) (s:Shared) (H:Hp) (vs:List V) (Q:VK) (E:XK),Room k (A.deeper (envOfC qual (defScope st) s.heap.objs.size f cdv))->sp vs H Q E ->
   ∃ t,QB (cxOf CX0 P w K mg base N qual (defScope st) f cdv A outer s H E).nox (defBody st) t/\t { nx:=λ_ H'=>Q .non H',rt:=Q } (start N vs) H):FnOk P w K mg base CX0 (k + 1) f fd ps sp :=
 F.ok S len λcdv A outer s H vs Q E hr h=>by
  obtain⟨t,q,r⟩:=hbody cdv A outer s H vs Q E hr h
  exact⟨t,q.h,r⟩
def there_of{P:Program}{w:World}{H:Hp}{h:Heap}{a:Addr}{o:HO}(x:ObjOk P w H h a o):∃ u,h.get? a=some u:=by
 cases o with
 | lst xs=>obtain⟨_,_,_,_,e⟩:=x; exact⟨_,e⟩
 | tup xs=>obtain⟨_,_,_,u,e,_⟩:=x; exact⟨_,e⟩
 | dK kvs=>obtain⟨_,_,_,_,u,_,_,e,_⟩:=x; exact⟨u,e⟩
 | dT kvs=>obtain⟨_,_,_,_,u,_,_,e,_⟩:=x; exact⟨u,e⟩
 | set S n=>obtain⟨u,_,_,_,e,_⟩:=x; exact⟨_,e⟩
 | ins C dx fs=>obtain⟨_,_,_,e,_⟩:=x; exact⟨_,e⟩
 | own y=>exact x
 | xd fs=>obtain⟨_,⟨u,_,_,e,_⟩,_⟩:=x; exact⟨_,e⟩
 | rng lo hi=>obtain⟨_,_,_,e⟩:=x; exact⟨_,e⟩
 | frz ob u=>exact⟨_,x.1⟩
 | tbl ps=>obtain⟨_,e,_⟩:=x; exact⟨_,e⟩
 | met f y=>exact⟨_,x⟩
 | ext φ=>exact x.2.1
structure Cv(X:Cx)(pins:List (Addr × Obj))(B:Heap)(H:Hp):Prop where
 old:∀ b o,X.s₀.heap.get? b=some o->b ∉ frs X.stack->∃ o',B.get? b=some o'
 trk:∀ b o,H b=some o->∃ o',B.get? b=some o'
 cel:∀ x c,X.env.cells.lookup x=some c->∃ o',B.get? c=some o'
 pin:∀ p∈X.pn ++ pins,∃ o',B.get? p.1=some o'
section
variable {X:Cx}{pins:List (Addr × Obj)}{Z:St}{H:Hp}{s:Shared}
end
def CX1(P:Program)(w:World):CXT:=λouter H s E e s'=>∃ (ea C:Addr) (a0:Value) (B:Heap) (H':Hp),e=.ref ea/\s'.os=s.os/\AllBare s'.gens/\Un (frs outer) [] H H' s.heap s'.heap/\HOk P w H' s'.heap /\
 Heap.FlyingW B outer ea (.ref C) a0 s'.heap/\(∀ b o,s.heap.get? b=some o->b ∉ frs outer->∃ o',B.get? b=some o')/\(∀ b o,H' b=some o->∃ o',B.get? b=some o')/\E (.ref C) none H'
structure Body(X:Cx):Prop where
 st:X.stack=X.env :: X.outer
 fr:X.env.frame=some X.env.locals
 ex:X.ex=[]
 fn:∀ x,X.fn x=true
structure Goes(X:Cx)(E:XK):Prop extends Body X where
 xe:∀ e s',wpAny (model X.prog X.w) X.A (leaving X.env e) (λ_ s''=>CX1 X.prog X.w X.outer X.H₀ X.s₀ E e s'') (λe' s''=>CX1 X.prog X.w X.outer X.H₀ X.s₀ E e' s'') s'->X.xe e s'
section
variable {X:Cx}{E:XK}{pins:List (Addr × Obj)}{Z:St}{H:Hp}{s:Shared}
def Body.apart(b:Body X)(I:Inv X pins Z H s):(∀ x c,X.env.cells.lookup x=some c->(∃ o,s.heap.get? c=some o)/\c ∉ frs X.stack)/\(∀ p∈X.pn ++ pins,s.heap.get? p.1=some p.2/\p.1 ∉ frs X.stack) /\
  (∀ a o,X.s₀.heap.get? a=some o->∃ o',s.heap.get? a=some o')/\(∀ a o,H a=some o->(∃ o',s.heap.get? a=some o')/\a ∉ frs X.stack):=by
 refine⟨λx c e=>?_,λp hp=>?_,λa o e=>?_,λa o e=>?_⟩
 ·obtain⟨v,o,ho,hd⟩:=I.cell x c e
  refine⟨⟨o,ho⟩,λz=>?_⟩
  rcases Yl.mp (I.stkSub c z) with q | q
  ·exact I.cne x c e q
  ·obtain⟨_,o',e',_⟩:=I.ok.funs.mem q
   exact absurd (Yw (Ye e') (I.ok.cab x c (b.fn x) e)) (YR _)
 ·obtain⟨e,n,ne,nf,d⟩:=I.pin p hp
  exact⟨e,λz=>(Yl.mp (I.stkSub _ z)).elim ne nf⟩
 ·exact I.base.there a o e (by rw [b.ex]; exact List.not_mem_nil)
 ·exact⟨there_of (I.hok a o e),λz=>by rw [I.stkFree a z] at e; cases e⟩
end
section
variable {X:Cx}{E:XK}{x:Str}{C:Addr}{np cpos pos:Pos}{e₀:Expr}{rest:List Expr}{t:TA}
def tRaise(C:Addr)(E:XK)(t:TA):TS:=λ_ Z H=>t Z H λvs H1=>vs.length<=1000/\E (.ref C) none H1
end
def XP(X:Cx)(pins:List (Addr × Obj))(Z:St)(EX:XK)(e:Value)(s':Shared):Prop :=
 ∃ (ea C:Addr) (a0:Value) (B:Heap) (H':Hp),e=.ref ea/\Inv X pins Z H' s'/\Heap.FlyingW B X.stack ea (.ref C) a0 s'.heap/\Cv X pins B H'/\EX (.ref C) none H'
abbrev TEX:=St->Hp->VK->XK->Prop
def PEX(X:Cx)(e:Expr)(t:TEX):Prop :=
 ∀ (pins:List (Addr × Obj)) (s:Shared) (Z:St) (H:Hp) (Q:VK) (EX:XK),Inv X pins Z H s->t Z H Q EX->wpAny (model X.prog X.w) X.A (eval e X.env) (EP X pins Z Q) (XP X pins Z EX) s
abbrev TSX:=Ends->(St->XK)->St->Hp->Prop
def PSsX(X:Cx)(sts:List Stmt)(t:TSX):Prop :=
 ∀ (pins:List (Addr × Obj)) (s:Shared) (Z:St) (H:Hp) (D:Ends) (EX:St->XK),Inv X pins Z H s->t D EX Z H ->
  wpAny (model X.prog X.w) X.A (execs sts X.env) (SP X pins D) (λe s'=>∃ Z',XP X pins Z' (EX Z') e s') s
section
variable {X:Cx}{j k:Nat}{x:Str}{ps:List Str}{sp:Sp}{p pos:Pos}{e:Expr}{es:List Expr}{t:TA}{f:Addr}{fd:FuncData}{ds:List Value}{dvs:List V}
def tCallX(sp:Sp)(dvs:List V)(t:TA):TEX:=λZ H Q EX=>t Z H λvs H1=>sp (vs ++ dvs) H1 Q EX
end
section
variable {X:Cx}{pins:List (Addr × Obj)}{Z:St}{H:Hp}{s:Shared}{ea:Addr}
def ExcAt(C ea:Addr)(h:Heap):Prop:=∃ o,h.get? ea=some o/\o.cls=.ref C
def hoExc(C ea:Addr):HO:=.ext (ExcAt C ea)
end
def tHand(K:PySem.W.Frag)(D:Addr)(i:Nat)(th:Addr->TS)(En:Ends)(Z:St):XK:=λc _ H'=>∃ C,c=.ref C/\exmOne K (.ref C) (.ref D)=some true/\∀ ea,H' ea=none ->
 th ea { nx:=λZ2 H2=>En.nx (Z2.set i none) H2,rt:=En.rt,bk:=λZ2 H2=>En.bk (Z2.set i none) H2,ct:=λZ2 H2=>En.ct (Z2.set i none) H2 } (Z.set i (some (.ref ea))) (upd H' ea (hoExc C ea))
def tTry(K:PySem.W.Frag)(tb:TSX)(D:Addr)(i:Nat)(th:Addr->TS):TS:=λEn Z H=>tb En (tHand K D i th En) Z H
section
variable {X:Cx}{body:List Stmt}{x n:Str}{np hpos pos:Pos}{b₀:Stmt}{suite:List Stmt}{tb:TSX}{th:Addr->TS}{D:Addr}{i:Nat}
end
end My
namespace My
open PySem PySem.Spec L2 PySem.W PySem.Builtin PySem.Builtin.ObjectAttr PySem.Builtin.Getset_descriptor
open PyProof.Rows hiding St
section
variable {prog:Program}{w:World}{A:Around}{E:VSP}{s:Shared}{K:Frag}{x D:Addr}
structure ExcK(K:Frag)(D:Addr):Prop where
 cl:(clsIn K D).isSome=true
 ga:findIn K (.ref D) "__getattribute__"=some (some (.builtin "BaseException.__getattribute__"))
 no:findIn K (.ref D) "__getattr__"=some none
 ha:findIn K (.ref D) "__class__"=some (some (.builtin "object.__class__"))
 hn:specialIn K (.builtin "object.__class__") "__get__"=some (some (.builtin "getset_descriptor.__get__"))
 tk:takesIn K (.builtin "object.__class__")=some true
 mo:mroIn K D (.type "object")=some true
 mb:mroIn K D (.type "BaseException")=some true
end
end My
namespace My
open PySem PySem.Spec L2
open PyProof.Rows hiding St
section
variable {X:Cx}{e:Expr}{es:List Expr}{t:TA}{pos p:Pos}
end
structure FunD(K:PySem.W.Frag)(x qual:Str)(st:Stmt)(dV:Value)(f:Addr)(fd:FuncData):Prop where
 ex:∃ (oc:Value) (od:Option Addr) (kV doc pm:Value) (an:Option Addr) (cdv ct:Value) (osl:Array (Option Value)),
  fd=fnOf x qual (defArgs st) (defBody st) (defScope st) dV kV doc pm an cdv ct/\K.lookup f=some ⟨oc,od,.func fd,osl⟩/\codeIn K cdv qual=true
 kp:keepIn K (.ref f)=true
variable {K:PySem.W.Frag}
def fund_mk{x qual:Str}{st:Stmt}{dV:Value}{f:Addr}{oc:Value}{od an:Option Addr}{osl:Array (Option Value)}{kV doc pm cdv ct:Value}(l:K.lookup f=some ⟨oc,od,.func (fnOf x qual (defArgs st) (defBody st) (defScope st) dV kV doc pm an cdv ct),osl⟩)
  (c:codeIn K cdv qual=true) (k:keepIn K (.ref f)=true):FunD K x qual st dV f (fnOf x qual (defArgs st) (defBody st) (defScope st) dV kV doc pm an cdv ct):=⟨⟨oc,od,kV,doc,pm,an,cdv,ct,osl,rfl,l,c⟩,k⟩
section
variable {P:Program}{w:World}{K:PySem.W.Frag}{mg:Str->Option Value}{base:Heap}{x qual:Str}{st:Stmt}{dV:Value}{f:Addr}{fd:FuncData}{N ps:List Str}{k:Nat}{sp:Sp}
def okQD(F:FunD K x qual st dV f fd)(S:FnScope N ps (defScope st))(len:∀ vs H Q E,sp vs H Q E->vs.length=ps.length)
  (hbody:∀ (cdv:Value) (A:Around) (outer:List Env) (s:Shared) (H:Hp) (vs:List V) (Q:VK) (E:XK),Room k (A.deeper (envOfC qual (defScope st) s.heap.objs.size f cdv))->sp vs H Q E ->
   ∃ t,QB (cxOf CX0 P w K mg base N qual (defScope st) f cdv A outer s H E).nox (defBody st) t/\t { nx:=λ_ H'=>Q .non H',rt:=Q } (start N vs) H):FnOk P w K mg base CX0 (k + 1) f fd ps sp:=by
 obtain⟨oc,od,kV,doc,pm,an,cdv,ct,osl,rfl,lk,hcd⟩:=F.ex
 refine fn_of lk hcd S len λA outer s H vs Q E hr hsp=>?_
 obtain⟨t,h,q⟩:=hbody cdv A outer s H vs Q E hr hsp
 exact⟨t,h.h.nox,q⟩
end
theorem mulOk{x y:Int}{a b:Nat}(hx:x.natAbs < 2 ^ a)(hy:y.natAbs < 2 ^ b)(h:a + b<=1000000):IntMulOk x y:=by
 have key:∀ {z:Int}{n:Nat},z.natAbs < 2 ^ n->Builtin.Int.intBits z<=n:=λ{z n} hz=>by
  unfold Builtin.Int.intBits
  split
  ·exact YD _
  ·rename_i h0
   have h1:z.natAbs ≠ 0:=by
    intro q
    apply h0
    have:z=0:=by omega
    simp [this]
   have:=(Nat.log2_lt h1).mpr hz
   omega
 exact IntMulOk.of_le (key hx) (key hy) (by omega)
structure FnD(P:Program)(w:World)(K:PySem.W.Frag)(mg:Str->Option Value)(base:Heap)(CX:CXT)(k:Nat)(x:Str)(ps:List Str)(dvs:List V)(sp:Sp):Prop where
 ex:∃ (f:Addr) (fd:FuncData) (ds:List Value),FnOk P w K mg base CX k f fd ps sp/\Binds K fd ps ds/\Vals dvs ds/\keepIn K (.ref f)=true/\mg x=some (.ref f)
structure QX(X:Cx)(e:Expr)(t:TEX):Prop where
 h:PEX X e t
structure QSX(X:Cx)(sts:List Stmt)(t:TSX):Prop where
 h:PSsX X sts t
section
variable {X:Cx}{E:XK}{j k:Nat}{x:Str}{ps:List Str}{sp:Sp}{p pos:Pos}{e:Expr}{es:List Expr}{t:TA}{dvs:List V}{C:Addr}
def tXE(te:TEX):TSX:=λD EX Z H=>te Z H (λ_ H1=>D.nx Z H1) (EX Z)
def tXS(i:Nat)(te:TEX):TSX:=λD EX Z H=>te Z H (λv H1=>D.nx (Z.set i (some v)) H1) (EX Z)
end
inductive EqD (H:Hp):V->V->Bool->Nat->Prop where
 | flat {x y:V}(fx:flatV x=true) (fy:flatV y=true):EqD H x y (eqV x y) 0
 | tup {a b:Addr}{xs ys:List V}{e:Nat->Bool}{n:Nat}(ha:H a=some (.tup xs)) (hb:H b=some (.tup ys)) (h:∀ j x y,xs[j]?=some x->ys[j]?=some y->EqD H x y (e j) n) :
   EqD H (.ref a) (.ref b) ((List.range (min xs.length ys.length)).all e && xs.length == ys.length) (n + 1)
 | lst {a b:Addr}{xs ys:List V}{e:Nat->Bool}{n:Nat}(ha:H a=some (.lst xs)) (hb:H b=some (.lst ys)) (hl:xs.length=ys.length) (h:∀ j x y,xs[j]?=some x->ys[j]?=some y->EqD H x y (e j) n) :
   EqD H (.ref a) (.ref b) ((List.range xs.length).all e) (n + 1)
 | lstNe {a b:Addr}{xs ys:List V}{n:Nat}(ha:H a=some (.lst xs)) (hb:H b=some (.lst ys)) (hl:xs.length ≠ ys.length):EqD H (.ref a) (.ref b) false (n + 1)
 | up {x y:V}{b:Bool}{n:Nat}(h:EqD H x y b n):EqD H x y b (n + 1)
def eqV_refl{x:V}(h:flatV x=true):eqV x x=true:=by
 cases x
 case non=>rfl
 case bl b=>simp [eqV]
 case int i=>simp [eqV]
 case str y=>simp [eqV]
 all_goals exact absurd (show false=true from h) (by decide)
def all_range{n:Nat}{e:Nat->Bool}(h:∀ j,j < n->e j=true):(List.range n).all e=true:=List.all_eq_true.mpr λj hj=>h j (YL.mp hj)
variable {H:Hp}
def EqD.self{x y:V}{b:Bool}{n:Nat}(h:EqD H x y b n):x=y->b=true:=by
 induction h with
 | flat fx fy=>intro e; subst e; exact eqV_refl fx
 | @tup a b xs ys e n ha hb h ih =>
  intro q
  injection q with q
  subst q
  rw [ha] at hb
  injection hb with hb
  injection hb with hb
  subst hb
  rw [all_range,Bool.true_and,beq_self_eq_true]
  intro j hj
  rw [Nat.min_self] at hj
  exact ih j _ _ (Yb hj) (Yb hj) rfl
 | @lst a b xs ys e n ha hb hl h ih =>
  intro q
  injection q with q
  subst q
  rw [ha] at hb
  injection hb with hb
  injection hb with hb
  subst hb
  exact all_range λj hj=>ih j _ _ (Yb hj) (Yb hj) rfl
 | up h ih=>exact ih
 | lstNe ha hb hl =>
  intro q
  injection q with q
  subst q
  rw [ha] at hb
  injection hb with hb
  injection hb with hb
  subst hb
  exact absurd rfl hl
section
variable {X:Cx}{pins:List (Addr × Obj)}{Z:St}{H:Hp}{s:Shared}
theorem EqD.at(I:Inv X pins Z H s){x y:V}{b:Bool}{n:Nat}(h:EqD H x y b n):∀ {A:Around}{u v:Value},RelV x u->RelV y v->A.units + n < cLine ->
  SeqAt.EqAt A s u v b/\((∃ a c,x=.ref a/\y=.ref c)->SeqAt.RcAt A s u v b):=by
 induction h with
 | flat fx fy =>
  intro A u v r1 r2 _
  refine⟨eqAt_V r1 r2 fx fy,?_⟩
  rintro⟨a,c,rfl,_⟩
  cases fx
 | @tup a b xs ys e n ha hb h ih =>
  intro A u v r1 r2 hu
  cases r1
  cases r2
  obtain⟨its,v1,t1,_⟩:=I.tuple (SqT.of ha)
  obtain⟨jts,v2,t2,_⟩:=I.tuple (SqT.of hb)
  have rc:SeqAt.RcAt A s (.ref a) (.ref b) ((List.range (min xs.length ys.length)).all e && xs.length == ys.length):=by
   have z:=SeqAt.RcAt.tuples (A:=A) (s:=s) (e:=e) t1 t2 (by omega) λj h1 h2=>by
    have k1:j < xs.length:=by rw [v1.length]; simpa using h1
    have k2:j < ys.length:=by rw [v2.length]; simpa using h2
    obtain⟨u1,q1,w1⟩:=v1.get (Yb k1)
    obtain⟨u2,q2,w2⟩:=v2.get (Yb k2)
    have g1:its.toArray[j]=u1:=by
     have:=Yf.mp q1
     obtain⟨hh,this⟩:=this
     simpa using this
    have g2:jts.toArray[j]=u2:=by
     have:=Yf.mp q2
     obtain⟨hh,this⟩:=this
     simpa using this
    rw [g1,g2]
    exact (ih j _ _ (Yb k1) (Yb k2) w1 w2 (by show A.units + 1 + n < cLine; omega)).1
   simpa [v1.length,v2.length] using z
  refine⟨?_,λ_=>rc⟩
  by_cases q:a=b
  ·have:=(EqD.tup ha hb h).self (by rw [q])
   rw [this,q]
   exact SeqAt.EqAt.same _
  ·exact SeqAt.EqAt.of_refs q rc
 | @lst a b xs ys e n ha hb hl h ih =>
  intro A u v r1 r2 hu
  cases r1
  cases r2
  obtain⟨its,v1,t1,_⟩:=I.list (SqL.of ha)
  obtain⟨jts,v2,t2,_⟩:=I.list (SqL.of hb)
  have rc:SeqAt.RcAt A s (.ref a) (.ref b) ((List.range xs.length).all e):=by
   have z:=SeqAt.RcAt.lists (A:=A) (s:=s) (e:=e) t1.isList t2.isList (by simp [<- v1.length,<- v2.length,hl]) (by omega) λj h1 h2=>by
    have k1:j < xs.length:=by rw [v1.length]; simpa using h1
    have k2:j < ys.length:=by rw [v2.length]; simpa using h2
    obtain⟨u1,q1,w1⟩:=v1.get (Yb k1)
    obtain⟨u2,q2,w2⟩:=v2.get (Yb k2)
    have g1:its.toArray[j]=u1:=by
     have:=Yf.mp q1
     obtain⟨hh,this⟩:=this
     simpa using this
    have g2:jts.toArray[j]=u2:=by
     have:=Yf.mp q2
     obtain⟨hh,this⟩:=this
     simpa using this
    rw [g1,g2]
    exact (ih j _ _ (Yb k1) (Yb k2) w1 w2 (by show A.units + 1 + n < cLine; omega)).1
   simpa [v1.length,v2.length] using z
  refine⟨?_,λ_=>rc⟩
  by_cases q:a=b
  ·have:=(EqD.lst ha hb hl h).self (by rw [q])
   rw [this,q]
   exact SeqAt.EqAt.same _
  ·exact SeqAt.EqAt.of_refs q rc
 | up h ih =>
  intro A u v r1 r2 hu
  exact ih r1 r2 (by omega)
 | @lstNe a b xs ys n ha hb hl =>
  intro A u v r1 r2 hu
  cases r1
  cases r2
  obtain⟨its,v1,t1,_⟩:=I.list (SqL.of ha)
  obtain⟨jts,v2,t2,_⟩:=I.list (SqL.of hb)
  have rc:SeqAt.RcAt A s (.ref a) (.ref b) false:=SeqAt.RcAt.lists_lengths t1.isList t2.isList (by simp [<- v1.length,<- v2.length]; exact hl) (by omega)
  have ne:a ≠ b:=λq=>by
   subst q
   rw [ha] at hb
   injection hb with hb
   injection hb with hb
   subst hb
   exact hl rfl
  exact⟨SeqAt.EqAt.of_refs ne rc,λ_=>rc⟩
end
section
variable {X:Cx}{a b:Expr}{ta tb:TE}{pos:Pos}{k:Nat}
def rEqD:R2:=λx y H Q=>∃ t n p c,x=.ref p/\y=.ref c/\EqD H x y t n/\n<=60/\Q (.bl t) H
def op_eqD(hr:Room k X.A):OpR X (compareOp .Eq) rEqD:=by
 intro pins s Z H x y v u Q I rx ry h
 obtain⟨t,n,p,c,e1,e2,h,hn,q⟩:=h
 have hu:=hr.units
 exact ((h.at I rx ry (by omega)).2 ⟨p,c,e1,e2⟩) _ _ _ _ ⟨.bl t,H,I,rfl,q⟩
def q_eqD(hr:Room k X.A)(ha:QE X a ta)(hb:QE X b tb):QE X (.Compare a [.Eq] [b] pos) (tOp rEqD ta tb):=⟨pe_cmpR (op_eqD hr) ha.h hb.h (nomark _)⟩
def t_eqD(hr:Room k X.A)(ha:QE X a ta)(hb:QE X b tb):QT X (.Compare a [.Eq] [b] pos) (tTest (tOp rEqD ta tb)):=⟨pt_cmpR (op_eqD hr) ha.h hb.h (nomark _)⟩
end
section
variable {X:Cx}{pins:List (Addr × Obj)}{Z:St}{H:Hp}{s:Shared}{h':Heap}
def turned_laid{t':Nat}{ch:List Addr}{o:HO}(I:Inv X pins Z H s)(k:∀ b u,b ∉ ch->s.heap.get? b=some u->h'.get? b=some u)(hf:∀ b∈ch,FpOk X pins H b)(new:ObjOk X.prog X.w (upd H s.heap.objs.size o) h' s.heap.objs.size o) :
  Inv X pins Z (upd H s.heap.objs.size o) { s with heap:=h',toks:=t' }:=by
 have hn:H s.heap.objs.size=none:=I.hok.fresh (Yd _)
 have nch:∀ b u,H b=some u->b ∉ ch:=λb u e z=>by rw [(hf b z).1] at e; cases e
 have old:∀ b u,H b=some u->upd H s.heap.objs.size o b=some u:=λb u e=>by rw [upd_ne (ne_of_none e hn)]; exact e
 refine I.step (g':=s.gens) (d':=s.drawn) (ch:=ch) (λb hb=>⟨(hf b hb).2.2.2.1,(hf b hb).2.1,(hf b hb).2.2.2.2.1,(hf b hb).2.2.2.2.2⟩) (λb u _ _ hc e _=>k b u hc e) (λb u _ _ hc e _=>⟨u.slots,k b u hc e⟩)
  (λb u hc e n=>by rw [upd_ne (Nat.ne_of_lt (Heap.lt_size e))]; exact n) (λb u hc e=>⟨u,k b u hc e⟩) (λb xs e=>old b _ e) (λb x u e=>old b _ e) (λb ps e=>⟨#[],by rw [old b _ e]; simp⟩) (λm hm=>?_) (λb u e=>?_) I.bare
 ·obtain⟨u,es,ep,ho,r⟩:=hm
  exact⟨u,es,ep,k _ u (λz=>(hf _ z).2.1 rfl) ho,r⟩
 ·by_cases hb:b=s.heap.objs.size
  ·subst hb; rw [upd_same] at e; cases e; exact new
  ·rw [upd_ne hb] at e
   refine (I.hok b u e).stay (λc v hc q=>k c v ?_ q) (λc q=>old c _ q) (λc xs q=>old c _ q) λc o q=>old c _ q
   rcases hc with z | z
   ·rw [z]; exact nch b u e
   ·exact nch c _ z
theorem turned2{t':Nat}{ch:List Addr}(I:Inv X pins Z H s)(k:∀ b u,b ∉ ch->s.heap.get? b=some u->h'.get? b=some u)(hf:∀ b∈ch,FpOk X pins H b):Inv X pins Z H { s with heap:=h',toks:=t' }:=by
 have nch:∀ b u,H b=some u->b ∉ ch:=λb u e z=>by rw [(hf b z).1] at e; cases e
 refine I.step (g':=s.gens) (d':=s.drawn) (ch:=ch) (λb hb=>⟨(hf b hb).2.2.2.1,(hf b hb).2.1,(hf b hb).2.2.2.2.1,(hf b hb).2.2.2.2.2⟩) (λb u _ _ hc e _=>k b u hc e) (λb u _ _ hc e _=>⟨u.slots,k b u hc e⟩)
  (λb u hc e n=>n) (λb u hc e=>⟨u,k b u hc e⟩) (λb xs e=>e) (λb x u e=>e) (λb ps e=>⟨#[],by rw [e]; simp⟩) (λm hm=>?_) (λb u e=>?_) I.bare
 ·obtain⟨u,es,ep,ho,r⟩:=hm
  exact⟨u,es,ep,k _ u (λz=>(hf _ z).2.1 rfl) ho,r⟩
 ·refine (I.hok b u e).stay (λc v hc q=>k c v ?_ q) (λc q=>q) λc xs q=>q
  rcases hc with z | z
  ·rw [z]; exact nch b u e
  ·exact nch c _ z
def Ite(K:PySem.W.Frag)(a:Addr):It :=
 ⟨λi H=>∃ xs x,SqL K H a xs/\xs[i]?=some x,λi H x H'=>∃ p y,x=.ref p/\H p=none/\Same H H'/\H' p=some (.tup [.int i,y])/\∀ xs,SqL K H a xs->xs[i]?=some y,λi H=>∃ xs,SqL K H a xs/\xs.length<=i⟩
def turn_enum{P:Program}{w:World}{es:List Expr}{x1}{pos:Pos}(a it e:Addr)(hne:e ≠ it):Turn P w K (.Tuple es x1 pos) (Ite K a) [it,e] e (λi h=>(∃ old,IsEnum h e it (i:Nat) old)/\h.IsListIter it a i) where
 mem:=by simp
 obj:=λi h st b hb=>by
  obtain⟨⟨old,he⟩,o,eo,c,d⟩:=st
  rcases Yl.mp hb with z | z
  ·subst z; exact⟨o,eo,λv z=>by rw [d] at z; cases z⟩
  ·have z:b=e:=by simpa using z
   subst z; exact⟨_,he,λv z=>by cases z⟩
 keep:=λi h h' st k=>⟨⟨st.1.choose,k e (by simp) _ st.1.choose_spec⟩,st.2.at λo x=>k it (by simp) o x⟩
 item:=by
  intro X hP hw hK hc i pins s Z H E I hf st hg
  subst hP hw hK
  obtain⟨⟨old,he⟩,hit⟩:=st
  obtain⟨xs,x,hq,hx⟩:=hg
  obtain⟨its,rv,p,hz⟩:=I.list hq
  obtain⟨u,hu,ru⟩:=rv.get hx
  have hn:H s.heap.objs.size=none:=I.hok.fresh (Yd _)
  refine wpAny_pyNext_enum_item he hit p.isList (x:=u) (by simpa using hu) hne λh' eo st' ht hsz kk=>?_
  refine⟨_,rfl,wpAny_letOwnedTupleGo_enum (s:={ s with heap:=h',toks:=s.toks + 1 }) eo λh2 he2 sb=>?_⟩
  have sb2:∀ b,b ≠ e->h2.get? b=h'.get? b:=sb.2
  have hel:s.heap.objs.size ≠ e:=Ve (Ye he)
  have kt:h2.get? s.heap.objs.size=some { cls:=.type "tuple",data:=.seq #[.int i s.toks,u] }:=(sb2 _ hel).trans ht
  have I1:Inv X pins Z (upd H s.heap.objs.size (.tup [.int i,x])) { s with heap:=h2,toks:=s.toks + 1 }:=by
   refine turned_laid (ch:=[it,e]) I (λb o hb q=>?_) hf ?_
   ·have hb':b ≠ it/\b ≠ e:=by simpa using hb
    rw [sb2 b hb'.2]
    exact kk b o hb'.2 hb'.1 q
   ·exact⟨by show 2<=sizeLine; decide,[.int i s.toks,u],.cons ⟨_,rfl⟩ (.cons ru .nil),⟨_,kt,rfl,_,rfl⟩⟩
  refine⟨.ref s.heap.objs.size,_,I1,rfl,⟨_,x,rfl,hn,same_new hn _,upd_same,λys hy=>by rw [I.list_inj hy hq]; exact hx⟩,⟨⟨u,?_⟩,?_⟩,λb hb=>?_⟩
  ·exact he2
  ·obtain⟨o,q,r⟩:=st'
   exact⟨o,(sb2 it (Ne.symm hne)).trans q,r⟩
  ·have hb1:=(hf b hb).1
   have:b ≠ s.heap.objs.size:=λz=>by
    rcases Yl.mp hb with y | y
    ·obtain⟨o,q,_⟩:=hit
     exact YR _ (by have:=Ye q; rw [<- y,z] at this; exact this)
    ·have y:b=e:=by simpa using y
     exact hel (z.symm.trans y)
   rw [upd_ne this]
   exact hb1
 done:=by
  intro X hP hw hK hc i pins s Z H E I hf st hg
  subst hP hw hK
  obtain⟨⟨old,he⟩,hit⟩:=st
  obtain⟨xs,hq,hx⟩:=hg
  obtain⟨its,rv,p,hz⟩:=I.list hq
  have hl:=rv.length
  refine wpAny_pyNext_enum_end (I.ok.hd hc) he hit p.isList (by simp; omega) λh' eb=>⟨rfl,turned2 (t':=s.toks) (ch:=[it,e]) I (λb o hb q=>eb b o (λz=>hb (by simp [z])) q) hf⟩
 self:=λ_ _ _ _ _ st h=>wpAny_pyIter_enum st.1.choose_spec h
def iEnum(K:PySem.W.Frag)(ta:TA):TI:=λZ H R=>ta Z H λvs H1=>∃ a,vs=[.ref a]/\(∃ xs,SqL K H1 a xs)/\R (Ite K a) H1
def pi_enum{l:Expr}{ta:TA}{p pos pos':Pos}{es:List Expr}{x1}(hg:Gl X "enumerate")(hm:X.mg "enumerate"=none)(ha:PA X [l] ta)(hs:starEach [l] X.env=[(false,eval l X.env)]:=by rfl):PI X (.Tuple es x1 pos') (.Call (.Name "enumerate" p) [l] [] pos) (iEnum X.K ta):=by
 intro pins s Z H R I h
 refine Call_ (ld_blt I hg hm boot_enumerate (VC (thn (ha pos pins s Z H _ I h) λus s1 ⟨vs,H1,I1,r1,q1⟩=>?_) hs rfl))
 obtain⟨a,e,⟨xs,hq⟩,q⟩:=q1
 subst e
 cases r1 with
 | cons r rr =>
  cases rr
  cases r
  obtain⟨its,rv,pl,hz⟩:=I1.list hq
  refine call_enumerate_list pl.isList λh' he hit hsz kk=>?_
  have I2:Inv X pins Z H1 { s1 with heap:=h' }:=I1.kept (t':=s1.toks) kk
  refine wpAny_pyIter_enum (s:={ s1 with heap:=h' }) he ⟨_,[s1.heap.objs.size,s1.heap.objs.size + 1],_,_,H1,rfl,I2,turn_enum a _ _ (Nat.succ_ne_self _),⟨⟨.none,he⟩,hit⟩,λb hb=>?_,q⟩
  have hb':s1.heap.objs.size<=b:=by
   rcases Yl.mp hb with z | z
   ·exact Nat.le_of_eq z.symm
   ·have z:b=s1.heap.objs.size + 1:=by simpa using z
    rw [z]; exact Vr _
  exact I1.fpOk hb' (I1.hok.fresh hb')
theorem vals_of:∀ {xs:List V}{us:List Value},xs.length=us.length->(∀ (i:Nat) x u,xs[i]?=some x->us[i]?=some u->RelV x u)->Vals xs us
 | [],[],_,_=>.nil
 | x :: xs,u :: us,hl,h=>.cons (h 0 x u rfl rfl) (vals_of (by simpa using hl) λi x u h1 h2=>h (i + 1) x u h1 h2)
def rngL(lo hi:Int):List V:=(List.range (hi - lo).toNat).map λk:Nat=>V.int (lo + (k:Int))
theorem rngL_len{lo hi:Int}:(rngL lo hi).length=(hi - lo).toNat:=by simp [rngL]
def rngL_get{lo hi:Int}{i:Nat}(h:i < (hi - lo).toNat):(rngL lo hi)[i]?=some (.int (lo + i)):=by
 unfold rngL
 rw [Yj,V7 h]
 rfl
def rList(K:PySem.W.Frag):List V->Hp->VK->Prop:=λxs H Q=>∃ p ys,xs=[.ref p]/\(SqL K H p ys\/SqT K H p ys\/∃ lo hi,H p=some (.rng lo hi)/\-(2 ^ 62)<=lo/\lo < 2 ^ 62/\-(2 ^ 62)<=hi/\hi < 2 ^ 62/\ys=rngL lo hi/\hi - lo<=1000000) /\
 ∀ l H2,H l=none->Same H H2->H2 l=some (.lst ys)->Q (.ref l) H2
def call_listA(hc:X.calm=true):CallR X (.type "list") (rList X.K):=by
 intro pins s Z H xs us Q I r h
 obtain⟨p,ys,rfl,hq,q⟩:=h
 have old:∀ l,H l=none->Q (.ref l) (upd H l (.lst ys)):=λl hl=>q l _ hl (same_new hl _) upd_same
 rcases hq with hq | hq | ⟨lo,hi,hq,h1,h2,h3,h4,rfl,h5⟩
 ·exact call_list_of pins s Z H [.ref p] us Q I r ⟨p,ys,rfl,.inl hq,old⟩
 ·exact call_list_of pins s Z H [.ref p] us Q I r ⟨p,ys,rfl,.inr hq,old⟩
 ·obtain⟨u,rfl,rx⟩:=vals1 r
  cases rx
  obtain⟨t,u,v,hr⟩:=I.hok p _ hq
  have hn:Builtin.Range.rangeSize lo hi 1=((hi - lo).toNat:Int):=by rw [rangeSize_one]; split <;> omega
  refine call_list_range (I.ok.hd hc) hr (small_one h1 h2 h3 h4) hn (by omega) λh' tk acc' c' kk hl ⟨hs,hacc⟩=>?_
  have hf:H s.heap.objs.size=none:=I.hok.fresh (Yd _)
  refine⟨.ref s.heap.objs.size,_,I.laid kk (Nat.le_refl _) (show ObjOk X.prog X.w _ h' _ (.lst (rngL lo hi)) from ⟨?_,acc'.toList,c',vals_of ?_ λi x u e1 e2=>?_,by simpa using hl⟩),rfl,old _ hf⟩
  ·rw [rngL_len]; exact Yi (m:=1000000) (by omega) (by decide)
  ·rw [rngL_len]; simpa using hs.symm
  ·have hi:i < (hi - lo).toNat:=by rw [<- rngL_len]; exact (Yf.mp e1).1
   rw [rngL_get hi] at e1
   cases e1
   obtain⟨t,rfl⟩:=hacc i u (by simpa using e2)
   exact⟨t,by rw [Int.mul_one]⟩
end
def blkG(X:Cx)(N:List Str)(sc:Scope)(cl:List (Str × Addr))(fn:Str->Bool)(s:Shared)(H:Hp)(fp:List Addr):Cx where
 prog:=X.prog
 w:=X.w
 K:=X.K
 mg:=X.mg
 base:=X.base
 A:=X.A
 N:=N
 s₀:=s
 H₀:=H
 env:=compEnvC sc cl s.heap.objs.size X.env
 outer:=X.stack
 stack:=X.stack
 ex:=fp
 calm:=X.calm
 fn:=fn
 pn:=[]
 xe:=λ_ _=>False
abbrev blk(X:Cx)(N:List Str)(sc:Scope)(cl:List (Str × Addr))(s:Shared)(H:Hp)(fp:List Addr):Cx:=blkG X N sc cl (λ_=>false) s H fp
def capOf(Z:St)(caps:List Nat):St:=caps.map λi=>(Z[i]?).join
structure Blk(X:Cx)(ts:List Str)(caps:List Nat)(cs:List Str)(sc:Scope)(cl:List (Str × Addr)):Prop where
 clos:closureFor sc X.env=pure cl
 kind:sc.kind=.function
 cell:∀ x∈sc.names,x.2 ≠ .cell
 loc:∀ x∈sc.names,x.2=.local->sc.names.lookup x.1=some .local
 sub:∀ x c,cl.lookup x=some c->X.env.cells.lookup x=some c
 has:∀ x,((relabel sc X.env).names.lookup x=some .cell\/(relabel sc X.env).names.lookup x=some .free)->∃ c,cl.lookup x=some c
 len:caps.length=cs.length
 cap:∀ (k:Nat) i x,caps[k]?=some i->cs[k]?=some x->X.N[i]?=some x/\(X.env.kindOf x=some .cell\/X.env.kindOf x=some .free)
 capK:∀ x∈cs,(relabel sc X.env).names.lookup x=some .cell\/(relabel sc X.env).names.lookup x=some .free
section
variable {X:Cx}{pins:List (Addr × Obj)}{Z:St}{H:Hp}{s:Shared}{ts cs:List Str}{caps:List Nat}{sc:Scope}{cl:List (Str × Addr)}{fp:List Addr}
theorem blk_ok(B:Blk X ts caps cs sc cl)(I:Inv X pins Z H s)(hf:∀ b∈fp,FpOk X pins H b)(hlt:∀ b∈fp,b < s.heap.objs.size):(blk X (ts ++ cs) sc cl s H fp).Ok where
 mod:=I.ok.mod
 kind:=B.kind
 glob:=I.ok.glob
 blt:=I.ok.blt
 above:=Yd _
 inj:=λx y c h1 h2=>I.ok.inj x y c (B.sub x c h1) (B.sub y c h2)
 has:=λx h=>B.has x h
 cab:=λx c h _=>by cases h
 hd:=I.ok.hd
 frames:=I.ok.frames
 stk:=.inl rfl
 exf:=λb hb=>⟨Ym (hlt b hb),λx c h=>(hf b hb).2.2.2.2.1 x c (B.sub x c h)⟩
 bs:=I.bs
 bsz:=Yi I.ok.bsz I.sz
 noex:=λb o e hb=>by
  rcases (hf b hb).2.2.2.1 with z | z
  ·exact I.ok.noex b o e z
  ·exact YR _ (Yw (Ye (I.ok.bs b o e).1) z)
 exfs:=λb hb z=>by
  rcases Yl.mp (I.stkSub b z) with e | e
  ·exact (hf b hb).2.1 e
  ·exact (hf b hb).2.2.1 e
 funs:=I.stack
 frf:=I.stkFree
def blk_inv(B:Blk X ts caps cs sc cl)(I:Inv X pins Z H s)(hf:∀ b∈fp,FpOk X pins H b)(hlt:∀ b∈fp,b < s.heap.objs.size){h₁:Heap}{t':Nat}(hn:h₁.Ns s.heap.objs.size λ_=>none)(kk:∀ b o,s.heap.get? b=some o->h₁.get? b=some o) :
  Inv (blk X (ts ++ cs) sc cl s H fp) [] (List.replicate ts.length none ++ capOf Z caps) H { s with heap:=h₁,toks:=t' }:=by
 have hfr:H s.heap.objs.size=none:=I.hok.fresh (Yd _)
 refine⟨blk_ok B I hf hlt,rfl,I.bare,Un.kept kk,⟨_,hn,λi x v h1 h2 h3=>?_⟩,λx c e=>?_,hfr,λx c e=>I.freeC x c (B.sub x c e),λp hp=>absurd (show p∈([]:List (Addr × Obj)) from hp) (by simp),I.hok.kept kk,?_⟩
 ·have hi:¬ i < ts.length:=λhi=>by
   rw [List.getElem?_append_left (by simpa using hi),List.getElem?_replicate,if_pos hi] at h2
   cases h2
  have h1':(ts ++ cs)[i]?=some x:=h1
  rw [YA (by omega)] at h1'
  rw [List.getElem?_append_right (by simp; omega),List.length_replicate] at h2
  unfold capOf at h2
  rw [Yj] at h2
  cases e:caps[i - ts.length]? with
  | none=>rw [e] at h2; cases h2
  | some j =>
   rw [e] at h2
   have h2':(Z[j]?).join=some v:=by simpa using h2
   have h2'':Z[j]?=some (some v):=by
    cases q:Z[j]? with
    | none=>rw [q] at h2'; cases h2'
    | some o=>rw [q] at h2'; cases h2'; rfl
   obtain⟨hN,hk⟩:=B.cap _ _ _ e h1'
   obtain⟨m,hm,hl⟩:=I.loc
   obtain⟨u,r,l⟩:=hl j x v hN h2'' (.inr hk)
   refine⟨u,r,?_⟩
   rcases l with ⟨l,_⟩ | ⟨_,c,hc,⟨o,ho,hd⟩⟩
   ·rcases hk with z | z <;> (rw [z] at l; cases l)
   ·have ck:=B.capK x (Yo h1')
    obtain⟨c',hc'⟩:=B.has x ck
    have:=B.sub x c' hc'
    rw [hc] at this
    cases this
    exact .inr ⟨ck,c,hc',o,kk c o ho,hd⟩
 ·obtain⟨v,o,ho,hd⟩:=I.cell x c (B.sub x c e)
  exact⟨v,o,kk c o ho,hd⟩
 ·show (List.replicate ts.length (none:Option V) ++ capOf Z caps).length=(ts ++ cs).length
  rw [YE,YE,List.length_replicate]
  unfold capOf
  rw [Yg,B.len]
def testsOf(ifs:List Expr)(env:Env):Sem Bool:=forIn ifs true λc r=>if r=true then do let ok <- isTrue c env (eval c env); pure (ForInStep.yield ok) else pure (ForInStep.yield r)
def PTs(X:Cx)(ifs:List Expr)(t:TT):Prop :=
 ∀ (pins:List (Addr × Obj)) (s:Shared) (Z:St) (H:Hp) (Q:Bool->Hp->Prop),Inv X pins Z H s->t Z H Q->wpAny (model X.prog X.w) X.A (testsOf ifs X.env) (TP X pins Z Q) X.xe s
def tYes:TT:=λ_ H Q=>Q true H
def pts_nil:PTs X [] tYes:=λ_ _ _ H _ I h=>wpAny_tests_nil ⟨H,I,h⟩
def pts_one{c:Expr}{t:TT}(h:PT X c t):PTs X [c] t:=λpins s Z H Q I hq=>wpAny_tests_one (h pins s Z H Q I hq)
def comp_loop{prog:Program}{w:World}{A:Around}{R:Result->Shared->Prop}{s:Shared}{elt target iter:Expr}{ifs:List Expr}{scope:Scope}{pos:Pos}{it acc:Value}{env:Env}(I:Nat->Shared->Prop)
  (turn:∀ n s,I n s->wpAny (model prog w) A (pyNext it) (λr s₁=>match r with
   | none=>R (.ok .next) s₁
   | some v=>wpAny (model prog w) A (letOwnedTupleGo target it v) (λ_ s₁'=>wpAny (model prog w) A (assign target env v) (λ_ s₂=>wpAny (model prog w) A (testsOf ifs env) (λok s₃ =>
     if ok=true then wpAny (model prog w) A (eval elt env) (λx s₄ =>
      wpAny (model prog w) A (call (.builtin "list.append") [acc,x]) (λ_ s₅=>∃ m,m < n/\I m s₅) (notedBy (model prog w) A env λe s'=>R (.error e) s') s₄) (notedBy (model prog w) A env λe s'=>R (.error e) s') s₃
     else ∃ m,m < n/\I m s₃) (notedBy (model prog w) A env λe s'=>R (.error e) s') s₂) (notedBy (model prog w) A env λe s'=>R (.error e) s') s₁') (notedBy (model prog w) A env λe s'=>R (.error e) s') s₁) (notedBy (model prog w) A env λe s'=>R (.error e) s') s)
  (n:Nat) (h:I n s):codeAny (model prog w) A (.compLoop (.ListComp elt [⟨target,iter,ifs,0⟩] scope pos) 0 it acc env) R s:=by
 refine codeAny_loop rfl I (λn s hI=>?_) n h
 show wpAny _ _ ((compTurn (.ListComp elt [⟨target,iter,ifs,0⟩] scope pos) 0 it acc env).onRaise (λx=>do noteFrame x env; theTreesLotGoes x)) _ _ s
 refine wpAny_noted ?_
 rw [compTurn_list]
 refine Ya (wpAny_standAt (Ya (Yv (turn n s hI) (λr s₁ h₁=>?_) λ_ _ h'=>h')))
 cases r with
 | none=>exact Yc h₁
 | some v =>
  refine Ya (Yv h₁ (λ_ s₁' h₁'=>?_) λ_ _ h'=>h')
  refine Ya (Yv h₁' (λ_ s₂ h₂=>Ya (Yv h₂ (λok s₃ h₃=>?_) λ_ _ h'=>h')) λ_ _ h'=>h')
  cases ok with
  | false=>exact Yc ⟨rfl,h₃⟩
  | true=>exact Ya (Ya (Yv h₃ (λx s₄ h₄=>Ya (Yv h₄ (λ_ s₅ h₅=>Yc (Yc ⟨rfl,h₅⟩)) λ_ _ h'=>h')) λ_ _ h'=>h'))
def tBlkT(nt:Nat)(cp:St)(J:It)(g:TG)(tt:TT)(te:TE)(H1:Hp)(Q:VK):Prop:=∀ acc H2,H1 acc=none->Same H1 H2->H2 acc=some (.lst []) ->
 ∃ W:Nat->Nat->List V->Hp->Prop,(∃ m,W 0 m [] H2)/\∀ i m ys H,W i m ys H->H acc=some (.lst ys)/\((J.stop i H/\Q (.ref acc) H)\/(J.go i H/\ys.length < 1000000/\∃ N:List V->Hp->Prop,(∀ ys' H',N ys' H'->∃ m',m' < m/\W (i + 1) m' ys' H') /\
  ∀ os x H',os.length=nt->J.yld i H x H'->g x (os ++ cp) H' λτ H3=>∃ os',os'.length=nt/\τ=os' ++ cp/\tt τ H3 λb H4=>if b=true then te τ H4 λv H5=>H5 acc=some (.lst ys)/\N (ys ++ [v]) (upd H5 acc (.lst (ys ++ [v]))) else N ys H4))
def tBlk(nt:Nat)(cp:St)(J:It)(g:TG)(te:TE)(H1:Hp)(Q:VK):Prop:=tBlkT nt cp J g tYes te H1 Q
def tCompT(nt:Nat)(caps:List Nat)(wi:TI)(g:TG)(tt:TT)(te:TE):TE:=λZ H Q=>wi Z H λJ H1=>tBlkT nt (capOf Z caps) J g tt te H1 Q
def tComp(nt:Nat)(caps:List Nat)(wi:TI)(g:TG)(te:TE):TE:=λZ H Q=>wi Z H λJ H1=>tBlk nt (capOf Z caps) J g te H1 Q
def BlkPost(X:Cx)(pins:List (Addr × Obj))(Z:St)(Q:VK)(acc:Value)(C:Addr)(r:Result)(s':Shared):Prop :=
 r=.ok .next/\∃ a H',acc=.ref a/\Inv X pins Z H' s'/\FpOk X pins H' C/\(∃ m,s'.heap.Ns C m)/\Q (.ref a) H'
def blk_key{elt target iter:Expr}{ifs:List Expr}{pos:Pos}{g:TG}{tt:TT}{te:TE}{it acc:Addr}{tn:Nat->Heap->Prop}{J:It}{Q:VK}{cells:List (Str × Addr)}{fn:Str->Bool}{s3 s4:Shared}{H3:Hp}{W:Nat->Nat->List V->Hp->Prop}{m0:Nat}(hc:X.calm=true)
  (hg:PG (blkG X (ts ++ cs) sc cells fn s3 H3 fp) target g) (ht:PTs (blkG X (ts ++ cs) sc cells fn s3 H3 fp) ifs tt) (he:PE (blkG X (ts ++ cs) sc cells fn s3 H3 fp) elt te) (ok:(blkG X (ts ++ cs) sc cells fn s3 H3 fp).Ok)
  (I3:Inv X pins Z H3 s3) (f3:∀ b∈fp,FpOk X pins H3 b) (hlt3:∀ b∈fp,b < s3.heap.objs.size) (T:Turn X.prog X.w X.K target J fp it tn) (J4:Inv (blkG X (ts ++ cs) sc cells fn s3 H3 fp) [] (List.replicate ts.length none ++ capOf Z caps) H3 s4) (st4:tn 0 s4.heap) (w0:W 0 m0 [] H3)
  (step:∀ i m ys H,W i m ys H->H acc=some (.lst ys)/\((J.stop i H/\Q (.ref acc) H)\/(J.go i H/\ys.length < 1000000/\∃ N:List V->Hp->Prop,(∀ ys' H',N ys' H'->∃ m',m' < m/\W (i + 1) m' ys' H') /\
   ∀ os x H',os.length=ts.length->J.yld i H x H'->g x (os ++ capOf Z caps) H' λτ H3=>∃ os',os'.length=ts.length/\τ=os' ++ capOf Z caps/\tt τ H3 λb H4=>if b=true then te τ H4 λv H5=>H5 acc=some (.lst ys)/\N (ys ++ [v]) (upd H5 acc (.lst (ys ++ [v]))) else N ys H4))) :
  codeAny (model X.prog X.w) X.A (.compLoop (.ListComp elt [⟨target,iter,ifs,0⟩] sc pos) 0 (.ref it) (.ref acc) (compEnvC sc cells s3.heap.objs.size X.env)) (BlkPost X pins Z Q (.ref acc) s3.heap.objs.size) s4:=by
 have stat:∀ {H':Hp},(∀ b∈fp,H' b=none)->∀ b∈fp,FpOk (blkG X (ts ++ cs) sc cells fn s3 H3 fp) [] H' b:=λhn b hb =>
  ⟨hn b hb,Nat.ne_of_lt (hlt3 b hb),ok.exfs b hb,.inl hb,ok.exf b hb |>.2,λp hp=>absurd (show p∈([]:List (Addr × Obj)) from hp) (by simp)⟩
 refine comp_loop (λn s'=>∃ i os ys H',os.length=ts.length/\Inv (blkG X (ts ++ cs) sc cells fn s3 H3 fp) [] (os ++ capOf Z caps) H' s'/\tn i s'.heap/\(∀ b∈fp,H' b=none)/\W i n ys H') ?_ m0
  ⟨0,List.replicate ts.length none,[],_,by simp,J4,st4,λb hb=>(f3 b hb).1,w0⟩
 rintro n s5 ⟨i,os,ys,H5,ol,J5,st5,fr5,w5⟩
 obtain⟨ha,hcase⟩:=step i n ys H5 w5
 rcases hcase with ⟨stop,q⟩ | ⟨go,hys,N,hN,turn⟩
 ·refine thn (T.done (blkG X (ts ++ cs) sc cells fn s3 H3 fp) rfl rfl rfl hc i [] s5 _ H5 _ J5 (stat fr5) st5 stop) λr s6 ⟨hr,J6⟩=>?_
  subst hr
  have hf6:H5 s3.heap.objs.size=none:=J6.free
  obtain⟨m6,hm6,_⟩:=J6.loc
  exact⟨rfl,_,H5,rfl,I3.call' (J6.os) J6.base J6.hok J6.bare (λb hb=>⟨(f3 b hb).2.2.2.1,(f3 b hb).2.1,(f3 b hb).2.2.2.2.1,(f3 b hb).2.2.2.2.2⟩),I3.fpOk (Yd _) hf6,⟨m6,hm6⟩,q⟩
 ·refine thn (T.item (blkG X (ts ++ cs) sc cells fn s3 H3 fp) rfl rfl rfl hc i [] s5 _ H5 _ J5 (stat fr5) st5 go) λr s6 ⟨u,hr,h6⟩=>?_
  subst hr
  refine thn h6 λ_ s7 ⟨x,H7,J7,r7,y7,st7,fr7⟩=>?_
  have J7':=J7.pinned (stat fr7) (T.obj _ _ st7)
  refine Yv (hg _ s7 _ H7 x u _ J7' r7 (turn os x H7 ol y7)) (λ_ s8 ⟨Z8,H8,J8,os',ol',e8,q8⟩=>?_) λ_ _ z=>z.elim
  subst e8
  refine Yv (ht _ s8 _ H8 _ J8 q8) (λb s8' ⟨H8',J8',q8'⟩=>?_) λ_ _ z=>z.elim
  cases b with
  | false =>
   rw [if_neg (by decide)] at q8' ⊢
   obtain⟨m',hm',w9⟩:=hN _ _ q8'
   refine⟨m',hm',i + 1,os',ys,_,ol',J8'.unpinned,T.keep _ _ _ st7 λb hb o e=>(J8'.pin (b,o) (Yq _ (Yq _ (mem_pinsAt hb e)))).1,λb hb=>?_,w9⟩
   obtain⟨o,e,d⟩:=T.obj _ _ st7 b hb
   exact (J8'.pin (b,o) (Yq _ (Yq _ (mem_pinsAt hb e)))).2.1
  | true =>
   rw [if_pos rfl] at q8' ⊢
   refine Yv (he _ s8' _ H8' _ J8' q8') (λv s9 ⟨v9,H9,J9,r9,ha9,n9⟩=>?_) λ_ _ z=>z.elim
   refine Yv (mt_append (X:=blkG X (ts ++ cs) sc cells fn s3 H3 fp) _ s9 _ H9 (.ref acc) [v9] (.ref acc) [v] (λ_ H'=>H'=upd H9 acc (.lst (ys ++ [v9]))) J9 rfl (.cons r9 .nil) ⟨_,ys,v9,rfl,rfl,ha9,mill hys,rfl⟩) (λ_ s10 ⟨_,H10,J10,_,e10⟩=>?_) λ_ _ z=>z.elim
   subst e10
   obtain⟨m',hm',w9⟩:=hN _ _ n9
   refine⟨m',hm',i + 1,os',ys ++ [v9],_,ol',J10.unpinned,T.keep _ _ _ st7 λb hb o e=>(J10.pin (b,o) (Yq _ (Yq _ (mem_pinsAt hb e)))).1,λb hb=>?_,w9⟩
   obtain⟨o,e,d⟩:=T.obj _ _ st7 b hb
   exact (J10.pin (b,o) (Yq _ (Yq _ (mem_pinsAt hb e)))).2.1
def blk_run{elt target iter:Expr}{ifs:List Expr}{pos:Pos}{g:TG}{tt:TT}{te:TE}{it:Addr}{tn:Nat->Heap->Prop}{J:It}{Q:VK}{E:VSP}(B:Blk X ts caps cs sc cl)(hc:X.calm=true)
  (hg:∀ s H fp,PG (blk X (ts ++ cs) sc cl s H fp) target g) (ht:∀ s H fp,PTs (blk X (ts ++ cs) sc cl s H fp) ifs tt) (he:∀ s H fp,PE (blk X (ts ++ cs) sc cl s H fp) elt te)
  (I2:Inv X pins Z H s) (T:Turn X.prog X.w X.K target J fp it tn) (st2:tn 0 s.heap) (f2:∀ b∈fp,FpOk X pins H b) (h:tBlkT ts.length (capOf Z caps) J g tt te H Q) :
  wpAny (model X.prog X.w) X.A (newList []) (λacc s₃=>wpAny (model X.prog X.w) X.A (newFunctionEnv sc X.env.globals cl [] X.env.qual none .none (some X.env)) (λcenv s₄ =>
   codeAny (model X.prog X.w) X.A (.compStart (.ListComp elt [⟨target,iter,ifs,0⟩] sc pos) 0 (.ref it) acc { cenv with scope:=relabel sc X.env }) (BlkPost X pins Z Q acc cenv.locals) s₄) E s₃) E s:=by
 refine wpAny_newObj_type (wpAny_newFunctionEnv B.cell (by intro y hy; simp at hy) (λh₁ hns₁ hsb₁=>?_) B.kind)
 dsimp only at hns₁ hsb₁ ⊢
 have hnew:H s.heap.objs.size=none:=I2.hok.fresh (Yd _)
 have I3:Inv X pins Z (upd H s.heap.objs.size (.lst [])) { s with heap:=s.heap.push { cls:=.type "list",dict:=none,data:=.seq ([]:List Value).toArray } } :=
  I2.laid (t':=s.toks) (λb u e=>Yh _ e) (Yd _) ⟨YD _,[],0,.nil,Yn _ rfl⟩
 obtain⟨W,⟨m0,w0⟩,step⟩:=h s.heap.objs.size _ hnew (same_new hnew _) upd_same
 have old2:∀ b o,s.heap.get? b=some o->(s.heap.push { cls:=.type "list",dict:=none,data:=.seq ([]:List Value).toArray }).get? b=some o:=λb o e=>Yh _ e
 generalize hs3:({ s with heap:=s.heap.push { cls:=.type "list",dict:=none,data:=.seq ([]:List Value).toArray } }:Shared)=s3 at I3
 have hh:s.heap.push { cls:=.type "list",dict:=none,data:=.seq ([]:List Value).toArray }=s3.heap:=by rw [<- hs3]
 rw [hh] at hns₁ hsb₁ old2
 have fpO:∀ b∈fp,∃ o,s.heap.get? b=some o:=λb hb=>let ⟨o,e,_⟩:=T.obj 0 _ st2 b hb; ⟨o,e⟩
 have f3:∀ b∈fp,FpOk X pins (upd H s.heap.objs.size (.lst [])) b:=λb hb=>⟨by
  obtain⟨o,e⟩:=fpO b hb
  rw [upd_ne (Ym (Ye e))]; exact (f2 b hb).1,(f2 b hb).2⟩
 have hlt3:∀ b∈fp,b < s3.heap.objs.size:=λb hb=>let ⟨o,e⟩:=fpO b hb; Ye (old2 b o e)
 have kk:∀ b o,s3.heap.get? b=some o->h₁.get? b=some o:=λb o e=>hsb₁.extBut b o (Ym (Ye e)) (Yh _ e)
 have J4:=blk_inv (t':=s.toks + ([]:List (Str × Value)).length) B I3 f3 hlt3 (h₁:=h₁) hns₁ kk
 have st4:tn 0 h₁:=T.keep _ _ _ st2 λb hb o e=>kk b o (old2 b o e)
 have key:∀ s4:Shared,s4={ s3 with heap:=h₁,toks:=s.toks + ([]:List (Str × Value)).length } ->
   codeAny (model X.prog X.w) X.A (.compLoop (.ListComp elt [⟨target,iter,ifs,0⟩] sc pos) 0 (.ref it) (.ref s.heap.objs.size) (compEnvC sc cl s3.heap.objs.size X.env)) (BlkPost X pins Z Q (.ref s.heap.objs.size) s3.heap.objs.size) s4:=by
  rintro s4 rfl
  exact blk_key hc (hg _ _ _) (ht _ _ _) (he _ _ _) (blk_ok B I3 f3 hlt3) I3 f3 hlt3 T J4 st4 w0 step
 have key2:=key { s with heap:=h₁,toks:=s.toks + ([]:List (Str × Value)).length } (by rw [<- hs3])
 rw [hh]
 exact codeAny_compStart_list key2 (T.self _ 0 _ _ _ st4 key2)
def pe_compT{elt target iter:Expr}{ifs:List Expr}{pos:Pos}{wi:TI}{g:TG}{tt:TT}{te:TE}(B:Blk X ts caps cs sc cl)(hi:PI X target iter wi)
  (hg:∀ s H fp,PG (blk X (ts ++ cs) sc cl s H fp) target g) (ht:∀ s H fp,PTs (blk X (ts ++ cs) sc cl s H fp) ifs tt) (he:∀ s H fp,PE (blk X (ts ++ cs) sc cl s H fp) elt te) (hc:X.calm=true:=by rfl) (hs:∀ x,foldedSetIterable iter X.env x=pure x:=by intro _; rfl) :
  PE X (.ListComp elt [⟨target,iter,ifs,0⟩] sc pos) (tCompT ts.length caps wi g tt te):=by
 intro pins s Z H Q I h
 rw [eval_ListComp]
 refine wpAny_comprehension_free (use:=none) rfl hs B.clos B.kind B.loc (thn (hi pins s Z H _ I h) λv s1 h1=>thn h1 λitv s2 h2=>?_)
 obtain⟨it,fp,tn,J,H2,e,I2,T,st2,f2,hq⟩:=h2
 subst e
 refine thn (blk_run B hc hg ht he I2 T st2 f2 hq) λacc s3 h3=>thn h3 λcenv s4 h4=>YS h4 λr s' hp=>?_
 obtain⟨rfl,a,H',rfl,I',fC,⟨m,hm⟩,q⟩:=hp
 exact⟨m,hm,λh' sb=>⟨.ref a,H',I'.turned (t':=s'.toks) (λb o hb e=>sb.extBut b o hb e) fC.1 fC.2.1 fC.2.2.2.1 fC.2.2.2.2.1 fC.2.2.2.2.2,rfl,q⟩⟩
def ps_setCompT{elt target iter:Expr}{ifs:List Expr}{x:Str}{px pos spos:Pos}{wi:TI}{g:TG}{tt:TT}{te:TE}(i:Nat)(B:Blk X ts caps cs sc cl)(hi:PI X target iter wi)
  (hg:∀ s H fp,PG (blk X (ts ++ cs) sc cl s H fp) target g) (ht:∀ s H fp,PTs (blk X (ts ++ cs) sc cl s H fp) ifs tt) (he:∀ s H fp,PE (blk X (ts ++ cs) sc cl s H fp) elt te) (hx:PG X (.Name x px) (gName i))
  (hsw:swapsWith (.ListComp elt [⟨target,iter,ifs,0⟩] sc pos) (some (.Name x px)) spos.line X.env=pure true) (hc:X.calm=true:=by rfl) (hs:∀ x,foldedSetIterable iter X.env x=pure x:=by intro _; rfl) :
  PS X (.Assign [.Name x px] (.ListComp elt [⟨target,iter,ifs,0⟩] sc pos) spos) (tAsg (tCompT ts.length caps wi g tt te) (gName i)):=by
 intro pins s Z H D I h
 rw [exec_Assign_Name_used _ _ _ _ hsw]
 refine Ya (wpAny_standAt (Ya ?_))
 show wpAny _ X.A (do let _ <- comprehension (.ListComp elt [⟨target,iter,ifs,0⟩] sc pos) sc X.env _ (newList []) false (eval iter X.env) (some (assign (.Name x px) X.env))) _ _ s
 refine Ya (Yv (wpAny_comprehension_free (use:=some (assign (.Name x px) X.env)) (Q:=λ_ s'=>SP X pins D .next s') rfl hs B.clos B.kind B.loc
  (thn (hi pins s Z H _ I h) λv s1 h1=>thn h1 λitv s2 h2=>?_)) (λ_ s' hq=>Yc (Yc hq)) λ_ _ e=>e)
 obtain⟨it,fp,tn,J,H2,e,I2,T,st2,f2,hq⟩:=h2
 subst e
 refine thn (blk_run B hc hg ht he I2 T st2 f2 hq) λacc s3 h3=>thn h3 λcenv s4 h4=>YS h4 λr s' hp=>?_
 obtain⟨rfl,a,H',rfl,I',fC,⟨m,hm⟩,q⟩:=hp
 obtain⟨oC,esC,epC,hoC,hdC,rC⟩:=id hm
 have Ip:Inv X (pins ++ [(cenv.locals,oC)]) Z H' s':=I'.pins_of λp hp=>by
  rcases Yp.mp hp with z | z
  ·exact I'.pin p (Yq _ z)
  ·have z:p=(cenv.locals,oC):=by simpa using z
   subst z
   exact⟨hoC,fC.1,fC.2.1,fC.2.2.1,λv z=>by rw [show oC.data=_ from hdC] at z; cases z⟩
 refine thn (hx _ s' Z H' (.ref a) (.ref a) _ Ip rfl q) λ_ s5 ⟨Z5,H5,I5,q5⟩=>?_
 have pC:=I5.pin (cenv.locals,oC) (List.mem_append_right _ (List.mem_append_right _ (by simp)))
 refine⟨m,⟨oC,esC,epC,pC.1,hdC,rC⟩,λh' sb=>⟨Z5,H5,I5.unpinned.turned (t':=s5.toks) (λb o hb e=>sb.extBut b o hb e) pC.2.1 fC.2.1 fC.2.2.2.1 fC.2.2.2.2.1 fC.2.2.2.2.2,q5⟩⟩
def pe_comp{elt target iter:Expr}{pos:Pos}{wi:TI}{g:TG}{te:TE}(B:Blk X ts caps cs sc cl)(hi:PI X target iter wi)
  (hg:∀ s H fp,PG (blk X (ts ++ cs) sc cl s H fp) target g) (he:∀ s H fp,PE (blk X (ts ++ cs) sc cl s H fp) elt te) (hc:X.calm=true:=by rfl) (hs:∀ x,foldedSetIterable iter X.env x=pure x:=by intro _; rfl) :
  PE X (.ListComp elt [⟨target,iter,[],0⟩] sc pos) (tComp ts.length caps wi g te):=pe_compT B hi hg (λ_ _ _=>pts_nil) he hc hs
end
section
variable {X:Cx}{tg e elt it c d:Expr}{te:TE}{ta:TA}{wi:TI}{g:TG}{pos p:Pos}{ts cs:List Str}{caps:List Nat}{sc:Scope}{cl:List (Str × Addr)}
def i_enum{es:List Expr}{x1}{pos':Pos}(hg:Gl X "enumerate")(hm:X.mg "enumerate"=none)(ha:QA X [c] ta)(hp:plainE c=true:=by rfl):QI X (.Tuple es x1 pos') (.Call (.Name "enumerate" p) [c] [] pos) (iEnum X.K ta):=⟨pi_enum hg hm ha.h (se_cons hp)⟩
def q_list(hg:Gl X "list")(hm:X.mg "list"=none)(ha:QA X [c] ta)(hp:plainE c=true:=by rfl)(hc:X.calm=true:=by rfl):QE X (.Call (.Name "list" p) [c] [] pos) (tCB (rList X.K) ta):=⟨pe_callTy (call_listA hc) hg hm (by decide +kernel) ha.h (by decide) (by decide) (se_cons hp) rfl⟩
def q_min(hg:Gl X "min")(hm:X.mg "min"=none)(ha:QA X [c,d] ta)(hp:plainE c=true:=by rfl)(hq:plainE d=true:=by rfl)(hc:X.calm=true:=by rfl) :
  QE X (.Call (.Name "min" p) [c,d] [] pos) (tCB (λxs H Q=>∃ i j,xs=[.int i,.int j]/\Q (.int (if j < i then j else i)) H) ta):=⟨pe_callB (call_min2 hc) hg hm (by decide +kernel) ha.h (by decide) (by decide) (se_cons hp) (by rw [se_cons hq]; rfl)⟩
def blk0(ts:List Str)(hk:sc.kind=.function:=by rfl)(h:(sc.names.all λx=>x.2 != .free && x.2 != .cell && (x.2 != .local || sc.names.lookup x.1 == some .local))=true:=by decide +kernel):Blk X ts [] [] sc []:=by
 have hh:∀ x∈sc.names,x.2 ≠ .free/\x.2 ≠ .cell/\(x.2=.local->sc.names.lookup x.1=some .local):=λx hx=>by
  have q:=List.all_eq_true.mp h x hx
  simp only [Bool.and_eq_true,bne_iff_ne,ne_eq,Bool.or_eq_true,beq_iff_eq] at q
  exact⟨q.1.1,q.1.2,λz=>q.2.elim (λy=>absurd z y) id⟩
 have rl:relabel sc X.env=sc:=by
  unfold relabel
  rw [map_eq_self λx hx=>by
   have q:(x.2 == NameKind.free)=false:=by simpa using (hh x hx).1
   obtain⟨n,k⟩:=x
   simp only at q
   simp [q]]
 refine⟨closureFor_none λx hx=>(hh x hx).1,hk,λx hx=>(hh x hx).2.1,λx hx=>(hh x hx).2.2,λx c e=>by simp at e,λx e=>?_,rfl,λk i x e=>by simp at e,λx e=>by simp at e⟩
 rw [rl] at e
 rcases e with e | e
 ·exact absurd rfl (hh _ (YV e)).2.1
 ·exact absurd rfl (hh _ (YV e)).1
def closL(cells:List (Str × Addr)):List (Str × NameKind)->List (Str × Addr)->Option (List (Str × Addr))
 | [],acc=>some acc
 | (n,k) :: r,acc=>if k == .free then (match cells.lookup n with | some c=>closL cells r ((n,c) :: acc) | none=>none) else closL cells r acc
def closL_of{env:Env}:∀ {ns:List (Str × NameKind)}{acc cl:List (Str × Addr)},closL env.cells ns acc=some cl ->
  (forIn ns acc λx r=>(match x with | (name,kind)=>if (kind == NameKind.free)=true then do let c <- PySem.cellOf env name; pure (ForInStep.yield ((name,c) :: r)) else pure (ForInStep.yield r):Sem (ForInStep (List (Str × Addr)))))=(pure cl:Sem _)
 | [],acc,cl,h=>by cases h; rfl
 | (n,k) :: r,acc,cl,h=>by
  unfold closL at h
  rw [List.forIn_cons]
  dsimp only
  split at h
  ·rename_i hk
   rw [if_pos hk]
   split at h
   ·rename_i c hc
    have e:PySem.cellOf env n=pure c:=by unfold PySem.cellOf; rw [hc]
    rw [e]
    exact closL_of h
   ·cases h
  ·rename_i hk
   rw [if_neg hk]
   exact closL_of h
def closL_sub{cells:List (Str × Addr)}:∀ {ns:List (Str × NameKind)}{acc cl:List (Str × Addr)},closL cells ns acc=some cl->(∀ p∈acc,cells.lookup p.1=some p.2)->∀ p∈cl,cells.lookup p.1=some p.2
 | [],acc,cl,h,ha=>by cases h; exact ha
 | (n,k) :: r,acc,cl,h,ha=>by
  unfold closL at h
  split at h
  ·split at h
   ·rename_i c hc
    exact closL_sub h λp hp=>by
     rcases Yl.mp hp with rfl | hp
     ·exact hc
     ·exact ha p hp
   ·cases h
  ·exact closL_sub h ha
def closL_has{cells:List (Str × Addr)}{x:Str}:∀ {ns:List (Str × NameKind)}{acc cl:List (Str × Addr)},closL cells ns acc=some cl->((x,NameKind.free)∈ns\/∃ c,(x,c)∈acc)->∃ c,(x,c)∈cl
 | [],acc,cl,h,ha=>by
  cases h
  rcases ha with z | z
  ·cases z
  ·exact z
 | (n,k) :: r,acc,cl,h,ha=>by
  unfold closL at h
  split at h
  ·split at h
   ·rename_i c hc
    refine closL_has h ?_
    rcases ha with z | ⟨c',z⟩
    ·rcases Yl.mp z with e | z
     ·cases e; exact .inr ⟨c,Vl⟩
     ·exact .inl z
    ·exact .inr ⟨c',YZ _ z⟩
   ·cases h
  ·rename_i hk
   refine closL_has h ?_
   rcases ha with z | z
   ·rcases Yl.mp z with e | z
    ·cases e; exact absurd rfl hk
    ·exact .inl z
   ·exact .inr z
def lookup_of_mem{x:Str}{c:Addr}:∀ {l:List (Str × Addr)},(x,c)∈l->∃ c',l.lookup x=some c'
 | [],h=>by cases h
 | (n,d) :: r,h=>by
  rw [List.lookup_cons]
  cases e:x == n with
  | true=>exact⟨d,rfl⟩
  | false =>
   rcases Yl.mp h with z | z
   ·cases z; simp at e
   ·exact lookup_of_mem z
def relabel_cases{env:Env}{x:Str}{k:NameKind}(h:(relabel sc env).names.lookup x=some k):(x,k)∈sc.names\/(k=.cell/\(x,NameKind.free)∈sc.names):=by
 have m:=YV h
 unfold relabel at m
 obtain⟨⟨n,k'⟩,hm,e⟩:=Yk.mp m
 dsimp only at e
 split at e
 ·rename_i hc
  cases e
  simp only [Bool.and_eq_true,beq_iff_eq] at hc
  rw [hc.1.1] at hm
  exact .inr ⟨rfl,hm⟩
 ·cases e
  exact .inl hm
theorem relabel_free{env:Env}{x:Str}:∀ {ns:List (Str × NameKind)},ns.lookup x=some NameKind.free ->
  (ns.map λ(n,k)=>if (k == NameKind.free && env.scope.kind == .function && env.kindOf n == some .cell) then (n,NameKind.cell) else (n,k)).lookup x=some .cell \/
  (ns.map λ(n,k)=>if (k == NameKind.free && env.scope.kind == .function && env.kindOf n == some .cell) then (n,NameKind.cell) else (n,k)).lookup x=some .free
 | [],h=>by cases h
 | (n,k) :: r,h=>by
  rw [List.lookup_cons] at h
  rw [Yr]
  dsimp only
  cases e:x == n with
  | true =>
   rw [e] at h
   cases h
   split <;> simp [List.lookup_cons,e]
  | false =>
   rw [e] at h
   split
   ·simp only [List.lookup_cons,e]; exact relabel_free h
   ·simp only [List.lookup_cons,e]; exact relabel_free h
def blkC(ts:List Str)(caps:List Nat)(cs:List Str)(hcl:closL X.env.cells sc.names []=some cl:=by rfl)(hcap:caps.map (λi=>X.N[i]?)=cs.map some:=by rfl)(hck:(cs.all λx=>X.env.kindOf x == some .cell || X.env.kindOf x == some .free)=true:=by rfl)
  (hcf:cs.map (λx=>sc.names.lookup x)=cs.map (λ_=>some NameKind.free):=by rfl) (hk:sc.kind=.function:=by rfl) (h:(sc.names.all λx=>x.2 != .cell && (x.2 != .local || sc.names.lookup x.1 == some .local))=true:=by decide +kernel):Blk X ts caps cs sc cl:=by
 have hh:∀ x∈sc.names,x.2 ≠ .cell/\(x.2=.local->sc.names.lookup x.1=some .local):=λx hx=>by
  have q:=List.all_eq_true.mp h x hx
  simp only [Bool.and_eq_true,bne_iff_ne,ne_eq,Bool.or_eq_true,beq_iff_eq] at q
  exact⟨q.1,λz=>q.2.elim (λy=>absurd z y) id⟩
 have len:caps.length=cs.length:=by have:=congrArg List.length hcap; simpa using this
 refine⟨?_,hk,λx hx=>(hh x hx).1,λx hx=>(hh x hx).2,λx c e=>?_,λx e=>?_,len,λk i x e1 e2=>?_,λx hx=>?_⟩
 ·simp only [closureFor]
  rw [closL_of hcl]
  rfl
 ·exact closL_sub hcl (λp hp=>by cases hp) _ (YV e)
 ·have m:(x,NameKind.free)∈sc.names:=by
   rcases e with e | e
   ·rcases relabel_cases e with z | ⟨_,z⟩
    ·exact absurd rfl (hh _ z).1
    ·exact z
   ·rcases relabel_cases e with z | ⟨z,_⟩
    ·exact z
    ·cases z
  obtain⟨c,hc⟩:=closL_has hcl (.inl m)
  exact lookup_of_mem hc
 ·have h1:=congrArg (·[k]?) hcap
  simp only [List.getElem?_map,e1,e2,Option.map_some,Option.some.injEq] at h1
  have h2:=List.all_eq_true.mp hck x (Yo e2)
  simp only [Bool.or_eq_true,beq_iff_eq] at h2
  exact⟨h1,h2⟩
 ·obtain⟨k,hk'⟩:=Y5 hx
  have h1:=congrArg (·[k]?) hcf
  simp only [List.getElem?_map,hk',Option.map_some,Option.some.injEq] at h1
  exact relabel_free h1
structure QTs(X:Cx)(ifs:List Expr)(t:TT):Prop where
 h:PTs X ifs t
def ts_one{tt:TT}(h:QT X c tt):QTs X [c] tt:=⟨pts_one h.h⟩
def q_compT{ifs:List Expr}{tt:TT}(B:Blk X ts caps cs sc cl)(hi:QI X tg it wi)(hg:∀ s H fp,QG (blk X (ts ++ cs) sc cl s H fp) tg g)(ht:∀ s H fp,QTs (blk X (ts ++ cs) sc cl s H fp) ifs tt)(he:∀ s H fp,QE (blk X (ts ++ cs) sc cl s H fp) elt te)(hc:X.calm=true:=by rfl)(hs:∀ x,foldedSetIterable it X.env x=pure x:=by intro _; rfl) :
  QE X (.ListComp elt [⟨tg,it,ifs,0⟩] sc pos) (tCompT ts.length caps wi g tt te):=⟨pe_compT B hi.h (λs H fp=>(hg s H fp).h) (λs H fp=>(ht s H fp).h) (λs H fp=>(he s H fp).h) hc hs⟩
def s_setCompT{ifs:List Expr}{tt:TT}{x:Str}{px spos:Pos}(i:Nat)(B:Blk X ts caps cs sc cl)(hi:QI X tg it wi)(hg:∀ s H fp,QG (blk X (ts ++ cs) sc cl s H fp) tg g)(ht:∀ s H fp,QTs (blk X (ts ++ cs) sc cl s H fp) ifs tt)(he:∀ s H fp,QE (blk X (ts ++ cs) sc cl s H fp) elt te)(hx:QG X (.Name x px) (gName i))
  (hsw:swapsWith (.ListComp elt [⟨tg,it,ifs,0⟩] sc pos) (some (.Name x px)) spos.line X.env=pure true:=by rfl) (hc:X.calm=true:=by rfl) (hs:∀ x,foldedSetIterable it X.env x=pure x:=by intro _; rfl) :
  QS X (.Assign [.Name x px] (.ListComp elt [⟨tg,it,ifs,0⟩] sc pos) spos) (tAsg (tCompT ts.length caps wi g tt te) (gName i)):=⟨ps_setCompT i B hi.h (λs H fp=>(hg s H fp).h) (λs H fp=>(ht s H fp).h) (λs H fp=>(he s H fp).h) hx.h hsw hc hs⟩
def q_comp(B:Blk X ts caps cs sc cl)(hi:QI X tg it wi)(hg:∀ s H fp,QG (blk X (ts ++ cs) sc cl s H fp) tg g)(he:∀ s H fp,QE (blk X (ts ++ cs) sc cl s H fp) elt te)(hc:X.calm=true:=by rfl)(hs:∀ x,foldedSetIterable it X.env x=pure x:=by intro _; rfl) :
  QE X (.ListComp elt [⟨tg,it,[],0⟩] sc pos) (tComp ts.length caps wi g te):=⟨pe_comp B hi.h (λs H fp=>(hg s H fp).h) (λs H fp=>(he s H fp).h) hc hs⟩
end
section
variable {X:Cx}{a b c e:Expr}{ta tb tc te:TE}{pos:Pos}{st:Stmt}
theorem q_leLt(ha:QE X a ta)(hb:QE X b tb)(hc:QE X c tc)(hm:lastMarks [CmpOp.LtE,CmpOp.Lt] [b,c]=false:=by with_unfolding_all rfl):QE X (.Compare a [.LtE,.Lt] [b,c] pos) (tChain (rI0 λi j=>.bl (decide (i<=j))) (rI0 λi j=>.bl (decide (i < j))) ta tb tc):=⟨pe_chain op_le op_lt ha.h hb.h hc.h hm⟩
theorem t_ninL(ha:QE X a ta)(hb:QE X b tb)(hm:behindInMarks .NotIn b=false:=by with_unfolding_all rfl):QT X (.Compare a [.NotIn] [b] pos) (tTest (tOp (rIn X.K true) ta tb)):=⟨pt_cmpR op_notIn_seq ha.h hb.h hm⟩
def q_gint{x:Str}{i:Int}{tk:Tok}(hg:Gl X x)(hm:X.mg x=some (.int i tk))(hd:(x == ("__debug__":Str))=false:=by decide):QE X (.Name x pos) (tC (.int i)):=⟨pe_glob hg hm ⟨_,rfl⟩ hd⟩
end
def enumK(K:PySem.W.Frag)(g:TG)(tb:TS)(D:Ends)(Z:St):List V->Hp->Prop:=λvs H1=>∃ a,vs=[.ref a]/\(∃ xs,SqL K H1 a xs)/\∃ W:Nat->Nat->St->Hp->Prop,(∃ m,W 0 m Z H1)/\∀ i m Z H,W i m Z H ->
 ((Ite K a).stop i H/\D.nx Z H)\/((Ite K a).go i H/\∃ N:St->Hp->Prop,(∀ Z' H',N Z' H'->∃ m',m' < m/\W (i + 1) m' Z' H')/\∀ x H',(Ite K a).yld i H x H'->g x Z H' λZ2 H2=>tb { D with nx:=N,ct:=N,bk:=D.nx } Z2 H2)
variable {g:TG}{tb:TS}{D:Ends}
theorem tFor_enum{ta:TA}{Z:St}:tFor (iEnum K ta) g tb D Z H=ta Z H (enumK K g tb D Z):=rfl
theorem enumK_of{a:Addr}{xs:List V}{Z:St}(Pv:Nat->St->Hp->Prop)(h0:Pv 0 Z H)(hl:∀ i Z H,i<=xs.length->Pv i Z H->SqL K H a xs)
  (hs:∀ i x Z H p H',xs[i]?=some x->Pv i Z H->H p=none->Same H H'->H' p=some (.tup [.int i,x])->g (.ref p) Z H' λZ2 H2=>tb { D with nx:=Pv (i + 1),ct:=Pv (i + 1),bk:=D.nx } Z2 H2) (hd:∀ Z H,Pv xs.length Z H->D.nx Z H) :
  enumK K g tb D Z [.ref a] H:=by
 refine⟨a,rfl,⟨xs,hl 0 Z H (Nat.zero_le _) h0⟩,λi m Z H=>m=xs.length - i/\i<=xs.length/\Pv i Z H,⟨xs.length,by simp,Nat.zero_le _,h0⟩,?_⟩
 rintro i m Z H ⟨rfl,hi,p⟩
 have q:=hl i Z H hi p
 by_cases hlt:i < xs.length
 ·refine .inr ⟨⟨xs,xs[i],q,by simp [hlt]⟩,Pv (i + 1),λZ' H' p'=>⟨xs.length - (i + 1),by omega,rfl,hlt,p'⟩,λx H' y=>?_⟩
  obtain⟨b,y,rfl,hn,sm,e,hy⟩:=y
  exact hs i y Z H b H' (hy xs q) p hn sm e
 ·have e:i=xs.length:=by omega
  subst e
  exact .inl ⟨⟨xs,q,Yd _⟩,hd _ _ p⟩
variable {tt:TT}{te:TE}
def blk_rngT{lo:Int}{n nt:Nat}{cp:St}{H1:Hp}{Q:VK}(Pv:Addr->Nat->List V->Hp->Prop)(h0:∀ acc H2,H1 acc=none->Same H1 H2->H2 acc=some (.lst [])->Pv acc 0 [] H2)
  (hl:∀ acc i ys H,Pv acc i ys H->H acc=some (.lst ys)/\ys.length < 1000000)
  (hs:∀ acc i ys H os,H1 acc=none->i < n->Pv acc i ys H->os.length=nt->g (.int (lo + (i:Nat))) (os ++ cp) H λτ H3=>∃ os',os'.length=nt/\τ=os' ++ cp/\tt τ H3 λb H4=>if b=true then te τ H4 λv H5=>H5 acc=some (.lst ys)/\Pv acc (i + 1) (ys ++ [v]) (upd H5 acc (.lst (ys ++ [v]))) else Pv acc (i + 1) ys H4)
  (hd:∀ acc ys H,H1 acc=none->Pv acc n ys H->Q (.ref acc) H):tBlkT nt cp (Itr lo n) g tt te H1 Q:=by
 intro acc H2 hn sm e
 refine⟨λi m ys H=>m=n - i/\i<=n/\Pv acc i ys H,⟨n,by simp,Nat.zero_le _,h0 acc H2 hn sm e⟩,?_⟩
 rintro i m ys H ⟨rfl,hi,p⟩
 obtain⟨q1,q2⟩:=hl acc i ys H p
 refine⟨q1,?_⟩
 by_cases hlt:i < n
 ·refine .inr ⟨hlt,q2,Pv acc (i + 1),λys' H' p'=>⟨n - (i + 1),by omega,rfl,hlt,p'⟩,λos x H' ol y=>?_⟩
  obtain⟨rfl,rfl⟩:=y
  exact hs acc i ys _ os hn hlt p ol
 ·have e:i=n:=by omega
  subst e
  exact .inl ⟨Yd _,hd _ _ _ hn p⟩
theorem blk_rng{lo:Int}{n nt:Nat}{cp:St}{H1:Hp}{Q:VK}(Pv:Addr->Nat->List V->Hp->Prop)(h0:∀ acc H2,H1 acc=none->Same H1 H2->H2 acc=some (.lst [])->Pv acc 0 [] H2)
  (hl:∀ acc i ys H,Pv acc i ys H->H acc=some (.lst ys)/\ys.length < 1000000)
  (hs:∀ acc i ys H os,H1 acc=none->i < n->Pv acc i ys H->os.length=nt->g (.int (lo + (i:Nat))) (os ++ cp) H λτ H3=>∃ os',os'.length=nt/\τ=os' ++ cp/\te τ H3 λv H4=>H4 acc=some (.lst ys)/\Pv acc (i + 1) (ys ++ [v]) (upd H4 acc (.lst (ys ++ [v]))))
  (hd:∀ acc ys H,H1 acc=none->Pv acc n ys H->Q (.ref acc) H):tBlk nt cp (Itr lo n) g te H1 Q:=by
 refine blk_rngT (tt:=tYes) Pv h0 hl (λacc i ys H os a b c d=>?_) hd
 have h:=hs acc i ys H os a b c d
 have e:(λτ H3=>∃ os',os'.length=nt/\τ=os' ++ cp/\tYes τ H3 λb H4=>if b=true then te τ H4 λv H5=>H5 acc=some (.lst ys)/\Pv acc (i + 1) (ys ++ [v]) (upd H5 acc (.lst (ys ++ [v]))) else Pv acc (i + 1) ys H4) =
   (λτ H3=>∃ os',os'.length=nt/\τ=os' ++ cp/\te τ H3 λv H4=>H4 acc=some (.lst ys)/\Pv acc (i + 1) (ys ++ [v]) (upd H4 acc (.lst (ys ++ [v])))):=by
  funext τ H3
  simp only [tYes,if_true]
 rw [e]
 exact h
def rngK(lo:Int)(n:Nat)(g:TG)(tb:TS)(D:Ends)(Z:St):Hp->Prop:=λH1=>∃ W:Nat->Nat->St->Hp->Prop,(∃ m,W 0 m Z H1)/\∀ i m Z H,W i m Z H ->
 ((Itr lo n).stop i H/\D.nx Z H)\/((Itr lo n).go i H/\∃ N:St->Hp->Prop,(∀ Z' H',N Z' H'->∃ m',m' < m/\W (i + 1) m' Z' H')/\∀ x H',(Itr lo n).yld i H x H'->g x Z H' λZ2 H2=>tb { D with nx:=N,ct:=N,bk:=D.nx } Z2 H2)
theorem tFor_rng1{ta:TA}{Z:St}:tFor (iRng1 ta) g tb D Z H=ta Z H λvs H1=>∃ j:Int,vs=[.int j]/\-(2 ^ 62)<=j/\j < 2 ^ 62/\rngK 0 j.toNat g tb D Z H1:=rfl
def rngK_of{lo:Int}{n:Nat}{Z:St}(Pv:Nat->St->Hp->Prop)(h0:Pv 0 Z H)(hs:∀ i Z H,i < n->Pv i Z H->g (.int (lo + (i:Nat))) Z H λZ2 H2=>tb { D with nx:=Pv (i + 1),ct:=Pv (i + 1),bk:=D.nx } Z2 H2)
  (hd:∀ Z H,Pv n Z H->D.nx Z H):rngK lo n g tb D Z H:=by
 refine⟨λi m Z H=>m=n - i/\i<=n/\Pv i Z H,⟨n,by simp,Nat.zero_le _,h0⟩,?_⟩
 rintro i m Z H ⟨rfl,hi,p⟩
 by_cases hlt:i < n
 ·refine .inr ⟨hlt,Pv (i + 1),λZ' H' p'=>⟨n - (i + 1),by omega,rfl,hlt,p'⟩,λx H' y=>?_⟩
  obtain⟨rfl,rfl⟩:=y
  exact hs i Z _ hlt p
 ·have e:i=n:=by omega
  subst e
  exact .inl ⟨Yd _,hd _ _ p⟩
def listK(K:PySem.W.Frag)(g:TG)(tb:TS)(D:Ends)(Z:St):V->Hp->Prop:=λx H1=>∃ a,x=.ref a/\(∃ xs,SqL K H1 a xs)/\∃ W:Nat->Nat->St->Hp->Prop,(∃ m,W 0 m Z H1)/\∀ i m Z H,W i m Z H ->
 ((Itl K a).stop i H/\D.nx Z H)\/((Itl K a).go i H/\∃ N:St->Hp->Prop,(∀ Z' H',N Z' H'->∃ m',m' < m/\W (i + 1) m' Z' H')/\∀ x H',(Itl K a).yld i H x H'->g x Z H' λZ2 H2=>tb { D with nx:=N,ct:=N,bk:=D.nx } Z2 H2)
theorem tFor_list{Z:St}:tFor (iList K te) g tb D Z H=te Z H (listK K g tb D Z):=rfl
theorem listK_of{a:Addr}{xs:List V}{Z:St}(Pv:Nat->St->Hp->Prop)(h0:Pv 0 Z H)(hl:∀ i Z H,i<=xs.length->Pv i Z H->SqL K H a xs)
  (hs:∀ i x Z H,xs[i]?=some x->Pv i Z H->g x Z H λZ2 H2=>tb { D with nx:=Pv (i + 1),ct:=Pv (i + 1),bk:=D.nx } Z2 H2) (hd:∀ Z H,Pv xs.length Z H->D.nx Z H):listK K g tb D Z (.ref a) H :=
 ⟨a,rfl,⟨xs,hl 0 Z H (YD _) h0⟩,for_list Pv h0 hl hs hd⟩
structure Mth(P:Program)(w:World)(K:PySem.W.Frag)(mg:Str->Option Value)(base:Heap)(CX:CXT)(k:Nat)(C:Addr)(m:Str)(ps:List Str)(sp:Sp):Prop where
 ex:∃ (f:Addr) (fd:FuncData),FnOk P w K mg base CX k f fd ps sp/\Binds K fd ps []/\Meth K C m f/\Cls K C
structure Mkr(P:Program)(w:World)(K:PySem.W.Frag)(mg:Str->Option Value)(base:Heap)(CX:CXT)(k:Nat)(C:Addr)(x:Str)(ps:List Str)(sp:Sp):Prop where
 ex:∃ (f:Addr) (fd:FuncData),FnOk P w K mg base CX k f fd ps sp/\Binds K fd ps []/\Mk K C f/\mg x=some (.ref C)
section
variable {X:Cx}{CX:CXT}{j k:Nat}{C:Addr}{x m fl:Str}{ps:List Str}{sp:Sp}{p pos apos:Pos}{e o value:Expr}{es:List Expr}{t:TA}{ta tv:TE}{E:XK}
theorem q_meth{pl:Sem Bool}(F:Mth X.prog X.w X.K X.mg X.base CX0 j C m ps sp)(hr:Room k X.A)(hj:j<=k)(ho:QE X o ta)(ha:QA X (e :: es) t)(hp:(e :: es).all plainE=true:=by rfl)
  (ht:eval (.Call (.Attribute o m apos) (e :: es) [] pos) X.env=(do
   let ov <- eval o X.env
   standAt apos.atName
   let (f,first) <- holding [ov] (getMethod ov m pl)
   callWith pos f first (backTo pos (starEach (e :: es) X.env)) (backToKw pos (keywordEach [] X.env))):=by rfl) :
  QE X (.Call (.Attribute o m apos) (e :: es) [] pos) (tMeth C m sp [] E0 ta t):=by
 obtain⟨f,fd,G,b,hm,c⟩:=F.ex
 exact⟨pe_meth ho.h c hm G (hr.mono hj) b .nil pass0 ha.h (se_cons (hd_plain hp).1) (se_any (hd_plain hp).2) ht⟩
def q_meth0{pl:Sem Bool}(F:Mth X.prog X.w X.K X.mg X.base CX0 j C m ps sp)(hr:Room k X.A)(hj:j<=k)(ho:QE X o ta)
  (ht:eval (.Call (.Attribute o m apos) [] [] pos) X.env=(do
   let ov <- eval o X.env
   standAt apos.atName
   let (f,first) <- holding [ov] (getMethod ov m pl)
   callWith pos f first (backTo pos (starEach [] X.env)) (backToKw pos (keywordEach [] X.env))):=by rfl) :
  QE X (.Call (.Attribute o m apos) [] [] pos) (tMeth C m sp [] E0 ta tNil):=by
 obtain⟨f,fd,G,b,hm,c⟩:=F.ex
 exact⟨pe_meth0 ho.h c hm G (hr.mono hj) b .nil pass0 ht⟩
def q_make(F:Mkr X.prog X.w X.K X.mg X.base CX0 j C x ps sp)(hr:Room (k + 1) X.A)(hj:j<=k)(hg:Gl X x)(ha:QA X (e :: es) t)(hp:(e :: es).all plainE=true:=by rfl)(hdb:(x == ("__debug__":Str))=false:=by decide) :
  QE X (.Call (.Name x p) (e :: es) [] pos) (tMake C sp [] E0 t):=by
 obtain⟨f,fd,G,b,M,hm⟩:=F.ex
 exact⟨pe_make M (G.mono hj) hr hg hm b .nil pass0 ha.h hdb (se_cons (hd_plain hp).1) (se_any (hd_plain hp).2)⟩
def q_fld(ho:QE X e ta)(hb:attributeBase e fl X.env (eval e X.env)=eval e X.env:=by rfl):QE X (.Attribute e fl pos) (tFld X.K ta fl):=⟨pe_fld ho.h hb⟩
def s_fld{pos':Pos}(ho:QE X o ta)(hv:QE X value tv)(hs:swapsWith value (some (.Attribute o fl pos')) pos.line X.env=pure false:=by rfl):QS X (.Assign [.Attribute o fl pos'] value pos) (sFld X.K ta tv fl):=⟨ps_fld ho.h hv.h hs⟩
theorem t_ninLK(K:PySem.W.Frag)(ha:QE X o ta)(hb:QE X e tv)(hK:X.K=K:=by rfl)(hm:behindInMarks .NotIn e=false:=by with_unfolding_all rfl):QT X (.Compare o [.NotIn] [e] pos) (tTest (tOp (rIn K true) ta tv)):=by subst hK; exact⟨pt_cmpR op_notIn_seq ha.h hb.h hm⟩
def tMethX(C:Addr)(m:Str)(sp:Sp)(ta:TE)(t:TA):TEX:=λZ H Q EX=>ta Z H λx H1=>∃ a dx fs,x=.ref a/\H1 a=some (.ins C dx fs)/\fs.lookup m=none/\t Z H1 λvs H2=>sp (x :: vs) H2 Q EX
end
section
variable {M:Model}{A:Around}{E:VSP}{s:Shared}{B:Heap}{env:Env}{outer:List Env}{L e:Addr}{cls a0:Value}
end
section
variable {X:Cx}{E:XK}{pins:List (Addr × Obj)}{Z:St}{H:Hp}{s:Shared}
variable {ts cs:List Str}{caps:List Nat}{sc:Scope}{cl:List (Str × Addr)}{fp:List Addr}
end
section
variable {X:Cx}{E:XK}{j k:Nat}{x:Str}{ps:List Str}{sp:Sp}{p pos:Pos}{e elt tg it:Expr}{es:List Expr}{t:TA}{ts cs:List Str}{caps:List Nat}{sc:Scope}{cl:List (Str × Addr)}{wi:TI}{g:TG}{te:TE}
end
def tHand0(K:PySem.W.Frag)(D:Addr)(th:Addr->TS)(En:Ends)(Z:St):XK:=λc _ H'=>∃ C,c=.ref C/\exmOne K (.ref C) (.ref D)=some true/\∀ ea,th ea { nx:=En.nx,rt:=En.rt,bk:=En.bk,ct:=En.ct } Z H'
def tTry0(K:PySem.W.Frag)(tb:TSX)(D:Addr)(th:Addr->TS):TS:=λEn Z H=>tb En (tHand0 K D th En) Z H
section
variable {X:Cx}{body:List Stmt}{x:Str}{np hpos pos:Pos}{b₀:Stmt}{suite:List Stmt}{tb:TSX}{th:Addr->TS}{D:Addr}
end
def tMakeX(C:Addr)(sp:Sp)(t:TA):TEX:=λZ H Q EX=>t Z H λvs H1=>∀ x dx,H1 x=none->H1 dx=none->dx ≠ x->sp (.ref x :: vs) (upd (upd H1 dx (.own x)) x (.ins C dx [])) (λv H2=>v=.non/\Q (.ref x) H2) EX
section
variable {X:Cx}{j k:Nat}{C:Addr}{x:Str}{ps:List Str}{sp:Sp}{p pos:Pos}{e:Expr}{es:List Expr}{t:TA}
end
section
variable {X:Cx}{e:Expr}{te:TE}{p1 p2 p3 pos:Pos}{c1 c2:Str}{k1 k2:Nat}
def tFs(te:TE):TE:=λZ H Q=>te Z H λx H1=>∃ i:Int,x=.int i/\i.natAbs < 2 ^ 30/\∀ z,Q (.str z) H1
end
section
variable {X:Cx}{e:Expr}{t:TA}{p pos:Pos}
end
section
variable {X:Cx}{pins:List (Addr × Obj)}{Z:St}{H:Hp}{s:Shared}
def EqD.neAt(I:Inv X pins Z H s){x y:V}{b:Bool}{n:Nat}(h:EqD H x y b n):∀ {A:Around}{u v:Value},RelV x u->RelV y v->A.units + n < cLine->(∃ a c,x=.ref a/\y=.ref c)->SeqAt.RcNeAt A s u v (!b):=by
 induction h with
 | flat fx fy =>
  rintro A u v r1 r2 _ ⟨a,c,rfl,_⟩
  cases fx
 | up h ih =>
  intro A u v r1 r2 hu w
  exact ih r1 r2 (by omega) w
 | @tup a b xs ys e n ha hb h ih =>
  intro A u v r1 r2 hu _
  cases r1
  cases r2
  obtain⟨its,v1,t1,_⟩:=I.tuple (SqT.of ha)
  obtain⟨jts,v2,t2,_⟩:=I.tuple (SqT.of hb)
  have z:=SeqAt.RcNeAt.tuples (A:=A) (s:=s) (e:=e) t1 t2 (by omega) λj h1 h2=>by
   have k1:j < xs.length:=by rw [v1.length]; simpa using h1
   have k2:j < ys.length:=by rw [v2.length]; simpa using h2
   obtain⟨u1,q1,w1⟩:=v1.get (Yb k1)
   obtain⟨u2,q2,w2⟩:=v2.get (Yb k2)
   have g1:its.toArray[j]=u1:=by
    have:=Yf.mp q1
    obtain⟨hh,this⟩:=this
    simpa using this
   have g2:jts.toArray[j]=u2:=by
    have:=Yf.mp q2
    obtain⟨hh,this⟩:=this
    simpa using this
   rw [g1,g2]
   exact ((h j _ _ (Yb k1) (Yb k2)).at I w1 w2 (by show A.units + 1 + n < cLine; omega)).1
  simpa [v1.length,v2.length] using z
 | @lst a b xs ys e n ha hb hl h ih =>
  intro A u v r1 r2 hu _
  cases r1
  cases r2
  obtain⟨its,v1,t1,_⟩:=I.list (SqL.of ha)
  obtain⟨jts,v2,t2,_⟩:=I.list (SqL.of hb)
  have z:=SeqAt.RcNeAt.lists (A:=A) (s:=s) (e:=e) t1.isList t2.isList (by simp [<- v1.length,<- v2.length,hl]) (by omega) λj h1 h2=>by
   have k1:j < xs.length:=by rw [v1.length]; simpa using h1
   have k2:j < ys.length:=by rw [v2.length]; simpa using h2
   obtain⟨u1,q1,w1⟩:=v1.get (Yb k1)
   obtain⟨u2,q2,w2⟩:=v2.get (Yb k2)
   have g1:its.toArray[j]=u1:=by
    have:=Yf.mp q1
    obtain⟨hh,this⟩:=this
    simpa using this
   have g2:jts.toArray[j]=u2:=by
    have:=Yf.mp q2
    obtain⟨hh,this⟩:=this
    simpa using this
   rw [g1,g2]
   exact ((h j _ _ (Yb k1) (Yb k2)).at I w1 w2 (by show A.units + 1 + n < cLine; omega)).1
  simpa [v1.length,v2.length] using z
 | @lstNe a b xs ys n ha hb hl =>
  intro A u v r1 r2 hu _
  cases r1
  cases r2
  obtain⟨its,v1,t1,_⟩:=I.list (SqL.of ha)
  obtain⟨jts,v2,t2,_⟩:=I.list (SqL.of hb)
  exact SeqAt.RcNeAt.lists_lengths t1.isList t2.isList (by simp [<- v1.length,<- v2.length]; exact hl) (by omega)
end
section
variable {X:Cx}{a b:Expr}{ta tb:TE}{pos:Pos}{k:Nat}
def rNeD:R2:=λx y H Q=>∃ t n p c,x=.ref p/\y=.ref c/\EqD H x y t n/\n<=60/\Q (.bl (!t)) H
def op_neD(hr:Room k X.A):OpR X (compareOp .NotEq) rNeD:=by
 intro pins s Z H x y v u Q I rx ry h
 obtain⟨t,n,p,c,e1,e2,h,hn,q⟩:=h
 have hu:=hr.units
 exact (h.neAt I rx ry (by omega) ⟨p,c,e1,e2⟩) _ _ _ _ ⟨.bl (!t),H,I,rfl,q⟩
def t_neD(hr:Room k X.A)(ha:QE X a ta)(hb:QE X b tb):QT X (.Compare a [.NotEq] [b] pos) (tTest (tOp rNeD ta tb)):=⟨pt_cmpR (op_neD hr) ha.h hb.h (nomark _)⟩
end
section
variable {X:Cx}{o e:Expr}{es:List Expr}{to:TE}{t:TA}{name:Str}{apos cpos:Pos}{id:String}{r:V->List V->Hp->VK->Prop}
def tLm0(r:V->List V->Hp->VK->Prop)(to:TE):TE:=λZ H Q=>to Z H λx H1=>r x [] H1 Q
def tLm(r:V->List V->Hp->VK->Prop)(to:TE)(t:TA):TE:=λZ H Q=>to Z H λx H1=>∃ l zs,x=.ref l/\H1 l=some (.lst zs)/\t Z H1 λvs H2=>r x vs H2 Q
def pe_lm(slot:Slot "list" name id)(hty:typeOf (.builtin id)=pure (.type "method_descriptor"))(hm:MtM X id r)(ho:PE X o to)(ha:PA X (e :: es) t)
  (hbase:attributeBase o name X.env (eval o X.env)=eval o X.env:=by rfl)
  (hfew:((backTo cpos (starEach (e :: es) X.env)).all (λx=>!x.1) && (backToKw cpos (keywordEach [] X.env)).all (λx=>x.1.isSome)
   && decide ((e :: es).length + ([]:List Keyword).length + (if ([]:List Keyword).isEmpty then 0 else 1) < 30))=true:=by rfl)
  (hline:(apos.endLine == cpos.line)=true:=by rfl) (hs:starEach (e :: es) X.env=(false,eval e X.env) :: starEach es X.env:=by rfl) (hplain:(backTo cpos (starEach es X.env)).any (·.1)=false:=by rfl) :
  PE X (.Call (.Attribute o name apos) (e :: es) [] cpos) (tLm r to t):=by
 intro pins s Z H Q I h
 refine wpAny_Call_method_late hbase hfew hline rfl (thn (ho pins s Z H _ I h) λv s1 ⟨x,H1,I1,r1,l,zs,e1,e2,q1⟩=>?_)
 obtain⟨h1,h2⟩:=tyV_is (T:="list") I1 r1 (by rw [e1]; exact .inl ⟨rfl,zs,SqL.of e2⟩)
 refine⟨"list",id,PySem.F.plainAttrs_list,slot,hty,h1,h2,?_⟩
 have hA:=ha cpos pins s1 Z H1 _ I1 q1
 rw [hs] at hA ⊢
 refine Calls.callWith_builtin (by show (false || (backTo cpos (starEach es X.env)).any (·.1))=false; rw [hplain] <;> rfl) (Calls.evalArgs_plain ?_)
 exact thn hA λus s2 ⟨vs,H2,I2,r2,q2⟩=>hm pins s2 Z H2 x vs v us Q I2 r1 r2 q2
def q_ext(ho:QE X o to)(ha:QA X [e] t)(hbase:attributeBase o "extend" X.env (eval o X.env)=eval o X.env:=by rfl)(hline:(apos.endLine == cpos.line)=true:=by rfl)(hp:plainE e=true:=by rfl) :
  QE X (.Call (.Attribute o "extend" apos) [e] [] cpos) (tLm rExtend to t) :=
 ⟨pe_lm PySem.F.slot_list_extend PySem.F.type_list_extend mt_extend ho.h ha.h hbase (by rw [se_cons hp]; rfl) hline (se_cons hp) rfl⟩
end
def kV_of{P:Program}{w:World}{k:Key}{u:Value}(h:(mixKind P w).is k u=true):RelV (kV k) u:=by
 rcases keyIs_shape h with ⟨i,t,rfl,rfl⟩ | ⟨x,t,rfl,rfl⟩ <;> exact⟨t,rfl⟩
section
variable {X:Cx}{pins:List (Addr × Obj)}{Z:St}{H:Hp}{s:Shared}{a:Addr}{kvs:List (Key × V)}
def freeze(I:Inv X pins Z H s)(e:H a=some (.dK kvs)):∃ o,Inv X pins Z (upd H a (.frz o (.dK kvs))) s:=by
 obtain⟨z,hd,vs,rel,o,es,ep,ho,r⟩:=dk_of I.hok e
 refine⟨o,?_⟩
 exact I.write (x:=a) (e:=a) (o:=.frz o (.dK kvs)) (h':=s.heap) (t':=s.toks) (by rw [e]; exact trivial) (.inl rfl) (λb u _ q=>q) ⟨o,ho⟩ ⟨ho,z,hd,vs,rel,o,es,ep,ho,r⟩
def tFrz(i:Nat)(t:TS):TS:=λD Z H=>∃ a kvs,Z[i]?=some (some (.ref a))/\H a=some (.dK kvs)/\∀ o,t D Z (upd H a (.frz o (.dK kvs)))
def b_frz{sts:List Stmt}{t:TS}(i:Nat)(h:QB X sts t):QB X sts (tFrz i t):=⟨λpins s Z H D I ⟨_,_,_,e,q⟩=>let ⟨o,I'⟩:=freeze I e; h.h pins s Z _ D I' (q o)⟩
end
def Itd(a:Addr)(o:Obj)(kvs:List (Key × V)):It:=⟨λi H=>H a=some (.frz o (.dK kvs))/\i < kvs.length,λi H x H'=>H'=H/\∃ kv,kvs[i]?=some kv/\x=kV kv.1,λi H=>H a=some (.frz o (.dK kvs))/\kvs.length<=i⟩
def frz_at{P:Program}{w:World}{h:Heap}{a:Addr}{o:Obj}{kvs:List (Key × V)}{es}{ep:Nat}(ok:HOk P w H h)(e:H a=some (.frz o (.dK kvs)))(hep:o.data=.dict es ep) :
  (a == sysModules)=false/\kvs.length<=sizeLine/\∃ vs,KV kvs vs/\h.DictAt (mixKind P w) a vs ep:=by
 obtain⟨ho,z,hd,vs,rel,o',es',ep',ho',h1,h2,h3⟩:=(show ObjOk P w H h a (.frz o (.dK kvs)) from ok a _ e)
 rw [ho] at ho'
 cases ho'
 rw [hep] at h2
 cases h2
 exact⟨hd,z,vs,rel,o,es,ho,h1,hep,h3⟩
def kv_get{kvs:List (Key × V)}{vs:List (Key × Value)}(r:KV kvs vs){i:Nat}(hi:i < kvs.length):∃ kv v,kvs[i]?=some kv/\vs[i]?=some (kv.1,v):=by
 have hl:i < vs.length:=by rw [<- r.length]; exact hi
 have hk:=congrArg (·[i]?) r.keys
 simp only [List.getElem?_map,List.getElem?_eq_getElem hi,List.getElem?_eq_getElem hl,Option.map_some,Option.some.injEq] at hk
 exact⟨kvs[i],vs[i].2,Yb hi,by rw [Yb hl,hk]⟩
def turn_dict{P:Program}{w:World}{tg:Expr}(a it:Addr)(o:Obj)(kvs:List (Key × V)){es}{ep:Nat}(hep:o.data=.dict es ep):Turn P w K tg (Itd a o kvs) [it] it (λi h=>h.IsKeyIter it a i kvs.length ep) where
 mem:=by simp
 obj:=λi h st b hb=>by
  have e:b=it:=by simpa using hb
  subst e
  obtain⟨o,e,c,d⟩:=st
  exact⟨o,e,λv z=>by rw [d] at z; cases z⟩
 keep:=λi h h' st k=>st.at λo e=>k it (by simp) o e
 item:=by
  intro X hP hw hK hc i pins s Z H E I hf st hg
  subst hP hw hK
  obtain⟨e,hi⟩:=hg
  obtain⟨_,_,vs,rel,at_⟩:=frz_at I.hok e hep
  obtain⟨kv,v,g1,g2⟩:=kv_get rel hi
  obtain⟨f0,f1,f2,f3,f4,f5⟩:=hf it (by simp)
  rw [rel.length] at st
  refine wpAny_pyNext_dict_item st at_ g2 λkey h' hk st' sb=>?_
  have I1:Inv X pins Z H { s with heap:=h' }:=I.turned (t':=s.toks) (λb o hb e=>(sb.2 b hb).trans e) f0 f1 f3 f4 f5
  obtain⟨ob,e',c,d⟩:=id st'
  rw [<- rel.length] at st'
  exact⟨key,rfl,go_of (s:={ s with heap:=h' }) e' c d (by decide) ⟨kV kv.1,H,I1,kV_of hk,⟨rfl,kv,g1,rfl⟩,st',λb hb=>(hf b hb).1⟩⟩
 done:=by
  intro X hP hw hK hc i pins s Z H E I hf st hg
  subst hP hw hK
  obtain⟨e,hi⟩:=hg
  obtain⟨_,_,vs,rel,at_⟩:=frz_at I.hok e hep
  obtain⟨f0,f1,f2,f3,f4,f5⟩:=hf it (by simp)
  rw [rel.length] at st hi
  exact wpAny_pyNext_dict_end (I.ok.hd hc) st at_ (YU hi) λh' eb=>⟨rfl,I.turned (t':=s.toks) (λb o hb e=>eb b o hb e) f0 f1 f3 f4 f5⟩
 self:=λ_ _ _ _ _ st h=>wpAny_pyIter_keyiter st h
def iDict(tl:TE):TI:=λZ H R=>tl Z H λx H1=>∃ a o kvs,x=.ref a/\H1 a=some (.frz o (.dK kvs))/\R (Itd a o kvs) H1
section
variable {X:Cx}{tg l o i e value:Expr}{tl td ty tv:TE}{t:TA}{pos pos' p:Pos}
def pi_dict(hl:PE X l tl):PI X tg l (iDict tl):=by
 intro pins s Z H R I h
 refine thn (hl pins s Z H _ I h) λv s1 ⟨x,H1,I1,r1,q1⟩=>?_
 obtain⟨a,o,kvs,e,hq,q⟩:=q1
 subst e
 cases r1
 obtain⟨ho,z,hd,vs,rel,o',es,ep,ho',h1,h2,h3⟩:=(show ObjOk X.prog X.w H1 s1.heap a (.frz o (.dK kvs)) from I1.hok a _ hq)
 rw [ho] at ho'
 cases ho'
 refine wpAny_pyIter_dict hd ⟨o,es,ho,h1,h2,h3⟩ ?_
 refine⟨s1.heap.objs.size,[s1.heap.objs.size],_,_,H1,rfl,I1.kept (t':=s1.toks) λb o e=>Yh _ e,turn_dict a _ o kvs h2,⟨_,Yn _ rfl,rfl,by rw [rel.length]; rfl⟩,λb hb=>?_,q⟩
 have e:b=s1.heap.objs.size:=by simpa using hb
 subst e
 exact I1.fpOk (Yd _) (I1.hok.fresh (Yd _))
def i_dict(hl:QE X l tl):QI X tg l (iDict tl):=⟨pi_dict hl.h⟩
def tDG(td ty:TE):TE:=λZ H Q=>td Z H λx H1=>ty Z H1 λy H2=>∃ a kvs k v,x=.ref a/\Rd H2 a (.dK kvs)/\y=kV k/\valV kvs k=some v/\Q v H2
def q_dget(hu:X.A.units + 1 < cLine)(ho:QE X o td)(hi:QE X i ty)(hs:NoSl i:=by intro _ _; rfl):QE X (.Subscript o i pos) (tDG td ty):=⟨by
 intro pins s Z H Q I h
 refine subD_of PySem.F.slot_dict_getitem.lookup hs (thn (ho.h pins s Z H _ I h) λu s1 ⟨x,H1,I1,rx,q1⟩=>thn (hi.h pins s1 Z H1 _ I1 q1) λiv s2 ⟨y,H2,I2,ry,a,kvs,k,v,ex,g,ey,hv,q2⟩=>?_)
 subst ex
 obtain rfl:u=Value.ref a:=rx
 have g':DGet H2 a y (some v):=.inl ⟨kvs,k,g,ey,hv.symm⟩
 exact⟨dict_typeIs I2 g',d_getItem hu I2 g' ry λw' s3 I3 rw'=>⟨v,H2,I3,rw',q2⟩⟩⟩
def sDP(td ty tv:TE):TS:=λD Z H=>tv Z H λv H1=>td Z H1 λx H2=>ty Z H2 λy H3=>∃ a kvs k,x=.ref a/\H3 a=some (.dK kvs)/\y=kV k/\kvs.length < 1000/\D.nx Z (upd H3 a (.dK (putK kvs k v)))
def s_dput(hu:X.A.units + 1 < cLine)(ho:QE X o td)(hi:QE X i ty)(hv:QE X value tv)(hs:swapsWith value (some (.Subscript o i pos')) pos.line X.env=pure false:=by rfl):QS X (.Assign [.Subscript o i pos'] value pos) (sDP td ty tv):=⟨by
 intro pins s Z H D I h
 refine wpAny_Assign_Subscript (thn (hv.h pins s Z H _ I h) λr s1 ⟨v,H1,I1,rv,q1⟩=>thn (ho.h pins s1 Z H1 _ I1 q1) λu s2 ⟨x,H2,I2,rx,q2⟩=>thn (hi.h pins s2 Z H2 _ I2 q2) λiv s3 ⟨y,H3,I3,ry,a,kvs,k,ex,g,ey,hl,q3⟩=>?_) hs
 subst ex ey
 obtain rfl:u=Value.ref a:=rx
 exact d_setItem hu I3 (DPut.k g (small1000 (Yt hl))) ry rv λs4 I4=>⟨Z,_,I4,q3⟩⟩
def tDI(neg:Bool)(ty td:TE):TE:=λZ H Q=>ty Z H λy H1=>td Z H1 λx H2=>∃ a kvs k,x=.ref a/\Rd H2 a (.dK kvs)/\y=kV k/\Q (.bl (if neg=true then !(valV kvs k).isSome else (valV kvs k).isSome)) H2
def q_dnew:QE X (.Dict [] [] pos) (λ_ H Q=>∀ p H2,H p=none->Same H H2->H2 p=some (.dK [])->Q (.ref p) H2):=⟨λpins s Z H Q I h=>pe_dnewK pins s Z H Q I λp hp=>h p _ hp (same_new hp _) upd_same⟩
def call_lenD2:CallR X (.builtin "len") (λxs H Q=>∃ a kvs,xs=[.ref a]/\Rd H a (.dK kvs)/\Q (.int kvs.length) H):=by
 intro pins s Z H xs us Q I r h
 obtain⟨a,kvs,rfl,e,q⟩:=h
 obtain⟨u,rfl,ru⟩:=vals1 r
 cases ru
 exact d_len I e λt s' I'=>⟨.int kvs.length,H,I',⟨t,rfl⟩,q⟩
def q_lenD(hg:Gl X "len")(hm:X.mg "len"=none)(ha:QA X [e] t)(hp:plainE e=true:=by rfl):QE X (.Call (.Name "len" p) [e] [] pos) (tCB (λxs H Q=>∃ a kvs,xs=[.ref a]/\Rd H a (.dK kvs)/\Q (.int kvs.length) H) t) :=
 ⟨pe_callB call_lenD2 hg hm PySem.boot_len ha.h (by decide) (by decide) (se_cons hp) rfl⟩
def rDictF:List V->Hp->VK->Prop:=λxs H Q=>∃ a kvs,xs=[.ref a]/\Rd H a (.dK kvs)/\∀ p o H2,H p=none->Same H H2->H2 p=some (.frz o (.dK kvs))->Q (.ref p) H2
def call_dictF:CallR X (.type "dict") rDictF:=by
 intro pins s Z H xs us Q I r h
 obtain⟨a,kvs,rfl,e,q⟩:=h
 obtain⟨u,rfl,ru⟩:=vals1 r
 cases ru
 refine d_copyOf I e λp s' hp I'=>?_
 obtain⟨o,I2⟩:=freeze I' (a:=p) (kvs:=kvs) upd_same
 rw [upd_upd] at I2
 exact⟨.ref p,_,I2,rfl,q p o _ hp (same_new hp _) upd_same⟩
def q_dictF(hg:Gl X "dict")(hm:X.mg "dict"=none)(ha:QA X [e] t)(hp:plainE e=true:=by rfl):QE X (.Call (.Name "dict" p) [e] [] pos) (tCB rDictF t):=⟨pe_callTy call_dictF hg hm (by decide +kernel) ha.h (by decide) (by decide) (se_cons hp) rfl⟩
def rListD:List V->Hp->VK->Prop:=λxs H Q=>∃ a kvs,xs=[.ref a]/\Rd H a (.dK kvs)/\∀ l H2,H l=none->Same H H2->H2 l=some (.lst (kvs.map λkv=>kV kv.1))->Q (.ref l) H2
def call_listD(hc:X.calm=true):CallR X (.type "list") rListD:=by
 intro pins s Z H xs us Q I r h
 obtain⟨a,kvs,rfl,e,q⟩:=h
 obtain⟨u,rfl,ru⟩:=vals1 r
 cases ru
 obtain⟨z,hd,vs,rel,dd⟩:=dk_rd I.hok e
 obtain⟨ep,at_⟩:=dd.dictAt
 have hf:H s.heap.objs.size=none:=I.hok.fresh (Yd _)
 refine kdl_call (kdl_dict hd) (I.ok.hd hc) at_ (by rw [<- rel.length]; exact z) λh' tk acc' c' kk hl ⟨hs,hacc⟩=>?_
 refine⟨.ref s.heap.objs.size,_,I.laid (o:=.lst (kvs.map λkv=>kV kv.1)) kk (Nat.le_refl _) (show ObjOk X.prog X.w _ h' _ (.lst (kvs.map λkv=>kV kv.1)) from ⟨by rw [List.length_map]; exact z,acc'.toList,c',vals_of ?_ λi x u e1 e2=>?_,by simpa using hl⟩),rfl,q _ _ hf (same_new hf _) upd_same⟩
 ·rw [List.length_map,rel.length]; simpa using hs.symm
 ·obtain⟨k,x',g1,g2⟩:=hacc i u (by simpa using e2)
  have hi:i < kvs.length:=by have:=(List.getElem?_eq_some_iff.mp e1).1; simpa using this
  obtain⟨kv,v,g3,g4⟩:=kv_get rel hi
  rw [g1] at g4
  cases g4
  rw [Yj,g3] at e1
  cases e1
  exact kV_of g2
theorem q_listD(hg:Gl X "list")(hm:X.mg "list"=none)(ha:QA X [e] t)(hp:plainE e=true:=by rfl)(hc:X.calm=true:=by rfl):QE X (.Call (.Name "list" p) [e] [] pos) (tCB rListD t):=⟨pe_callTy (call_listD hc) hg hm (by decide +kernel) ha.h (by decide) (by decide) (se_cons hp) rfl⟩
end
def dictK(g:TG)(tb:TS)(D:Ends)(Z:St):V->Hp->Prop:=λx H1=>∃ a o kvs,x=.ref a/\H1 a=some (.frz o (.dK kvs))/\∃ W:Nat->Nat->St->Hp->Prop,(∃ m,W 0 m Z H1)/\∀ i m Z H,W i m Z H ->
 ((Itd a o kvs).stop i H/\D.nx Z H)\/((Itd a o kvs).go i H/\∃ N:St->Hp->Prop,(∀ Z' H',N Z' H'->∃ m',m' < m/\W (i + 1) m' Z' H')/\∀ x H',(Itd a o kvs).yld i H x H'->g x Z H' λZ2 H2=>tb { D with nx:=N,ct:=N,bk:=D.nx } Z2 H2)
theorem tFor_dict{Z:St}:tFor (iDict te) g tb D Z H=te Z H (dictK g tb D Z):=rfl
def dictK_of{a:Addr}{o:Obj}{kvs:List (Key × V)}{Z:St}(Pv:Nat->St->Hp->Prop)(h0:Pv 0 Z H)(hl:∀ i Z H,i<=kvs.length->Pv i Z H->H a=some (.frz o (.dK kvs)))
  (hs:∀ i kv Z H,kvs[i]?=some kv->Pv i Z H->g (kV kv.1) Z H λZ2 H2=>tb { D with nx:=Pv (i + 1),ct:=Pv (i + 1),bk:=D.nx } Z2 H2) (hd:∀ Z H,Pv kvs.length Z H->D.nx Z H):dictK g tb D Z (.ref a) H:=by
 refine⟨a,o,kvs,rfl,hl 0 Z H (Nat.zero_le _) h0,λi m Z H=>m=kvs.length - i/\i<=kvs.length/\Pv i Z H,⟨kvs.length,by simp,Nat.zero_le _,h0⟩,?_⟩
 rintro i m Z H ⟨rfl,hi,p⟩
 have q:=hl i Z H hi p
 by_cases hlt:i < kvs.length
 ·refine .inr ⟨⟨q,hlt⟩,Pv (i + 1),λZ' H' p'=>⟨kvs.length - (i + 1),by omega,rfl,hlt,p'⟩,λx H' y=>?_⟩
  obtain⟨rfl,kv,hkv,rfl⟩:=y
  exact hs i kv Z _ hkv p
 ·have e:i=kvs.length:=by omega
  subst e
  exact .inl ⟨⟨q,Yd _⟩,hd _ _ p⟩
def blk_dict{a:Addr}{o:Obj}{kvs:List (Key × V)}{nt:Nat}{cp:St}{H1:Hp}{Q:VK}(Pv:Addr->Nat->List V->Hp->Prop)(h0:∀ acc H2,H1 acc=none->Same H1 H2->H2 acc=some (.lst [])->Pv acc 0 [] H2)
  (hl:∀ acc i ys H,Pv acc i ys H->H acc=some (.lst ys)/\ys.length < 1000000/\H a=some (.frz o (.dK kvs)))
  (hs:∀ acc i kv ys H os,H1 acc=none->kvs[i]?=some kv->Pv acc i ys H->os.length=nt->g (kV kv.1) (os ++ cp) H λτ H3=>∃ os',os'.length=nt/\τ=os' ++ cp/\tt τ H3 λb H4=>if b=true then te τ H4 λv H5=>H5 acc=some (.lst ys)/\Pv acc (i + 1) (ys ++ [v]) (upd H5 acc (.lst (ys ++ [v]))) else Pv acc (i + 1) ys H4)
  (hd:∀ acc ys H,H1 acc=none->Pv acc kvs.length ys H->Q (.ref acc) H):tBlkT nt cp (Itd a o kvs) g tt te H1 Q:=by
 intro acc H2 hn sm e
 refine⟨λi m ys H=>m=kvs.length - i/\i<=kvs.length/\Pv acc i ys H,⟨kvs.length,by simp,Nat.zero_le _,h0 acc H2 hn sm e⟩,?_⟩
 rintro i m ys H ⟨rfl,hi,p⟩
 obtain⟨q1,q2,q3⟩:=hl acc i ys H p
 refine⟨q1,?_⟩
 by_cases hlt:i < kvs.length
 ·refine .inr ⟨⟨q3,hlt⟩,q2,Pv acc (i + 1),λys' H' p'=>⟨kvs.length - (i + 1),by omega,rfl,hlt,p'⟩,λos x H' ol y=>?_⟩
  obtain⟨rfl,kv,hkv,rfl⟩:=y
  exact hs acc i kv ys _ os hn hkv p ol
 ·have e:i=kvs.length:=by omega
  subst e
  exact .inl ⟨⟨q3,Yd _⟩,hd _ _ _ hn p⟩
def blk_list{a:Addr}{xs:List V}{nt:Nat}{cp:St}{H1:Hp}{Q:VK}(Pv:Addr->Nat->List V->Hp->Prop)(h0:∀ acc H2,H1 acc=none->Same H1 H2->H2 acc=some (.lst [])->Pv acc 0 [] H2)
  (hl:∀ acc i ys H,H1 acc=none->Pv acc i ys H->H acc=some (.lst ys)/\ys.length < 1000000/\SqL K H a xs)
  (hs:∀ acc i x ys H os,H1 acc=none->xs[i]?=some x->Pv acc i ys H->os.length=nt->g x (os ++ cp) H λτ H3=>∃ os',os'.length=nt/\τ=os' ++ cp/\tt τ H3 λb H4=>if b=true then te τ H4 λv H5=>H5 acc=some (.lst ys)/\Pv acc (i + 1) (ys ++ [v]) (upd H5 acc (.lst (ys ++ [v]))) else Pv acc (i + 1) ys H4)
  (hd:∀ acc ys H,H1 acc=none->Pv acc xs.length ys H->Q (.ref acc) H):tBlkT nt cp (Itl K a) g tt te H1 Q:=by
 intro acc H2 hn sm e
 refine⟨λi m ys H=>m=xs.length - i/\i<=xs.length/\Pv acc i ys H,⟨xs.length,by simp,Nat.zero_le _,h0 acc H2 hn sm e⟩,?_⟩
 rintro i m ys H ⟨rfl,hi,p⟩
 obtain⟨q1,q2,q3⟩:=hl acc i ys H hn p
 refine⟨q1,?_⟩
 by_cases hlt:i < xs.length
 ·refine .inr ⟨⟨xs,xs[i],q3,by simp [hlt]⟩,q2,Pv acc (i + 1),λys' H' p'=>⟨xs.length - (i + 1),by omega,rfl,hlt,p'⟩,λos x H' ol y=>?_⟩
  obtain⟨rfl,hy⟩:=y
  exact hs acc i x ys _ os hn (hy xs q3) p ol
 ·have e:i=xs.length:=by omega
  subst e
  exact .inl ⟨⟨xs,q3,Yd _⟩,hd _ _ _ hn p⟩
section
variable {X:Cx}{l m:Expr}{ta:TA}{p pos pos':Pos}{es:List Expr}
end
end My
namespace My
open PySem PySem.Spec
open PyProof.Rows hiding St
def Rise(l:List Nat):Prop:=l.Pairwise (· < ·)
theorem Rise.at{l:List Nat}(h:Rise l){i j:Nat}{x y:Nat}(hi:l[i]?=some x)(hj:l[j]?=some y)(hij:i < j):x < y:=by
 obtain⟨hi1,rfl⟩:=Yf.mp hi
 obtain⟨hj1,rfl⟩:=Yf.mp hj
 exact List.pairwise_iff_getElem.mp h i j hi1 hj1 hij
def below_go(xs:Array Nat)(j:Nat)(h:Rise xs.toList):∀ (f lo hi:Nat),hi - lo<=f->lo<=hi->hi<=xs.size->(∀ i x,i < lo->xs[i]?=some x->x < j)->(∀ i x,hi<=i->xs[i]?=some x->j<=x) ->
  SetTable.below.go xs j f lo hi<=xs.size/\(∀ i x,i < SetTable.below.go xs j f lo hi->xs[i]?=some x->x < j)/\∀ i x,SetTable.below.go xs j f lo hi<=i->xs[i]?=some x->j<=x:=by
 intro f
 induction f with
 | zero =>
  intro lo hi h1 h2 h3 h4 h5
  have:lo=hi:=by omega
  subst this
  unfold SetTable.below.go
  exact⟨h3,h4,h5⟩
 | succ f ih =>
  intro lo hi h1 h2 h3 h4 h5
  unfold SetTable.below.go
  by_cases c:lo < hi
  ·rw [if_pos c]
   have hm:(lo + hi) / 2 < xs.size:=by omega
   have e:xs[(lo + hi) / 2]?=some xs[(lo + hi) / 2]:=YY hm
   have e':xs.toList[(lo + hi) / 2]?=some xs[(lo + hi) / 2]:=by rw [YF]; exact e
   dsimp only
   rw [VR,e,Option.getD_some]
   by_cases c2:xs[(lo + hi) / 2] < j
   ·rw [if_pos c2]
    refine ih _ _ (by omega) (by omega) h3 (λi x hi1 hx=>?_) h5
    by_cases c3:i=(lo + hi) / 2
    ·subst c3; rw [e] at hx; cases hx; exact c2
    ·have:=h.at (by rw [YF]; exact hx) e' (show i < (lo + hi) / 2 by omega)
     omega
   ·rw [if_neg c2]
    refine ih _ _ (by omega) (by omega) (by omega) h4 λi x hi1 hx=>?_
    by_cases c3:i=(lo + hi) / 2
    ·subst c3; rw [e] at hx; cases hx; omega
    ·have:=h.at e' (by rw [YF]; exact hx) (show (lo + hi) / 2 < i by omega)
     omega
  ·rw [if_neg c]
   have:lo=hi:=by omega
   subst this
   exact⟨h3,h4,h5⟩
def below_spec(xs:Array Nat)(j:Nat)(h:Rise xs.toList):SetTable.below xs j<=xs.size/\(∀ i x,i < SetTable.below xs j->xs[i]?=some x->x < j)/\∀ i x,SetTable.below xs j<=i->xs[i]?=some x->j<=x :=
 below_go xs j h xs.size 0 xs.size (by omega) (YD _) (Yd _) (λi x hi=>absurd hi (VL _)) λi x hi hx=>by
  rw [Array.getElem?_eq_none hi] at hx; cases hx
def put_rise{xs:Array Nat}{j:Nat}(h:Rise xs.toList)(hj:¬ xs[SetTable.below xs j]?=some j):Rise (SetTable.insertAt xs (SetTable.below xs j) j).toList:=by
 obtain⟨h1,h2,h3⟩:=below_spec xs j h
 rw [SetTable.toList_insertAt]
 generalize hp:SetTable.below xs j=p at *
 have hd:∀ y∈xs.toList.drop p,j < y:=λy hy=>by
  obtain⟨i,hi⟩:=Y5 hy
  rw [List.getElem?_drop,YF] at hi
  have h4:=h3 _ _ (Nat.le_add_right p i) hi
  by_cases c:y=j
  ·subst c
   by_cases ci:i=0
   ·subst ci; exact absurd hi hj
   ·have hps:p < xs.size:=by
     have:=(Array.getElem?_eq_some_iff.mp hi).1
     omega
    have e:=YY hps
    have h5:=h3 _ _ (Yd p) e
    have h6:=h.at (by rw [YF]; exact e) (by rw [YF]; exact hi) (show p < p + i by omega)
    omega
  ·omega
 have ht:∀ y∈xs.toList.take p,y < j:=λy hy=>by
  obtain⟨i,hi⟩:=Y5 hy
  have hip:i < p:=by have:=(Yf.mp hi).1; rw [YG] at this; omega
  rw [List.getElem?_take,if_pos hip,YF] at hi
  exact h2 _ _ hip hi
 refine List.pairwise_append.mpr ⟨h.sublist (List.take_sublist _ _),List.pairwise_cons.mpr ⟨hd,h.sublist (List.drop_sublist _ _)⟩,λa ha b hb=>?_⟩
 rcases Yl.mp hb with rfl | hb
 ·exact ht a ha
 ·exact Nat.lt_trans (ht a ha) (hd b hb)
def TOk(b:Bool)(t:SetTable):Prop:=Rise t.place.toList/\t.dummies=#[]/\t.led=b
def rise_range(n:Nat):Rise (Array.range n).toList:=by
 rw [Array.toList_range]
 exact List.pairwise_lt_range
variable {t:SetTable}
def TOk.standIn{b:Bool}(h:TOk b t)(n:Nat):TOk b (t.standIn n):=⟨rise_range n,rfl,h.2.2⟩
theorem TOk.orStandIn{b:Bool}(h:TOk b t)(n:Nat):TOk b (t.orStandIn n):=by
 unfold SetTable.orStandIn
 split
 ·exact h
 ·exact h.standIn n
def has_nil(j:Nat):SetTable.has #[] j=false:=rfl
def slot_cases(h:t.dummies=#[])(j:Nat):(t.slot j=.empty/\¬ t.place[SetTable.below t.place j]?=some j)\/∃ i,t.slot j=.live i:=by
 unfold SetTable.slot
 dsimp only
 by_cases c:(t.place[SetTable.below t.place j]? == some j)=true
 ·rw [if_pos c]
  exact .inr ⟨_,rfl⟩
 ·rw [if_neg c,h,has_nil]
  exact .inl ⟨rfl,λz=>c (by rw [z]; exact beq_self_eq_true _)⟩
def probe_go(h:t.dummies=#[])(ha:Nat->Int)(x:Int):∀ (f:Nat) (p:SetTable.Probe) (j:Nat) (d:Option Nat),p.dummy=none->SetTable.probe.go t ha x f p=some (.empty j d)->d=none/\¬ t.place[SetTable.below t.place j]?=some j:=by
 intro f
 induction f with
 | zero=>intro p j d _ e; unfold SetTable.probe.go at e; cases e
 | succ f ih =>
  intro p j d hp e
  unfold SetTable.probe.go at e
  have adv:(t.advance p).dummy=none:=by
   unfold SetTable.advance
   split
   ·exact hp
   ·exact hp
  rcases slot_cases h p.j with ⟨c,c2⟩ | ⟨i,c⟩
  ·rw [c] at e
   cases e
   exact⟨hp,c2⟩
  ·rw [c] at e
   dsimp only at e
   split at e
   ·cases e
   ·exact ih _ _ _ adv e
def freeSlot_at(h:t.dummies=#[]){x:Int}{j:Nat}{b:Bool}(e:t.freeSlot x=some (j,b)):b=false/\¬ t.place[SetTable.below t.place j]?=some j:=by
 unfold SetTable.freeSlot at e
 split at e
 ·rename_i j' d q
  obtain⟨rfl,h2⟩:=probe_go h _ _ _ _ _ _ rfl q
  cases e
  exact⟨rfl,h2⟩
 ·cases e
def TOk.lay{b:Bool}(h:TOk b t)(es:Array (Int × Value))(x:Int)(v:Value):TOk b (layNew t es x v).2.1:=by
 unfold layNew
 split
 ·rename_i j d q
  have h2:=(freeSlot_at h.2.1 q).2
  dsimp only
  have k:TOk b (t.put j).1:=⟨put_rise h.1 h2,by show (if SetTable.has t.dummies j then _ else t.dummies)=#[]; rw [h.2.1]; rfl,h.2.2⟩
  exact k.orStandIn _
 ·exact h.standIn _
def TOk.relay{b:Bool}(h:TOk b t)(es:Array (Int × Value))(n:Nat):TOk b (relayAll t es n).2.1:=by
 unfold relayAll
 split
 ·rename_i t' order q
  dsimp only
  split
  ·unfold SetTable.relaid SetTable.laid at q
   cases ho:SetTable.layClean (SetTable.sizeAbove n - 1) (es.map (·.1)) with
   | none=>rw [ho] at q; cases q
   | some owner =>
    rw [ho] at q
    simp only [Option.bind_eq_bind,Option.bind_some,Option.pure_def,Option.some.injEq,Prod.mk.injEq] at q
    obtain⟨rfl,_⟩:=q
    refine⟨?_,rfl,h.2.2⟩
    show Rise (List.map (λq:Nat × Nat=>q.1) _).toArray.toList
    have key:∀ (g:Nat->Option Nat) (l:List Nat),l.Pairwise (· < ·)->((l.filterMap λj=>(g j).map (j,·)).map (·.1)).Sublist l:=by
     intro g l _
     induction l with
     | nil=>exact .slnil
     | cons a l ih =>
      rename_i hp
      rw [V8]
      cases g a with
      | none=>exact (ih (List.pairwise_cons.mp hp).2).cons a
      | some y=>exact (ih (List.pairwise_cons.mp hp).2).cons₂ a
    exact List.pairwise_lt_range.sublist (key (λj=>owner.getD j none) _ List.pairwise_lt_range)
  ·exact h.standIn _
 ·exact h.standIn _
section
variable {prog:Program}{w:World}{A:Around}{E:VSP}{s:Shared}
def byT(w:World):Bool:=w.params.followText "set-order"
def keyI(e:Int × Value):Int:=match e.2 with
 | .int k _=>k
 | _=>0
def AllI(prog:Program)(w:World)(es:List (Int × Value)):Prop:=∀ e∈es,∃ (k:Int) (t:Tok),e.2=.int k t/\e.1=(intKind prog w).hash k
def AllI.elems{es:List (Int × Value)}(h:AllI prog w es):ElemsOf (intKind prog w) es:=λe he=>by
 obtain⟨k,t,h1,h2⟩:=h e he
 rw [h1]
 exact⟨⟨k,intKind_is _ _ _ _,h2⟩,rfl⟩
def AllI.perm{es es':List (Int × Value)}(h:AllI prog w es)(p:es'.Perm es):AllI prog w es':=λe he=>h e (p.mem_iff.mp he)
def AllI.is{es:List (Int × Value)}(h:AllI prog w es){e:Int × Value}(he:e∈es)(k:Int):(intKind prog w).is k e.2=true ↔ k=keyI e:=by
 obtain⟨k',t,h1,h2⟩:=h e he
 have h3:keyI e=k':=by unfold keyI; rw [h1]
 rw [h1,KeyKind.is_eq_decide (intKind_is _ _ k' t) k,Y7,h3]
def SetI(prog:Program)(w:World)(h:Heap)(a:Addr)(S:Int->Prop)(n:Nat):Prop :=
 ∃ o es ep t,h.get? a=some o/\o.ExactSet/\o.data=.set es ep t/\TOk (!byT w) t/\t.fits es.size=true/\AllI prog w es.toList/\(es.toList.map keyI).Nodup/\(∀ k,k∈es.toList.map keyI ↔ S k)/\es.size<=n
theorem SetI.keep{h h':Heap}{a:Addr}{S:Int->Prop}{n:Nat}(x:SetI prog w h a S n)(hk:∀ o,h.get? a=some o->h'.get? a=some o):SetI prog w h' a S n :=
 let ⟨o,es,ep,t,ho,r⟩:=x; ⟨o,es,ep,t,hk o ho,r⟩
def SetI.lt{h:Heap}{a:Addr}{S:Int->Prop}{n:Nat}(x:SetI prog w h a S n):a < h.objs.size:=let ⟨_,_,_,_,ho,_⟩:=x; Ye ho
def SetI.store{h:Heap}{a:Addr}{o:Obj}{es:Array (Int × Value)}{ep:Nat}{es':Array (Int × Value)}{t':SetTable}{S:Int->Prop}{n:Nat}(ho:h.get? a=some o)(hex:o.ExactSet)(hd:o.data=.set es ep t)
  (h1:TOk (!byT w) t') (h2:t'.fits es'.size=true) (h3:AllI prog w es'.toList) (h4:(es'.toList.map keyI).Nodup) (h5:∀ k,k∈es'.toList.map keyI ↔ S k) (h6:es'.size<=n) :
  (h.update a (Obj.putSet es' t')).get? a=some { o with data:=.set es' (ep + 1) t' }/\SetI prog w (h.update a (Obj.putSet es' t')) a S n:=by
 have hg:(h.update a (Obj.putSet es' t')).get? a=some { o with data:=.set es' (ep + 1) t' }:=by
  have:=VW (Obj.putSet es' t') ho (by rw [putSet_of es' t' hd]; rfl)
  rw [putSet_of es' t' hd] at this; exact this
 exact⟨hg,_,es',ep + 1,t',hg,hex,rfl,h1,h2,h3,h4,h5,h6⟩
def find_none{es:List (Int × Value)}(h:AllI prog w es){k:Int}(e:es.findIdx? (λe=>(intKind prog w).is k e.2)=none):k ∉ es.map keyI:=λhm=>by
 obtain⟨x,hx,rfl⟩:=Yk.mp hm
 have:=List.findIdx?_eq_none_iff.mp e x hx
 rw [(h.is hx _).mpr rfl] at this
 cases this
def find_some{es:List (Int × Value)}(h:AllI prog w es){k:Int}{j:Nat}(e:es.findIdx? (λe=>(intKind prog w).is k e.2)=some j):k∈es.map keyI:=by
 obtain⟨hj,hp,_⟩:=List.findIdx?_eq_some_iff_getElem.mp e
 exact Yk.mpr ⟨_,Y2 hj,((h.is (Y2 hj) k).mp hp).symm⟩
def addTail{g:Bool->Sem Unit}(hg:∀ (b:Bool) (s₁:Shared) (Q':Unit->Shared->Prop),Q' () s₁->wpAny (model prog w) A (g b) Q' E s₁){a:Addr}{o:Obj}{es:Array (Int × Value)}{ep:Nat}{t:SetTable}(ho:s.heap.get? a=some o)(hex:o.ExactSet)
  (hd:o.data=.set es ep t) {es1:Array (Int × Value)}{t2:SetTable}{S:Int->Prop}{n:Nat}(h1:TOk (!byT w) t2) (h2:t2.fits es1.size=true) (h3:AllI prog w es1.toList) (h4:(es1.toList.map keyI).Nodup) (h5:∀ k,k∈es1.toList.map keyI ↔ S k)
  (h6:es1.size<=n) (hn:n < scanBound) {c:Bool}{R:Option Bool->Shared->Prop}(h:∀ h',Heap.SameBut a s.heap h'->SetI prog w h' a S n->R (some true) { s with heap:=h' }) :
  wpAny (model prog w) A (do
    storeSet a es1 t2
    if c=true then do
      g (relayAll t2 es1 (SetTable.grown es1.size)).2.2
      storeSet a (relayAll t2 es1 (SetTable.grown es1.size)).1 (relayAll t2 es1 (SetTable.grown es1.size)).2.1
      pure (some true)
     else pure (some true)) R E s:=by
 have hs1:es1.size<=sizeLine:=fits_of_scanBound (Yx h6 hn)
 refine Ya (wpAny_storeSet_of ho hd ?_ hs1)
 obtain⟨ho1,hS1⟩:=SetI.store (prog:=prog) (w:=w) ho hex hd h1 h2 h3 h4 h5 h6
 have sb1:=VY s.heap a (Obj.putSet es1 t2)
 cases c with
 | false =>
  rw [if_neg (by decide)]
  exact Yc (h _ sb1 hS1)
 | true =>
  rw [if_pos rfl]
  have hp:=relayAll_perm t2 es1 (SetTable.grown es1.size)
  have hf:=relayAll_fits t2 es1 (SetTable.grown es1.size)
  have ht:=h1.relay es1 (SetTable.grown es1.size)
  generalize relayAll t2 es1 (SetTable.grown es1.size)=Rl at hp hf ht ⊢
  obtain⟨es2,t3,gave⟩:=Rl
  dsimp only at hp hf ht ⊢
  have hz:es2.size=es1.size:=by rw [<- YI,hp.length_eq,YI]
  refine Ya (hg _ _ _ (Ya (wpAny_storeSet_of ho1 rfl ?_ (by rw [hz]; exact hs1))))
  have kp:=hp.map keyI
  obtain⟨_,hS2⟩:=SetI.store (prog:=prog) (w:=w) (S:=S) (n:=n) ho1 hex rfl ht hf (h3.perm hp) (kp.nodup_iff.mpr h4) (λk=>(kp.mem_iff).trans (h5 k)) (by rw [hz]; exact h6)
  exact Yc (h _ (sb1.trans (VY _ a _)) hS2)
def setAdd_wp{a:Addr}{S:Int->Prop}{n:Nat}{k:Int}{tk:Tok}{Q:Bool->Shared->Prop}(hS:SetI prog w s.heap a S n)(hn:n + 1 < scanBound)(h:∀ h' r,Heap.SameBut a s.heap h'->SetI prog w h' a (λk'=>S k'\/k'=k) (n + 1)->Q r { s with heap:=h' }) :
  wpAny (model prog w) A (setAddHashed a (.int k tk) ((intKind prog w).hash k)) Q E s:=by
 obtain⟨o,es,ep,t,ho,hex,hd,hT,hf,hA,hN,hM,hz⟩:=hS
 have hb:es.size < scanBound:=by omega
 unfold setAddHashed setAddHashedIn
 refine Y3 (Ya (Vx ho hd hf ?_))
 dsimp only
 rw [byScan_of (x:=.int k tk) rfl hb hA.elems]
 simp only [↓reduceIte]
 unfold setAddByScan
 refine Ya (Ya (Vg (Ya (wpAny_setScan_of (intKind_is _ _ k tk) ho hd hf hA.elems ?_))))
 cases hr:List.findIdx? (λe=>(intKind prog w).is k e.2) es.toList with
 | some j =>
  dsimp only
  have hk:=find_some hA hr
  refine Yc (Yc ?_)
  have:=h s.heap false (Heap.SameBut.refl a s.heap) ⟨o,es,ep,t,ho,hex,hd,hT,hf,hA,hN,λk'=>(hM k').trans ⟨.inl,λz=>z.elim id λe=>(hM k').mp (e ▸ hk)⟩,Nat.le_succ_of_le hz⟩
  exact this
 | none =>
  dsimp only
  have hk:=find_none hA hr
  have hperm:=layNew_perm t es ((intKind prog w).hash k) (.int k tk)
  have hfits:=layNew_fits t es ((intKind prog w).hash k) (.int k tk)
  have htab:=hT.lay es ((intKind prog w).hash k) (.int k tk)
  generalize layNew t es ((intKind prog w).hash k) (.int k tk)=Ly at hperm hfits htab ⊢
  obtain⟨es1,t1,wasD,gave⟩:=Ly
  dsimp only at hperm hfits htab ⊢
  rw [Array.toList_push] at hperm
  have kp:(es1.toList.map keyI).Perm (es.toList.map keyI ++ [k]):=by have:=hperm.map keyI; rw [YN] at this; exact this
  have hA1:AllI prog w es1.toList:=λe he=>by
   rcases Yp.mp (hperm.mem_iff.mp he) with he | he
   ·exact hA e he
   ·rw [YB.mp he]; exact⟨k,tk,rfl,rfl⟩
  have hN1:(es1.toList.map keyI).Nodup:=kp.nodup_iff.mpr (List.nodup_append.mpr ⟨hN,by simp,λx hx y hy=>by rw [List.mem_singleton.mp hy]; intro e; exact hk (e ▸ hx)⟩)
  have hM1:∀ k',k'∈es1.toList.map keyI ↔ (S k'\/k'=k):=λk'=>by rw [kp.mem_iff,Yp,hM k',YB]
  have hz1:es1.size<=n + 1:=by rw [<- Array.length_toList,hperm.length_eq,List.length_append,Array.length_toList]; simpa using hz
  have gw:∀ (b:Bool) (s₁:Shared) (Q':Unit->Shared->Prop),Q' () s₁->wpAny (model prog w) A (match b with | true=>rule "set.scan.the-table-gave-way" | false=>pure ()) Q' E s₁ :=
   λb s₁ Q' hq=>by cases b <;> first | exact Yc hq | exact Vg hq
  refine Ya (gw _ _ _ ?_)
  have fin:∀ h',Heap.SameBut a s.heap h'->SetI prog w h' a (λk'=>S k'\/k'=k) (n + 1)->Q true { s with heap:=h' }:=λh'=>h h' true
  split
  ·refine Ya ?_
   rw [hashByValue_scannable 8 (x:=.int k tk) rfl]
   refine Yc ?_
   refine addTail (λb s₁ Q' hq=>by cases b <;> first | exact Yc hq | exact Vg hq) ho hex hd (S:=λk'=>S k'\/k'=k) (n:=n + 1) ?_ ?_ hA1 hN1 hM1 hz1 hn λh' sb x=>Yc (fin h' sb x)
   ·exact htab
   ·exact hfits
  ·refine Ya (Yc ?_)
   simp only [↓reduceIte]
   exact addTail (λb s₁ Q' hq=>by cases b <;> first | exact Yc hq | exact Vg hq) ho hex hd (S:=λk'=>S k'\/k'=k) (n:=n + 1) htab hfits hA1 hN1 hM1 hz1 hn λh' sb x=>Yc (fin h' sb x)
end
section
variable {prog:Program}{w:World}{A:Around}{R:Result->Shared->Prop}{I:Addr}{fp wr:List Addr}{G:Array GenState->Array GenState->Prop}{P:Nat->Value->Prop}{St:Nat->Shared->Prop}
def take_succ_mem{ns:List Int}{i:Nat}{v k:Int}(h:ns[i]?=some v):k∈ns.take (i + 1) ↔ k∈ns.take i\/k=v:=by
 rw [Yy,h,Yp]
 simp
def set_loop{ns:List Int}(W:WalksS prog w A.in1 I fp wr G ns.length P St)(S:Addr)(hSf:S ∉ fp)(hval:∀ i v,P i v->∃ k t,ns[i]?=some k/\v=.int k t)(hb:ns.length + 1 < scanBound) :
  ∀ (k i:Nat) (s:Shared),ns.length - i=k->i<=ns.length->St i s->SetI prog w s.heap S (·∈ns.take i) i ->
   (∀ s',Moved (S :: wr) G s s'->SetI prog w s'.heap S (·∈ns) ns.length->R (.ok (.ret .none)) s')->codeAny (model prog w) A (.builtin "set.update.loop" ⟨[.ref S,.ref I],[]⟩) R s:=by
 have hSw:S ∉ wr:=λh=>hSf (W.sub _ h)
 have hsub:∀ b∈wr,b∈S :: wr:=λb hb=>YZ _ hb
 intro k
 induction k with
 | zero =>
  intro i s hk hi hst hS hR
  obtain rfl:i=ns.length:=by omega
  refine Vd F.entry_set_update_loop ?_
  rw [Vk F.plain_set_update_loop _]
  show wpAny _ A.in1 (pyNext (.ref I) >>= _) _ _ s
  refine Ya (W.done s _ _ hst λs' hm=>?_)
  show wpAny _ A.in1 (ret Value.none) _ _ s'
  rw [YJ] at hS
  exact Yc (hR s' (hm.mono hsub) (hS.keep λo ho=>hm.heap S _ hSw ho))
 | succ k ih =>
  intro i s hk hi hst hS hR
  have hlt:i < ns.length:=by omega
  refine Vd F.entry_set_update_loop ?_
  rw [Vk F.plain_set_update_loop _]
  show wpAny _ A.in1 (pyNext (.ref I) >>= _) _ _ s
  refine Ya (W.item i s _ _ hlt hst λv s' hP hst' hm=>?_)
  obtain⟨z,t,hz,rfl⟩:=hval i v hP
  have hS':=hS.keep (λo ho=>hm.heap S _ hSw ho)
  show wpAny _ A.in1 (holding [Value.int z t] (setAdd S (.int z t)) >>= _) _ _ s'
  refine Ya (Y3 ?_)
  unfold setAdd
  refine Y3 (Ya ((intKind prog w).pyHash (k:=z) (intKind_is _ _ _ _) ?_))
  refine setAdd_wp (s:={ s' with toks:=s'.toks + 1 }) hS' (by omega) λh' r hsb hS2=>?_
  have hSi:SetI prog w h' S (·∈ns.take (i + 1)) (i + 1):=by
   rw [show (·∈ns.take (i + 1))=(λk'=>k'∈ns.take i\/k'=z) from funext λk'=>propext (take_succ_mem hz)]
   exact hS2
  refine Yc ⟨VB F.plain_set_update_loop _,ih (i + 1) _ (by omega) hlt (W.frame _ s' _ _ hst' (Vr _) λb hb o e=>?_) hSi λs'' hm'' hS''=>?_⟩
  ·rw [hsb.2 b (λh:b=S=>hSf (by rw [<- h]; exact hb))]; exact e
  ·refine hR s'' (Moved.trans W.gtrans ((hm.mono hsub).then_heap (Vr _) λb o hb e=>?_) hm'') hS''
   rw [hsb.2 b (λh:b=S=>hb (by rw [h]; exact Vl))]; exact e
end
section
variable {prog:Program}{w:World}{A:Around}{E:VSP}{s:Shared}
abbrev freshSet(w:World):Obj:={ cls:=.type "set",dict:=none,data:=.set #[] 0 (.fresh 0 0 (!byT w)) }
def set_new(a:Value){Q₁:VSP}(h:Q₁ (.ref s.heap.objs.size) { s with heap:=s.heap.push (freshSet w) }) :
  codeAny (model prog w) A (.call (.builtin "set.__new__") ⟨[.type "set",a],[]⟩) (wants Q₁ E) s:=by
 refine codeAny_of_tree ?_
 show wpAny _ A.in1 (do checkBuiltinCall "set.__new__" ⟨[.type "set",a],[]⟩; again (.builtin "set.__new__" ⟨[.type "set",a],[]⟩)) _ _ s
 refine Ya (wpAny_of_eq (F.newCall_set_1 a) (Yc ⟨VB F.plain_set_new _,Vd F.entry_set_new ?_⟩))
 rw [Vk F.plain_set_new _]
 unfold Builtin.«set.__new__» Builtin.Frozenset.newClass
 have hsub:=sub_set_self
 obtain⟨hp,g,d,tk,os⟩:=s
 dsimp only
 wp_walk
 refine wpAny_askSetting (Yc ?_)
 dsimp only
 simp only [newObj]
 exact Ya (wpAny_alloc (Yc (Yc h)))
theorem SetI.fresh{h:Heap}{a:Addr}(e:h.get? a=some (freshSet w)):SetI prog w h a (·∈([]:List Int)) 0 :=
 ⟨_,#[],0,_,e,⟨rfl,rfl,rfl⟩,rfl,⟨List.Pairwise.nil,rfl,rfl⟩,rfl,(λe he=>by simp at he),List.nodup_nil,λk=>by simp,Nat.le_refl _⟩
set_option maxHeartbeats 3200000 in
theorem set_of_list{l:Addr}{items:Array Value}{ns:List Int}{Q:VSP}(hh:A.handled=none)(hl:s.heap.IsList l items)(hi:IntsAre items.toList ns)(hb:ns.length + 1 < scanBound)
  (h:∀ (h':Heap) (tk:Nat),SetI prog w h' s.heap.objs.size (·∈ns) ns.length->(∀ b o,s.heap.get? b=some o->h'.get? b=some o)->Q (.ref s.heap.objs.size) { s with heap:=h',toks:=tk }) :
  wpAny (model prog w) A (call (.type "set") [.ref l]) Q E s:=by
 obtain⟨c,tl,hmro⟩:=F.called_set.mro
 have hmade:=F.called_set.made
 have hsub:=F.called_set.sub
 refine wpAny_call (codeAny_of_tree ?_)
 show wpAny _ _ (callAny (.type "set") _) _ _ _
 refine Yc ⟨Code.quiet_builtin _ (by decide +kernel),Vd F.entry_type_call ?_⟩
 rw [Around.under_plain (weight_type_call_type "set" [.ref l] []) rfl]
 have h1:=F.called_set.notType
 have h2:=F.called_set.canCreate
 have hct:=F.typeCall_set_1 (.ref l)
 repeat (any_goals (first | assumption | wp_step))
 refine YS (set_new (.ref l) (E:=E) (Q₁:=λobj s₁=>obj=.ref s.heap.objs.size/\s₁={ s with heap:=s.heap.push (freshSet w) }) ⟨rfl,rfl⟩) λr s₁ hr=>?_
 cases r with
 | error e=>exact hr
 | ok fl =>
  cases fl with
  | ret obj =>
   obtain⟨rfl,rfl⟩:=hr
   have hS:(s.heap.push (freshSet w)).get? s.heap.objs.size=some (freshSet w):=Yn _ rfl
   have hT:Shared.TypeIs { s with heap:=s.heap.push (freshSet w) } (.ref s.heap.objs.size) "set":=⟨_,hS,rfl⟩
   have hli:=F.called_set.init.lookup
   have hbi:=F.called_set.init.bind (.ref s.heap.objs.size)
   repeat (any_goals (first | assumption | wp_step))
   refine YS (codeAny_call_builtin (R:=wants (λr s₂=>r=.none/\∃ h' tk,s₂={ s with heap:=h',toks:=tk }/\SetI prog w h' s.heap.objs.size (·∈ns) ns.length/\(∀ b o,s.heap.get? b=some o->h'.get? b=some o)) E)
    F.called_set.init.plain F.entry_set_init (check_set_init_1 hT ?_)) λr₂ s₂ hr₂=>?_
   ·obtain⟨ol,hol,hcl,nl,hdl⟩:=hl
    obtain⟨ocls,odict,odata,oslots⟩:=ol
    simp only at hcl hdl
    subst hcl; subst hdl
    have hol':(s.heap.push (freshSet w)).get? l=some { cls:=.type "list",dict:=odict,data:=.seq items nl,slots:=oslots }:=Yh _ hol
    have hsls:=F.sub_list_set
    have hslf:=F.sub_list_frozenset
    have hne:(Value.type "list" == Value.type "dict")=false:=by decide
    have hl1:(s.heap.push (freshSet w)).IsList l items:=⟨_,hol',rfl,nl,rfl⟩
    have hsz:items.size=ns.length:=by rw [<- YI]; exact IntsAre.length hi
    unfold Builtin.«set.__init__» noKeywords Builtin.Frozenset.updateFrom
    generalize hPI:pyIter=PI
    wp_walk
    subst hPI
    refine wpAny_pyIter_list hl1 (Ya (wpAny_runValue ?_))
    have hlS:l < s.heap.objs.size:=Ye hol
    have hz1:(s.heap.push (freshSet w)).objs.size=s.heap.objs.size + 1:=VO ..
    have hneI:l ≠ (s.heap.push (freshSet w)).objs.size:=by rw [hz1]; exact Ym (Y8 hlS)
    have hSf:s.heap.objs.size ∉ [(s.heap.push (freshSet w)).objs.size,l]:=by
     rw [hz1]; simp only [List.mem_cons,List.not_mem_nil,or_false,not_or]; exact⟨Nat.ne_of_lt (Nat.lt_succ_self _),Nat.ne_of_gt hlS⟩
    have W:=(Walks.list (prog:=prog) (w:=w) (A:=A.in1.in1.in1) (by simp [hh]) _ l hneI items).toS
    rw [hsz] at W
    refine set_loop W s.heap.objs.size hSf (λi v hv=>?_) hb ns.length 0 _ (by omega) (YD _) ⟨⟨_,Yn _ rfl,rfl,rfl⟩,(hl1.push _)⟩ (SetI.fresh (Yh _ hS)) λs' hm hS'=>?_
    ·have hlt:i < ns.length:=by rw [<- hsz]; exact (Array.getElem?_eq_some_iff.mp hv).1
     obtain⟨t,e⟩:=IntsAre.int_at hi i v (by rw [YF]; exact hv)
     exact⟨ns[i],t,Yb hlt,by rw [e,List.getD_eq_getElem?_getD,Yb hlt]; rfl⟩
    ·obtain⟨h',g',d',tk',os'⟩:=s'
     have eg:g'=s.gens:=hm.gens
     have ed:d'=s.drawn:=hm.drawn
     have eo:os'=s.os:=hm.os
     subst eg; subst ed; subst eo
     show wpAny _ _ _ _ _ _
     refine Yc ?_
     show wpAny _ _ (ret Value.none) _ _ _
     refine Yc ⟨rfl,h',tk',rfl,hS',λb o e=>?_⟩
     have hb:=Ye e
     exact hm.heap b o (by rw [hz1]; simp only [List.mem_cons,List.not_mem_nil,or_false,not_or]; exact⟨Nat.ne_of_lt hb,Nat.ne_of_lt (Nat.lt_succ_of_lt hb)⟩) (Heap.get?_push_of_some _ (Heap.get?_push_of_some _ e))
   ·cases r₂ with
    | error e=>exact hr₂
    | ok fl₂ =>
     cases fl₂ with
     | ret r =>
      obtain⟨rfl,h',tk,rfl,hS',hk'⟩:=hr₂
      repeat (any_goals (first | assumption | wp_step))
      exact h _ _ hS' hk'
     | _=>exact hr₂.elim
  | _=>exact hr.elim
end
theorem owner_setit:Manifest.owners.lookup (String.ofList ['r','o','t','a','r','e','t','i','_','t','e','s'].reverse)=some Manifest.sig_set_iterator:=by kernel_rfl
def slot_setit_next:Slot "set_iterator" "__next__" "set_iterator.__next__" :=
 .of (owner:="set_iterator") (n:="__next__") (by rw [typeLookup_type,builtinLookup_eq_fast]; kernel_rfl) (by decide +kernel) (by decide +kernel) (by decide +kernel)
  (by first | exact .inl (by decide +kernel) | exact .inr (by decide +kernel)) (by rw [isSubtype_type]; kernel_rfl)
def entry_setit_next:entryFor table "set_iterator.__next__"=some Builtin.«set_iterator.__next__»:=entryFor_of_tree (by kernel_rfl)
def args_setit_next(a:Value):argsOk "set_iterator.__next__" ⟨[a],[]⟩:=by
 unfold argsOk; rw [signature?_of (id:="set_iterator.__next__") (n:=['_','_','t','x','e','n','_','_']) (o:=['r','o','t','a','r','e','t','i','_','t','e','s']) (by kernel_rfl) owner_setit]; kernel_rfl
def slot_setit_iter:Slot "set_iterator" "__iter__" "set_iterator.__iter__" :=
 .of (owner:="set_iterator") (n:="__iter__") (by rw [typeLookup_type,builtinLookup_eq_fast]; kernel_rfl) (by decide +kernel) (by decide +kernel) (by decide +kernel)
  (by first | exact .inl (by decide +kernel) | exact .inr (by decide +kernel)) (by rw [isSubtype_type]; kernel_rfl)
def entry_set_iter:entryFor table "set.__iter__"=some Builtin.«frozenset.__iter__» :=
 entryFor_alias (id':="frozenset.__iter__") (by kernel_rfl) rfl (by decide +kernel) (by kernel_rfl)
def entry_setit_iter:entryFor table "set_iterator.__iter__"=some Builtin.«dict_keyiterator.__iter__» :=
 entryFor_alias (id':="dict_keyiterator.__iter__") (by kernel_rfl) rfl (by decide +kernel) (by kernel_rfl)
def args_setit_iter(a:Value):argsOk "set_iterator.__iter__" ⟨[a],[]⟩:=by
 unfold argsOk; rw [signature?_of (id:="set_iterator.__iter__") (n:=['_','_','r','e','t','i','_','_']) (o:=['r','o','t','a','r','e','t','i','_','t','e','s']) (by kernel_rfl) owner_setit]; kernel_rfl
def erase_perm{α:Type}{l:List α}{i:Nat}(h:i < l.length):(l[i] :: l.eraseIdx i).Perm l:=by
 rw [List.eraseIdx_eq_take_drop_succ]
 have e:l=l.take i ++ l[i] :: l.drop (i + 1):=by rw [List.getElem_cons_drop,VV]
 conv=>rhs; rw [e]
 exact List.perm_middle.symm
section
variable {prog:Program}{w:World}{A:Around}{E:VSP}{s:Shared}
theorem choose_wp{src:Source}{n:Nat}{Q:Nat->Shared->Prop}(hn:n ≠ 0)(h:∀ k d,k < n->Q k { s with drawn:=d }):wpAny (model prog w) A (choose src n) Q E s :=
 λ_ _ _=>⟨hn,h _ _ (Nat.mod_lt _ (Nat.pos_of_ne_zero hn))⟩
def byText_wp{Q:Bool->Shared->Prop}(h:Q (byT w) s):wpAny (model prog w) A setsByText Q E s:=by
 unfold setsByText
 exact Ya (wpAny_askSetting (Yc h))
theorem drawOrder_wp{α:Type}:∀ (n:Nat) (xs:List α) (s:Shared) {Q:List α->Shared->Prop},xs.length<=n->(∀ ys d,ys.Perm xs->Q ys { s with drawn:=d })->wpAny (model prog w) A (drawOrder n xs) Q E s:=by
 intro n
 induction n with
 | zero =>
  intro xs s Q hl h
  have:xs=[]:=V4.mp (by omega)
  subst this
  unfold drawOrder
  exact Yc (h [] s.drawn .nil)
 | succ n ih =>
  intro xs s Q hl h
  cases xs with
  | nil=>unfold drawOrder; exact wpAny_pure (h [] s.drawn .nil)
  | cons x xs =>
   unfold drawOrder
   refine wpAny_bind (choose_wp (by simp) λk d hk=>?_)
   have e:=Yb hk
   rw [e]
   dsimp only
   refine wpAny_bind (ih _ _ (by rw [List.length_eraseIdx,if_pos hk]; simp at hl ⊢; omega) λys d' hp=>?_)
   exact Yc (h _ d' ((hp.cons _).trans (erase_perm hk)))
theorem pick_go{α:Type}(f:Nat->Nat):∀ (n k:Nat) (xs:List α) (out:Array α),xs.length<=n->(pickOrder.go f n k xs out).toList.Perm (out.toList ++ xs):=by
 intro n
 induction n with
 | zero =>
  intro k xs out hl
  have:xs=[]:=V4.mp (by omega)
  subst this
  unfold pickOrder.go
  simp
 | succ n ih =>
  intro k xs out hl
  unfold pickOrder.go
  cases xs with
  | nil=>simp
  | cons x xs =>
   have hk:f k % (x :: xs).length < (x :: xs).length:=Nat.mod_lt _ (by simp)
   rw [Yb hk]
   dsimp only
   refine (ih _ _ _ (by rw [List.length_eraseIdx,if_pos hk]; simp at hl ⊢; omega)).trans ?_
   rw [Array.toList_push,List.append_assoc]
   exact List.Perm.append_left _ (erase_perm hk)
def pick_perm{α:Type}(f:Nat->Nat)(xs:Array α):(pickOrder f xs).toList.Perm xs.toList:=by
 unfold pickOrder
 exact (pick_go f _ _ _ _ (by simp)).trans (by simp)
def SN(prog:Program)(w:World)(a:Addr)(o:Obj)(ep:Nat)(f:Nat->Nat)(L:List Value):Prop :=
 ∀ (A:Around) (E:VSP) (s:Shared) (Q:Option (Value × Nat)->Shared->Prop) (i:Nat),i<=L.length->s.heap.get? a=some o->Q ((L[i]?).map λv=>(v,f (i + 1))) s->wpAny (model prog w) A (setNext a (f i) i ep) Q E s
def sn_text{a:Addr}{o:Obj}{es:Array (Int × Value)}{ep:Nat}(hd:o.data=.set es ep t)(hf:t.fits es.size=true)(hb:byT w=true):SN prog w a o ep (λ_=>0) ((pickOrder (w.params.setOrder a ep) es).toList.map (·.2)):=by
 intro A E s Q i hi ho h
 unfold setNext
 refine Ya (Vx ho hd hf ?_)
 dsimp only
 refine Ya (byText_wp ?_)
 rw [hb,if_pos rfl,if_neg (by simp)]
 unfold setWalk
 refine Ya (Ya (Vx ho hd hf ?_))
 dsimp only
 refine Ya (byText_wp ?_)
 rw [hb,if_pos rfl]
 refine Ya (wpAny_askSetting (Yc (Yc ?_)))
 rw [Yj,YF,Option.map_map] at h
 exact h
def slotAt(p:Array Nat)(i:Nat):Nat:=match i with
 | 0=>0
 | i + 1=>p.getD i 0 + 1
theorem below_slotAt{p:Array Nat}(h:Rise p.toList){i:Nat}(hi:i<=p.size):SetTable.below p (slotAt p i)=i:=by
 obtain⟨h1,h2,h3⟩:=below_spec p (slotAt p i) h
 generalize SetTable.below p (slotAt p i)=b at h1 h2 h3
 rcases Nat.lt_trichotomy b i with c | c | c
 ·have hb:b < p.size:=by omega
  have e:=YY hb
  have h4:=h3 _ _ (Yd b) e
  cases i with
  | zero=>omega
  | succ i =>
   have hi':i < p.size:=by omega
   have e2:=YY hi'
   have hs:slotAt p (i + 1)=p[i] + 1:=by show p.getD i 0 + 1=_; rw [VR,e2]; rfl
   rw [hs] at h4
   by_cases c2:b=i
   ·subst c2; omega
   ·have:=h.at (by rw [YF]; exact e) (by rw [YF]; exact e2) (show b < i by omega)
    omega
 ·exact c
 ·have hi':i < p.size:=by omega
  have e:=YY hi'
  have h4:=h2 _ _ c e
  cases i with
  | zero=>exact absurd h4 (VL _)
  | succ i =>
   have hi2:i < p.size:=by omega
   have e2:=YY hi2
   have hs:slotAt p (i + 1)=p[i] + 1:=by show p.getD i 0 + 1=_; rw [VR,e2]; rfl
   rw [hs] at h4
   have:=h.at (by rw [YF]; exact e2) (by rw [YF]; exact e) (VH i)
   omega
def sn_plain{a:Addr}{o:Obj}{es:Array (Int × Value)}{ep:Nat}(hd:o.data=.set es ep t)(hf:t.fits es.size=true)(hT:TOk (!byT w) t)(hb:byT w=false)(hp:(!t.plain && decide (es.size > 1))=false) :
  SN prog w a o ep (slotAt t.place) (es.toList.map (·.2)):=by
 intro A E s Q i hi ho h
 have hz:t.place.size=es.size:=by simp only [SetTable.fits,Bool.and_eq_true,beq_iff_eq] at hf; exact hf.1
 have hl:t.led=true:=by rw [hT.2.2,hb]; rfl
 unfold setNext
 refine Ya (Vx ho hd hf ?_)
 dsimp only
 refine Ya (byText_wp ?_)
 rw [hb,if_neg (by decide)]
 refine Vz (λc=>absurd (hp.symm.trans c) (by decide)) (λ_=>?_)
 refine Ya ?_
 show wpAny _ _ (if (!t.led && !es.isEmpty)=true then unsupported _ else pure ()) _ _ _
 rw [hl,if_neg (by simp)]
 refine Yc (Yc ?_)
 rw [below_slotAt hT.1 (by rw [hz]; simpa using hi)]
 rw [Yj,YF] at h
 by_cases c:i < es.size
 ·have e:=YY c
  have e2:=YY (show i < t.place.size by rw [hz]; exact c)
  rw [e,e2]
  rw [e] at h
  have hs:slotAt t.place (i + 1)=t.place[i] + 1:=by show t.place.getD i 0 + 1=_; rw [VR,e2]; rfl
  rw [hs] at h
  exact h
 ·rw [Array.getElem?_eq_none (by omega)] at h ⊢
  exact h
abbrev setIt(f:Value)(i:Nat)(a:Addr)(n ep:Nat):Obj:={ cls:=.type "set_iterator",dict:=none,data:=.fields #[f,.int i 0,.ref a,.int n 0,.int ep 0],slots:=#[] }
def next_item{I a:Addr}{o:Obj}{es:Array (Int × Value)}{ep:Nat}{f:Nat->Nat}{L:List Value}{i:Nat}{v:Value}{Q:Option Value->Shared->Prop}(hne:I ≠ a)(hd:o.data=.set es ep t)(hf:t.fits es.size=true)(hsn:SN prog w a o ep f L)(hl:L.length=es.size)
  (hit:s.heap.get? I=some (setIt (.int (f i) 0) i a es.size ep)) (ho:s.heap.get? a=some o) (hi:L[i]?=some v)
  (h:∀ h',h'.get? I=some (setIt (.int (f (i + 1)) 0) (i + 1) a es.size ep)->Heap.SameBut I s.heap h'->Q (some v) { s with heap:=h' }):wpAny (model prog w) A (pyNext (.ref I)) Q E s:=by
 have hty:s.TypeIs (.ref I) "set_iterator":=⟨_,hit,rfl⟩
 unfold pyNext
 refine Ya (VP (VU (name:=Str.ofString "__next__") hty slot_setit_next (YW slot_setit_next hty entry_setit_next ?_ (args_setit_next _))))
 unfold Builtin.«set_iterator.__next__»
 refine Ya (Yc ?_)
 refine Ya (wpAny_fieldsOf hit rfl ?_)
 dsimp only
 refine Ya (VF ho hd hf ?_)
 rw [if_neg (by simp)]
 have hil:i < L.length:=(Yf.mp hi).1
 refine Ya (hsn _ _ s _ i (Yt hil) ho ?_)
 rw [hi]
 dsimp only [Option.map]
 refine wpAny_bind (wpAny_setField_rec hit (by simp) λh1 g1 sb1=>?_)
 refine wpAny_bind (wpAny_setField_rec (s:={ s with heap:=h1 }) g1 (by simp) λh2 g2 sb2=>?_)
 refine Yc ⟨_,rfl,Yc (h h2 ?_ (sb1.trans sb2))⟩
 rw [g2]
 simp [rawInt]
def next_end{I a:Addr}{o:Obj}{es:Array (Int × Value)}{ep:Nat}{f:Nat->Nat}{L:List Value}{Q:Option Value->Shared->Prop}(hh:A.handled=none)(hd:o.data=.set es ep t)(hf:t.fits es.size=true)(hsn:SN prog w a o ep f L)(hl:L.length=es.size)
  (hit:s.heap.get? I=some (setIt (.int (f L.length) 0) L.length a es.size ep)) (ho:s.heap.get? a=some o) (h:∀ h',Heap.ExtBut I s.heap h'->Q none { s with heap:=h' }):wpAny (model prog w) A (pyNext (.ref I)) Q E s:=by
 have hty:s.TypeIs (.ref I) "set_iterator":=⟨_,hit,rfl⟩
 unfold pyNext
 refine Ya (VP (VU (name:=Str.ofString "__next__") hty slot_setit_next (YW slot_setit_next hty entry_setit_next ?_ (args_setit_next _))))
 unfold Builtin.«set_iterator.__next__»
 refine Ya (Yc ?_)
 refine Ya (wpAny_fieldsOf hit rfl ?_)
 dsimp only
 refine Ya (VF ho hd hf ?_)
 rw [if_neg (by simp)]
 refine Ya (hsn _ _ s _ L.length (Yd _) ho ?_)
 rw [YU (Yd _)]
 dsimp only [Option.map]
 refine wpAny_bind (wpAny_setField_rec hit (by simp) λh1 g1 sb1=>?_)
 refine Ya ?_
 simp only [newExc,newTuple]
 refine Ya (Y1 ?_ (by size_fits))
 refine wpAny_bind (m:=firstArgMember _ _) (wpAny_of_eq (a:=Value.none) (by first | rfl | (simp only [firstArgMember]; rfl)) ?_)
 refine Y1 ?_ (by size_fits)
 simp only [raiseNew]
 refine Ya (wpAny_handled ?_)
 rw [show A.in1.handled=none from hh]
 refine Ya (Yc (wpAny_throw ?_))
 refine Ya (VN (T:="StopIteration") (b:=true) ⟨_,Yn _ rfl,rfl⟩ isSubtype_stop ?_)
 exact Yc (h _ ((sb1.extBut.push _).push _))
def self_it{I a:Addr}{f:Value}{i n ep:Nat}{Q:VSP}(hit:s.heap.get? I=some (setIt f i a n ep))(h:Q (.ref I) s):wpAny (model prog w) A (pyIter (.ref I)) Q E s:=by
 have hty:s.TypeIs (.ref I) "set_iterator":=⟨_,hit,rfl⟩
 refine wpAny_pyIter_slot hty slot_setit_iter (YW slot_setit_iter hty entry_setit_iter ?_ (args_setit_iter _))
 show wpAny _ _ (ret (.ref I)) _ _ s
 exact Yc ⟨_,rfl,"set_iterator",_,hty,slot_setit_next.lookup,h⟩
def walks_sn(hh:A.handled=none){I a:Addr}{o:Obj}{es:Array (Int × Value)}{ep:Nat}{t:SetTable}{f:Nat->Nat}{L:List Value}(hne:I ≠ a)(hd:o.data=.set es ep t)(hf:t.fits es.size=true)(hsn:SN prog w a o ep f L)(hl:L.length=es.size) :
  Walks prog w A I [I,a] [I] L.length (λi v=>L[i]?=some v) (λi h=>h.get? I=some (setIt (.int (f i) 0) i a es.size ep)/\h.get? a=some o) where
 sub:=λb hb=>by simp only [List.mem_singleton] at hb; subst hb; simp
 frame:=λi h h' ⟨h1,h2⟩ hk=>⟨hk I (by simp) _ h1,hk a (by simp) _ h2⟩
 item:=λi s Q E hi ⟨h1,h2⟩ hQ=>next_item hne hd hf hsn hl h1 h2 (Yb hi) λh' g sb=>by
  have:=hQ _ h' s.toks (List.getElem?_eq_getElem hi) ⟨g,by rw [sb.2 a (λz=>hne z.symm)]; exact h2⟩ λb o hb e=>by rw [sb.2 b (λz=>hb (by rw [z]; simp))]; exact e
  exact this
 done:=λs Q E ⟨h1,h2⟩ hQ=>next_end hh hd hf hsn hl h1 h2 λh' x=>by
  have:=hQ h' s.toks λb o hb e=>x b o (λz=>hb (by rw [z]; simp)) e
  exact this
 self:=λi s Q E ⟨h1,h2⟩ hQ=>self_it h1 hQ
def drawn_item{I a T:Addr}{o oT:Obj}{es:Array (Int × Value)}{ep c:Nat}{ps:List Nat}{i p:Nat}{x:Int × Value}{Q:Option Value->Shared->Prop}(hd:o.data=.set es ep t)(hf:t.fits es.size=true)(hT:oT.data=.seq (ps.map λk:Nat=>rawInt k).toArray c)
  (hit:s.heap.get? I=some (setIt (.ref T) i a es.size ep)) (ho:s.heap.get? a=some o) (hoT:s.heap.get? T=some oT) (hi:ps[i]?=some p) (hx:es[p]?=some x)
  (h:∀ h',h'.get? I=some (setIt (.ref T) (i + 1) a es.size ep)->Heap.SameBut I s.heap h'->Q (some x.2) { s with heap:=h' }):wpAny (model prog w) A (pyNext (.ref I)) Q E s:=by
 have hty:s.TypeIs (.ref I) "set_iterator":=⟨_,hit,rfl⟩
 unfold pyNext
 refine Ya (VP (VU (name:=Str.ofString "__next__") hty slot_setit_next (YW slot_setit_next hty entry_setit_next ?_ (args_setit_next _))))
 unfold Builtin.«set_iterator.__next__»
 refine Ya (Yc ?_)
 refine Ya (wpAny_fieldsOf hit rfl ?_)
 dsimp only
 refine Ya (VF ho hd hf ?_)
 rw [if_neg (by simp)]
 unfold seqItems?
 dsimp only
 refine Ya (Ya (Vs hoT ?_))
 rw [hT]
 refine Yc ?_
 dsimp only
 rw [List.getElem?_toArray,Yj,Y9,hi]
 dsimp only [Option.map,rawInt]
 refine Ya ?_
 unfold setNextDrawn
 refine Ya (Vx ho hd hf ?_)
 dsimp only
 rw [if_neg (by simp),Int.toNat_natCast,hx]
 refine Yc ?_
 refine wpAny_bind (wpAny_setField_rec hit (by simp) λh1 g1 sb1=>?_)
 refine Yc ⟨_,rfl,Yc (h h1 ?_ sb1)⟩
 rw [g1]
 simp
def drawn_end{I a T:Addr}{o oT:Obj}{es:Array (Int × Value)}{ep c:Nat}{ps:List Nat}{Q:Option Value->Shared->Prop}(hh:A.handled=none)(hd:o.data=.set es ep t)(hf:t.fits es.size=true)(hT:oT.data=.seq (ps.map λk:Nat=>rawInt k).toArray c)
  (hit:s.heap.get? I=some (setIt (.ref T) ps.length a es.size ep)) (ho:s.heap.get? a=some o) (hoT:s.heap.get? T=some oT) (h:∀ h',Heap.ExtBut I s.heap h'->Q none { s with heap:=h' }):wpAny (model prog w) A (pyNext (.ref I)) Q E s:=by
 have hty:s.TypeIs (.ref I) "set_iterator":=⟨_,hit,rfl⟩
 unfold pyNext
 refine Ya (VP (VU (name:=Str.ofString "__next__") hty slot_setit_next (YW slot_setit_next hty entry_setit_next ?_ (args_setit_next _))))
 unfold Builtin.«set_iterator.__next__»
 refine Ya (Yc ?_)
 refine Ya (wpAny_fieldsOf hit rfl ?_)
 dsimp only
 refine Ya (VF ho hd hf ?_)
 rw [if_neg (by simp)]
 unfold seqItems?
 dsimp only
 refine Ya (Ya (Vs hoT ?_))
 rw [hT]
 refine Yc ?_
 dsimp only
 rw [List.getElem?_toArray,Yj,Y9,YU (Yd _)]
 dsimp only [Option.map]
 refine wpAny_bind (wpAny_setField_rec hit (by simp) λh0 g0 sb0=>?_)
 refine wpAny_bind (wpAny_setField_rec (s:={ s with heap:=h0 }) g0 (by simp) λh1 g1 sb1=>?_)
 refine Ya ?_
 simp only [newExc,newTuple]
 refine Ya (Y1 ?_ (by size_fits))
 refine wpAny_bind (m:=firstArgMember _ _) (wpAny_of_eq (a:=Value.none) (by first | rfl | (simp only [firstArgMember]; rfl)) ?_)
 refine Y1 ?_ (by size_fits)
 simp only [raiseNew]
 refine Ya (wpAny_handled ?_)
 rw [show A.in1.handled=none from hh]
 refine Ya (Yc (wpAny_throw ?_))
 refine Ya (VN (T:="StopIteration") (b:=true) ⟨_,Yn _ rfl,rfl⟩ isSubtype_stop ?_)
 exact Yc (h _ (((sb0.trans sb1).extBut.push _).push _))
def walks_drawn(hh:A.handled=none){I a T:Addr}{o oT:Obj}{es:Array (Int × Value)}{ep c:Nat}{t:SetTable}{ps:List Nat}(hne:I ≠ a)(hnT:I ≠ T)(hd:o.data=.set es ep t)(hf:t.fits es.size=true)(hT:oT.data=.seq (ps.map λk:Nat=>rawInt k).toArray c)
  (hps:∀ (i p:Nat),ps[i]?=some p->p < es.size) :
  Walks prog w A I [I,a,T] [I] ps.length (λi v=>∃ p x,ps[i]?=some p/\es[p]?=some x/\v=x.2) (λi h=>h.get? I=some (setIt (.ref T) i a es.size ep)/\h.get? a=some o/\h.get? T=some oT) where
 sub:=λb hb=>by simp only [List.mem_singleton] at hb; subst hb; simp
 frame:=λi h h' ⟨h1,h2,h3⟩ hk=>⟨hk I (by simp) _ h1,hk a (by simp) _ h2,hk T (by simp) _ h3⟩
 item:=λi s Q E hi ⟨h1,h2,h3⟩ hQ=>by
  have e:=Yb hi
  have e2:=YY (hps i _ e)
  refine drawn_item hd hf hT h1 h2 h3 e e2 λh' g sb=>?_
  have:=hQ _ h' s.toks ⟨_,_,e,e2,rfl⟩ ⟨g,by rw [sb.2 a (λz=>hne z.symm)]; exact h2,by rw [sb.2 T (λz=>hnT z.symm)]; exact h3⟩ λb o hb e=>by rw [sb.2 b (λz=>hb (by rw [z]; simp))]; exact e
  exact this
 done:=λs Q E ⟨h1,h2,h3⟩ hQ=>drawn_end hh hd hf hT h1 h2 h3 λh' x=>by
  have:=hQ h' s.toks λb o hb e=>x b o (λz=>hb (by rw [z]; simp)) e
  exact this
 self:=λi s Q E ⟨h1,h2⟩ hQ=>self_it h1 hQ
def ints_of:∀ {es:List (Int × Value)},AllI prog w es->IntsAre (es.map (·.2)) (es.map keyI)
 | [],_=>.nil
 | e :: es,h=>by
  obtain⟨k,t,h1,_⟩:=h e (Vl ..)
  have h3:keyI e=k:=by unfold keyI; rw [h1]
  rw [Yr,Yr,h1,h3]
  exact .cons k t (ints_of λx hx=>h x (YZ _ hx))
theorem picked{es:Array (Int × Value)}:∀ {ps:List Nat},(∀ (i p:Nat),ps[i]?=some p->p < es.size)->∀ vs:List Value,vs.length=ps.length->(∀ (i:Nat) v,vs[i]?=some v->∃ p x,ps[i]?=some p/\es[p]?=some x/\v=x.2)->vs=(ps.filterMap (es[·]?)).map (·.2)
 | [],_,vs,hl,_=>by rw [V4.mp hl]; rfl
 | p :: ps,hps,vs,hl,hv=>by
  cases vs with
  | nil=>cases hl
  | cons v vs =>
   obtain⟨p',x,e1,e2,rfl⟩:=hv 0 v rfl
   cases e1
   rw [V8,e2]
   dsimp only
   rw [List.map_cons,<- picked (λi p h=>hps (i + 1) p h) vs (by simpa using hl) λi v h=>hv (i + 1) v h]
def iter_set{a:Addr}{S:Int->Prop}{n:Nat}{Q:VSP}(hh:A.handled=none)(hS:SetI prog w s.heap a S n)(hn:n < scanBound)
  (h:∀ (h':Heap) d (I:Addr) (fp:List Addr) (m:Nat) (P:Nat->Value->Prop) (St:Nat->Heap->Prop),(∀ b o,s.heap.get? b=some o->h'.get? b=some o)->Walks prog w A I fp [I] m P St->St 0 h'->s.heap.objs.size<=I->(∀ b∈fp,b=a\/s.heap.objs.size<=b)->(∀ b∈fp,b < h'.objs.size) ->
   m<=n->(∀ vs:List Value,vs.length=m->(∀ (i:Nat) v,vs[i]?=some v->P i v)->∃ ks:List Int,IntsAre vs ks/\ks.Nodup/\∀ k,k∈ks ↔ S k)->Q (.ref I) { s with heap:=h',drawn:=d }) :
  wpAny (model prog w) A (pyIter (.ref a)) Q E s:=by
 obtain⟨o,es,ep,t,ho,hex,hd,hT,hf,hA,hN,hM,hz⟩:=id hS
 have hty:s.TypeIs (.ref a) "set":=⟨_,ho,hex.1⟩
 refine wpAny_pyIter_slot hty F.slot_set_iter (YW F.slot_set_iter hty entry_set_iter ?_ (F.args_set_iter_1 _))
 unfold Builtin.«frozenset.__iter__» Builtin.Frozenset.slot0 Builtin.Frozenset.sizeOf
 refine Ya (Ya (Yc (Yc ?_)))
 refine Ya (Ya (VF ho hd hf (Yc ?_)))
 unfold setDrawn
 refine Ya (Ya (Vx ho hd hf ?_))
 dsimp only
 refine Ya (byText_wp (Yc ?_))
 have hlt:a < s.heap.objs.size:=Ye ho
 have told:∀ (es':List (Int × Value)),es'.Perm es.toList->∀ vs:List Value,vs=es'.map (·.2)->∃ ks:List Int,IntsAre vs ks/\ks.Nodup/\∀ k,k∈ks ↔ S k:=λes' hp vs hv =>
  ⟨es'.map keyI,by rw [hv]; exact ints_of (hA.perm hp),(hp.map keyI).nodup_iff.mpr hN,λk=>((hp.map keyI).mem_iff).trans (hM k)⟩
 have plain:∀ (f:Nat->Nat) (es':List (Int × Value)),es'.Perm es.toList->f 0=0->SN prog w a o ep f (es'.map (·.2))->wpAny (model prog w) A.in1 (do
   let first <- pure (rawInt 0)
   let __do_lift <- setEpoch a
   let __do_lift <- newFields "set_iterator" [first,rawInt 0,Value.ref a,rawInt ↑es.size,rawInt ↑__do_lift]
   ret __do_lift) (λfin s'=>∃ v,fin=Fin.done (Flow.ret v)/\∃ T' r,s'.TypeIs v T'/\typeLookup (Value.type T') (Str.ofString "__next__")=pure (some r)/\Q v s') E s:=by
  intro f es' hp hf0 hsn
  refine Ya (Yc (Ya (wpAny_setEpoch_of ho hd hf (Ya ?_))))
  unfold newFields
  refine Y1 (Yc ⟨_,rfl,"set_iterator",_,⟨_,Yn _ rfl,rfl⟩,slot_setit_next.lookup,?_⟩)
  have hl:(es'.map (·.2)).length=es.size:=by rw [Yg,hp.length_eq,YI]
  have key:=h (s.heap.push (setIt (.int (f 0) 0) 0 a es.size ep)) s.drawn s.heap.objs.size [s.heap.objs.size,a] _ _ _ (λb o e=>Yh _ e) (walks_sn hh (Ve hlt) hd hf hsn hl) ⟨Yn _ rfl,Yh _ ho⟩ (Yd _)
   (λb hb=>by simp only [List.mem_cons,List.not_mem_nil,or_false] at hb; rcases hb with rfl | rfl; exact .inr (Nat.le_refl _); exact .inl rfl)
   (λb hb=>by rw [Heap.size_push]; simp only [List.mem_cons,List.not_mem_nil,or_false] at hb; rcases hb with rfl | rfl; exact Nat.lt_succ_self _; exact Nat.lt_succ_of_lt hlt)
   (by rw [hl]; exact hz) (λvs hvl hv=>told es' hp vs (Vw λi=>by
    by_cases c:i < vs.length
    ·rw [Yb c,hv i _ (Yb c)]
    ·rw [YU (by omega),YU (by omega)]))
  rw [hf0] at key
  exact key
 cases hb:byT w with
 | true =>
  rw [if_neg (by simp)]
  exact plain (λ_=>0) _ (pick_perm (w.params.setOrder a ep) es) rfl (sn_text hd hf hb)
 | false =>
  refine Vz (λc=>?_) (λc=>?_)
  ·refine wpAny_bind (drawOrder_wp _ _ _ (by simp) λps d hp=>?_)
   have hpl:ps.length=es.size:=by rw [hp.length_eq,List.length_range]
   have hz2:(ps.map λi:Nat=>rawInt i).length<=sizeLine:=by rw [Yg,hpl]; exact fits_of_scanBound (Yx hz hn)
   refine Ya (wpAny_newTuple ?_ hz2)
   refine Ya (wpAny_setEpoch_of (Yh _ ho) hd hf (Ya ?_))
   unfold newFields
   refine Y1 (Yc ⟨_,rfl,"set_iterator",_,⟨_,Yn _ rfl,rfl⟩,slot_setit_next.lookup,?_⟩)
   have hps:∀ (i p:Nat),ps[i]?=some p->p < es.size:=λi p e=>YL.mp (hp.mem_iff.mp (Yo e))
   have hz1:(s.heap.push { cls:=.type "tuple",data:=.seq (ps.map λi:Nat=>rawInt i).toArray }).objs.size=s.heap.objs.size + 1:=VO ..
   refine h _ d (s.heap.push _).objs.size [(s.heap.push _).objs.size,a,s.heap.objs.size] _ _ _ (λb o e=>Yh _ (Yh _ e)) (walks_drawn hh (ps:=ps) (c:=0) ?_ ?_ hd hf rfl hps) ⟨Yn _ rfl,Yh _ (Yh _ ho),Yh _ (Yn _ rfl)⟩ ?_ ?_ ?_ (by rw [hpl]; exact hz) λvs hvl hv=>?_
   ·rw [hz1]; exact Ve (Y8 hlt)
   ·rw [hz1]; exact Nat.succ_ne_self _
   ·rw [hz1]; exact Vr _
   ·intro b hb
    rw [hz1] at hb
    simp only [List.mem_cons,List.not_mem_nil,or_false] at hb
    rcases hb with rfl | rfl | rfl
    ·exact .inr (Vr _)
    ·exact .inl rfl
    ·exact .inr (Yd _)
   ·intro b hb
    rw [hz1] at hb
    rw [VO,hz1]
    simp only [List.mem_cons,List.not_mem_nil,or_false] at hb
    rcases hb with rfl | rfl | rfl
    ·exact VH _
    ·exact Y8 (Y8 hlt)
    ·exact Y8 (VH _)
   ·refine told (ps.filterMap (es[·]?)) ((hp.filterMap _).trans (by rw [filterMap_getElem?_range])) vs ?_
    exact picked hps vs hvl hv
  ·exact plain (slotAt t.place) es.toList (.refl _) rfl (sn_plain hd hf hT hb (by cases q:(!t.plain && decide (es.size > 1)) with | false=>rfl | true=>exact absurd (show (!false && (!t.plain && decide (es.size > 1)))=true by rw [q]; rfl) c))
def hint_set{r:Addr}{Q:Bool->Shared->Prop}(hT:s.TypeIs (.ref r) "set")(h:Q false s):wpAny (model prog w) A (Builtin.List.listLengthHint (.ref r)) Q E s:=by
 unfold Builtin.List.listLengthHint
 refine Ya (wpAny_specialOf hT (show typeLookup (.type "set") "__len__"=pure (some (.builtin "set.__len__")) from by rw [typeLookup_type,builtinLookup_eq_fast]; kernel_rfl) ?_)
 generalize hid:("set.__len__":String)=id0
 wp_delta
 rw [show splitId id0=some ("set","__len__") from by subst hid; decide +kernel]
 subst hid
 refine Ya (VN (T:="set") (b:=true) hT (by rw [isSubtype_type]; kernel_rfl) ?_)
 refine Vz (λhab=>absurd hab (by decide)) (λ_=>?_)
 refine Vz (λ_=>?_) (λhab=>absurd (by decide +kernel) hab)
 refine Ya (wpAny_typeOf hT ?_)
 exact Yc h
theorem SetI.type{a:Addr}{S:Int->Prop}{n:Nat}(x:SetI prog w s.heap a S n):s.TypeIs (.ref a) "set":=let ⟨o,_,_,_,ho,hex,_⟩:=x; ⟨o,ho,hex.1⟩
abbrev listNil(c:Nat):Obj:={ cls:=.type "list",data:=.seq #[] c }
def extend_set{a L:Addr}{S:Int->Prop}{n c₀:Nat}{res:Value}{R:Result->Shared->Prop}(hh:A.handled=none)(hS:SetI prog w s.heap a S n)(hn:n < scanBound)(hLa:L ≠ a)(hL:s.heap.get? L=some (listNil c₀))
  (hR:∀ h' d tk (acc:Array Value) (ks:List Int) c',(∀ b o,b ≠ L->s.heap.get? b=some o->h'.get? b=some o)->h'.get? L=some { cls:=.type "list",dict:=none,data:=.seq acc c',slots:=#[] }->IntsAre acc.toList ks->ks.Nodup->(∀ k,k∈ks ↔ S k)->acc.size<=n ->
   R (.ok (.ret res)) { s with heap:=h',drawn:=d,toks:=tk }) :
  wpAny (model prog w) A.in1 (Builtin.List.listExtendWith (.ref L) (.ref a) res)
   (λfin s'=>match fin with | .done f=>R (.ok f) s' | .again c'=>c'.quiet=true/\codeAny (model prog w) A c' R s') (λe s'=>R (.error e) s') s:=by
 unfold Builtin.List.listExtendWith
 refine Ya (wpAny_typeOf (T:="set") hS.type ?_)
 have h1:Builtin.List.listSameRef (.ref L) (.ref a)=false:=by simp [Builtin.List.listSameRef,hLa]
 have h2:(Value.type "set" == Value.type "list")=false:=by decide
 have h3:(Value.type "set" == Value.type "tuple")=false:=by decide
 simp only [h1,h2,h3,Bool.or_false,Bool.false_eq_true,if_false]
 have hLlt:=Ye hL
 refine Ya (iter_set (A:=A.in1) hh hS hn λh' d I fp m P St hk W hst hI hfp hfp2 hm told=>?_)
 have hLf:L ∉ fp:=λz=>by
  rcases hfp L z with e | e
  ·exact hLa e
  ·exact absurd hLlt (Nat.not_lt.mpr e)
 have hL1:h'.get? L=some (listNil c₀):=hk _ _ hL
 have key:∀ (h1:Heap) (c₁:Nat),(∀ b o,b ≠ L->h'.get? b=some o->h1.get? b=some o)->h1.get? L=some (listNil c₁)->codeAny (model prog w) A (.builtin "list.extend.loop" ⟨[.ref L,.ref I,res],[]⟩) R { s with heap:=h1,drawn:=d }:=by
  intro h1 c₁ k1 g1
  refine codeAny_extend_loopS W.toS (fits_of_scanBound (Yx hm hn)) L hLf res m 0 _ #[] c₁ rfl (YD _) (W.frame 0 h' h1 hst λb hb o e=>k1 b o (λz=>hLf (z ▸ hb)) e) g1 (ItemsOf.nil _) λs' acc' c' hmv g' hacc=>?_
  rw [Moved.eq_with hmv]
  obtain⟨ks,i1,i2,i3⟩:=told acc'.toList (by rw [YI]; exact hacc.1) λj v e=>hacc.2 j v (by rw [<- YF]; exact e)
  refine hR s'.heap d s'.toks acc' ks c' (λb o hb e=>hmv.heap b o (λz=>?_) (k1 b o hb (hk b o e))) g' i1 i2 i3 (by rw [hacc.1]; exact hm)
  rcases Yl.mp z with z | z
  ·exact hb z
  ·rw [YB.mp z] at e
   exact absurd (Ye e) (Nat.not_lt.mpr hI)
 have hS':SetI prog w h' a S n:=hS.keep λo e=>hk _ _ e
 refine Ya (Y3 (hint_set (s:={ s with heap:=h',drawn:=d }) hS'.type ?_))
 refine Vz (λ_=>?_) (λ_=>Yc ⟨VB F.plain_extend_loop _,key h' c₀ (λb o _ e=>e) hL1⟩)
 refine Ya (Vg (Ya ?_))
 show wpAny _ _ (updateSeq L (·.push .none) >>= λ_=>updateSeq L (·.pop)) _ _ _
 refine Ya (wpAny_updateSeq hL1 rfl ?_)
 have g2:=VW (Obj.mapSeq (·.push Value.none)) hL1 rfl
 refine wpAny_updateSeq (hz:=by seq_fits) g2 rfl ?_
 have g3:=VW (Obj.mapSeq (·.pop)) g2 rfl
 exact Yc ⟨VB F.plain_extend_loop _,key _ _ (λb o hb e=>(Vj _ _ (Ne.symm hb)).trans ((Vj _ _ (Ne.symm hb)).trans e)) g3⟩
def collect_set{a:Addr}{S:Int->Prop}{n:Nat}{Q:List Value->Shared->Prop}(hh:A.handled=none)(hS:SetI prog w s.heap a S n)(hn:n < scanBound)
  (h:∀ h' d tk (vs:List Value) (ks:List Int),(∀ b o,s.heap.get? b=some o->h'.get? b=some o)->IntsAre vs ks->ks.Nodup->(∀ k,k∈ks ↔ S k)->vs.length<=n->s.heap.objs.size<=h'.objs.size->Q vs { s with heap:=h',drawn:=d,toks:=tk }) :
  wpAny (model prog w) A (collect (.ref a)) Q E s:=by
 unfold collect
 refine Ya (wpAny_runValue (Vd entry_proto_collect' ?_))
 rw [Vk F.plain_proto_collect _]
 show wpAny _ A.in1 (newList [] >>= λl=>again (.builtin "list.__iadd__" ⟨[l,.ref a],[]⟩)) _ _ s
 refine Ya (Y1 ?_)
 refine Yc ⟨VB V3 _,Vd entry_list_iadd' ?_⟩
 rw [Vk V3 _]
 show wpAny _ A.in1 (Builtin.List.listExtendWith (.ref s.heap.objs.size) (.ref a) (.ref s.heap.objs.size)) _ _ _
 have key:=extend_set (A:=A) (s:={ s with heap:=s.heap.push (listNil 0) }) (L:=s.heap.objs.size) (c₀:=0) (res:=.ref s.heap.objs.size) (n:=n) (S:=S)
  (R:=λ(q:Result) (s':Shared)=>∃ (h':Heap) (d:Drawn) (tk:Nat) (acc:Array Value) (ks:List Int) (c':Nat),q=.ok (.ret (.ref s.heap.objs.size))/\s'={ s with heap:=h',drawn:=d,toks:=tk }/\(∀ b o,s.heap.get? b=some o->h'.get? b=some o) /\
   h'.get? s.heap.objs.size=some { cls:=.type "list",dict:=none,data:=.seq acc c',slots:=#[] }/\IntsAre acc.toList ks/\ks.Nodup/\(∀ k,k∈ks ↔ S k)/\acc.size<=n)
  hh (hS.keep λo e=>Yh _ e) hn (Ve hS.lt) (Yn _ rfl)
  (λh' d tk acc ks c' hk g i1 i2 i3 i4=>⟨h',d,tk,acc,ks,c',rfl,rfl,λb o e=>hk b o (Ym (Ye e)) (Yh _ e),g,i1,i2,i3,i4⟩)
 refine Yv key (λfin s' x=>?_) λe s' x=>?_
 ·cases fin with
  | done f =>
   obtain⟨h',d,tk,acc,ks,c',e,rfl,hk,g,i1,i2,i3,i4⟩:=x
   cases e
   show wpAny _ A (load s.heap.objs.size >>= _) _ _ _
   exact Ya (Vs g (Yc (h h' d tk acc.toList ks hk i1 i2 i3 (by rw [YI]; exact i4) (Yt (Ye g)))))
  | again c₁ =>
   refine⟨x.1,YS x.2 λq s₂ y=>?_⟩
   obtain⟨h',d,tk,acc,ks,c',rfl,rfl,hk,g,i1,i2,i3,i4⟩:=y
   show wpAny _ A (load s.heap.objs.size >>= _) _ _ _
   exact Ya (Vs g (Yc (h h' d tk acc.toList ks hk i1 i2 i3 (by rw [YI]; exact i4) (Yt (Ye g)))))
 ·obtain⟨_,_,_,_,_,_,e',_⟩:=x
  cases e'
def lt_of_le_nodup{ks:List Int}(h:ks.Pairwise (·<=·))(hn:ks.Nodup):ks.Pairwise (· < ·):=by
 have:=List.Pairwise.and h hn
 exact this.imp λ⟨h1,h2⟩=>Int.lt_iff_le_and_ne.mpr ⟨h1,h2⟩
theorem sorted_keep{h:Heap}{a b:Addr}{o:Obj}{vs:List Value}{out:Array Value}(hb:b ≠ a)(e:h.get? b=some o):(sortedHeap h a vs out).get? b=some o:=by
 unfold sortedHeap
 exact (Vj _ _ (Ne.symm hb)).trans (Yh _ (Yh _ ((Vj _ _ (Ne.symm hb)).trans e)))
def sorted_at{h:Heap}{a:Addr}{vs:List Value}{n:Nat}{out:Array Value}(e:h.get? a=some (seqObj "list" vs.toArray n)):∃ c,(sortedHeap h a vs out).get? a=some { cls:=.type "list",dict:=none,data:=.seq out c,slots:=#[] }:=by
 unfold sortedHeap
 exact⟨_,get?_update_seq (Yh _ (Yh _ (get?_update_seq e λ_=>#[]))) λ_=>out⟩
def sorted_set{a:Addr}{S:Int->Prop}{n:Nat}{Q:VSP}(hh:A.handled=none)(hS:SetI prog w s.heap a S n)(hn:n < 64)
  (h:∀ (h':Heap) d tk (D:Addr) (out:Array Value) (ks:List Int) c,(∀ b o,s.heap.get? b=some o->h'.get? b=some o)->s.heap.objs.size<=D->h'.get? D=some { cls:=.type "list",dict:=none,data:=.seq out c,slots:=#[] }->IntsAre out.toList ks->ks.Pairwise (· < ·)->(∀ k,k∈ks ↔ S k) ->
   Q (.ref D) { s with heap:=h',drawn:=d,toks:=tk }):wpAny (model prog w) A (call (.builtin "sorted") [.ref a]) Q E s:=by
 refine Calls.call_function_entry kind_sorted plain_sorted entry_sorted (args_sorted1 _) ?_
 unfold Builtin.«sorted»
 refine Ya (m:=checkCount "sorted" 1 1 _) (Yc ?_)
 refine Ya (collect_set (A:=A.in1) hh hS (Nat.lt_trans hn (by decide)) λh' d tk vs ks hk i1 i2 i3 i4 hle=>?_)
 have hv:vs.length < 64:=by omega
 refine Ya (wpAny_newList ?_ (Yi (Yt hv) (by decide)))
 have hoL:(h'.push (seqObj "list" vs.toArray 0)).get? h'.objs.size=some (seqObj "list" vs.toArray 0):=Yn _ rfl
 refine Ya (Y3 (YW slot_list_sort ⟨_,hoL,rfl⟩ entry_list_sort (list_sort_tree hoL i1 hv λout ks' a1 a2 a3=>⟨_,rfl,?_⟩) (args_list_sort _)))
 obtain⟨c,e1⟩:=sorted_at hoL (out:=out)
 refine Yc ⟨_,rfl,h _ d tk h'.objs.size out ks' c (λb o e=>?_) hle e1 a1 (lt_of_le_nodup a3 (a2.nodup_iff.mpr i2)) λk=>(a2.mem_iff).trans (i3 k)⟩
 exact sorted_keep (Ym (Yw (Ye e) hle)) (Yh _ (hk b o e))
end
end My
namespace My
open PySem PySem.Spec L2
open PyProof.Rows hiding St
def vals_ints:∀ {ns:List Int}{us:List Value},Vals (ns.map V.int) us->IntsAre us ns
 | [],us,h=>by cases h; exact .nil
 | n :: ns,us,h=>by
  cases h with
  | cons h1 h2 =>
   obtain⟨t,rfl⟩:=h1
   exact .cons n t (vals_ints h2)
theorem ints_vals:∀ {ns:List Int}{us:List Value},IntsAre us ns->Vals (ns.map V.int) us
 | _,_,.nil=>.nil
 | _,_,.cons n t h=>.cons ⟨t,rfl⟩ (ints_vals h)
section
variable {X:Cx}{e:Expr}{t:TA}{p p' pos pos':Pos}
theorem inv_redrawn{pins:List (Addr × Obj)}{Z:St}{H:Hp}{s:Shared}(I:Inv X pins Z H s)(d:Drawn):Inv X pins Z H { s with drawn:=d }:=⟨I.ok,I.os,I.bare,I.base,I.loc,I.cell,I.free,I.freeC,I.pin,I.hok,I.len⟩
def SetI.few{prog:Program}{w:World}{h:Heap}{a:Addr}{S:Int->Prop}{n:Nat}(x:SetI prog w h a S n)(hb:∀ k,S k->0<=k/\k < 60):SetI prog w h a S 60:=by
 obtain⟨o,es,ep,t,ho,hex,hd,hT,hf,hA,hN,hM,hz⟩:=x
 refine⟨o,es,ep,t,ho,hex,hd,hT,hf,hA,hN,hM,?_⟩
 have hs:es.toList.map keyI ⊆ (List.range 60).map λk:Nat=>(k:Int):=λk hk=>by
  obtain⟨h1,h2⟩:=hb k ((hM k).mp hk)
  exact Yk.mpr ⟨k.toNat,YL.mpr (by omega),by omega⟩
 have:=YH hN hs
 simpa using this
def rSortSet:List V->Hp->VK->Prop:=λxs H Q=>∃ (a:Addr) (ns:List Int),xs=[.ref a]/\H a=some (.lst (ns.map V.int))/\ns.length < 4000/\(∀ k∈ns,0<=k/\k < 60) /\
 ∀ l H2 (ks:List Int),H l=none->Same H H2->H2 l=some (.lst (ks.map V.int))->ks.Pairwise (· < ·)->(∀ k,k∈ks ↔ k∈ns)->Q (.ref l) H2
def q_sortSet(hg:Gl X "sorted")(hm:X.mg "sorted"=none)(hg2:Gl X "set")(hm2:X.mg "set"=none)(ha:QA X [e] t)(hp:plainE e=true:=by rfl)(hc:X.calm=true:=by rfl) :
  QE X (.Call (.Name "sorted" p) [.Call (.Name "set" p') [e] [] pos'] [] pos) (tCB rSortSet t):=⟨by
 intro pins s Z H Q I h
 refine Vm (ld_blt I hg hm (show bootBuiltins "sorted"=some (.builtin "sorted") by decide +kernel) ?_ (by decide) (by decide))
 refine PyProof.Rows.callWith_builtin1 ?_ rfl rfl
 show wpAny _ _ (spliced ((false,eval (.Call (.Name "set" p') [e] [] pos') X.env) :: [])) _ _ s
 refine Calls.spliced_cons ?_
 refine Vm (ld_blt I hg2 hm2 (show bootBuiltins "set"=some (.type "set") by decide +kernel) ?_ (by decide) (by decide))
 refine VC (thn (ha.h pos' pins s Z H _ I h) λus s1 ⟨vs,H1,I1,r1,q1⟩=>?_) (se_cons hp) rfl
 obtain⟨a,ns,rfl,e1,hl,hb,q⟩:=q1
 obtain⟨u,rfl,ru⟩:=vals1 r1
 cases ru
 obtain⟨_,its,n,hv,g⟩:=I1.hok a _ e1
 have hi:=vals_ints hv
 refine set_of_list (I1.ok.hd hc) ⟨_,g,rfl,n,rfl⟩ (by simpa using hi) (by have:scanBound=4096:=rfl; omega) λh' tk hS hk=>Calls.spliced_nil ?_
 refine sorted_set (s:={ s1 with heap:=h',toks:=tk }) (I1.ok.hd hc) (hS.few λk hk=>hb k hk) (by decide) λh2 d tk2 D out ks c hk2 hle g2 i1 i2 i3=>?_
 have hD:s1.heap.objs.size<=D:=Yi (Yt hS.lt) hle
 have hf:H1 D=none:=I1.hok.fresh hD
 have hkl:ks.length<=sizeLine:=by
  have hs:ks ⊆ (List.range 60).map λk:Nat=>(k:Int):=λk hk=>by
   obtain⟨h1,h2⟩:=hb k ((i3 k).mp hk)
   exact Yk.mpr ⟨k.toNat,YL.mpr (by omega),by omega⟩
  have hnd:ks.Nodup:=i2.imp λh e=>by rw [e] at h; exact Int.lt_irrefl _ h
  have:=YH hnd hs
  exact Nat.le_trans (by simpa using this) (show 60<=sizeLine by decide)
 exact⟨.ref D,upd H1 D (.lst (ks.map V.int)),inv_redrawn (I1.laid (t':=tk2) (o:=.lst (ks.map V.int)) (λb u e=>hk2 b u (hk b u e)) hD (show ObjOk X.prog X.w _ h2 _ (.lst (ks.map V.int)) from ⟨by simpa using hkl,out.toList,c,ints_vals i1,by simpa using g2⟩)) d,rfl,q D _ ks hf (same_new hf _) upd_same i2 i3⟩⟩
end
section
variable {X:Cx}{a b o e:Expr}{es:List Expr}{ta tb to te:TE}{t:TA}{name:Str}{apos cpos pos p p2:Pos}{id:String}{r:V->List V->Hp->VK->Prop}
def q_ixX(ha:QE X a ta)(hb:QE X b tb)(hs:PlainIx b:=by intro _ _; rfl):QE X (.Subscript a b pos) (tOp rIxS ta tb):=⟨pe_ix ix_str ha.h hb.h hs⟩
def rSlX:V->Option Int->Option Int->Hp->VK->Prop:=λx lo hi H Q=>∃ z,x=.str z/\z.length<=1000/\Q (.str (Txt.slice z lo hi)) H
def tXm(r:V->List V->Hp->VK->Prop)(to:TE)(t:TA):TE:=λZ H Q=>to Z H λx H1=>∃ z,x=.str z/\t Z H1 λvs H2=>r x vs H2 Q
def rFind:V->List V->Hp->VK->Prop:=λx vs H Q=>∃ z y,x=.str z/\vs=[.str y]/\Q (.int (Txt.find z y)) H
def vals_strs:∀ {ss:List Str}{us:List Value},Vals (ss.map V.str) us->StrsAre us ss
 | [],us,h=>by cases h; exact .nil
 | x :: ss,us,h=>by
  cases h with
  | cons h1 h2 =>
   obtain⟨t,rfl⟩:=h1
   exact .cons x t (vals_strs h2)
theorem strs_vals:∀ {ss:List Str}{us:List Value},StrsAre us ss->Vals (ss.map V.str) us
 | _,_,.nil=>.nil
 | _,_,.cons x t h=>.cons ⟨t,rfl⟩ (strs_vals h)
def rJoin:V->List V->Hp->VK->Prop:=λx vs H Q=>∃ z a ss,x=.str z/\vs=[.ref a]/\H a=some (.lst (List.map V.str ss))/\z.length<=16/\(ss.map (·.length)).sum + ss.length<=1048576/\Q (.str (Txt.join z ss)) H
end
def leS(a b:Str):Prop:=a.cps.toList<=b.cps.toList
def leS_of{a b:Str}(h:(!ltCps b.cps.toList a.cps.toList)=true):leS a b:=by
 rw [ltCps_eq,Bool.not_eq_true',decide_eq_false_iff_not] at h
 exact List.not_lt.mp h
def leS_anti{a b:Str}(h1:leS a b)(h2:leS b a):a=b:=by
 have:=List.le_antisymm h1 h2
 cases a; cases b
 exact congrArg Str.mk (Array.toList_inj.mp this)
def rising_pw:∀ (p:Str) (l:List Str),risingS p l=true->(p :: l).Pairwise leS
 | p,[],_=>List.pairwise_singleton ..
 | p,x :: l,h=>by
  unfold risingS at h
  rw [VI] at h
  have ih:=rising_pw x l h.2
  have hx:=leS_of h.1
  refine List.pairwise_cons.mpr ⟨λy hy=>?_,ih⟩
  rcases Yl.mp hy with rfl | hy
  ·exact hx
  ·exact List.le_trans hx ((List.pairwise_cons.mp ih).1 y hy)
theorem sorted_pw:∀ {l:List Str},sortedS l=true->l.Pairwise leS
 | [],_=>List.Pairwise.nil
 | x :: l,h=>rising_pw x l h
def sorted_uniq{l m:List Str}(h1:l.Pairwise leS)(h2:m.Pairwise leS)(p:l.Perm m):l=m:=List.Perm.eq_of_pairwise (λ_ _ _ _=>leS_anti) h1 h2 p
section
variable {X:Cx}{e:Expr}{t:TA}{p pos:Pos}
def rSortStr:List V->Hp->VK->Prop:=λxs H Q=>∃ (a:Addr) (ss:List Str),xs=[.ref a]/\H a=some (.lst (ss.map V.str))/\ss.length < 64/\∀ l H2 (ts:List Str),H l=none->Same H H2->H2 l=some (.lst (ts.map V.str))->ts.Pairwise leS->ts.Perm ss->Q (.ref l) H2
def call_sortStr:CallR X (.builtin "sorted") rSortStr:=by
 intro pins s Z H xs us Q I r h
 obtain⟨a,ss,rfl,e,hl,q⟩:=h
 obtain⟨u,rfl,ru⟩:=vals1 r
 cases ru
 obtain⟨_,its,n,hv,g⟩:=I.hok a _ e
 have hi:=vals_strs hv
 have hil:its.length=ss.length:=by rw [<- hv.length,Yg]
 refine sorted_strs (vs:=its) ⟨_,g,rfl,n,rfl⟩ hi (by omega) λout ts o1 o2 o3=>?_
 have hD:s.heap.objs.size<=s.heap.objs.size + 1:=Vr _
 have hf:H (s.heap.objs.size + 1)=none:=I.hok.fresh hD
 have hz1:((s.heap.push (seqObj "list" #[] 0)).update s.heap.objs.size (Obj.mapSeq (· ++ its.toArray))).objs.size=s.heap.objs.size + 1:=by rw [Heap.size_update,size_push']
 have hk:∀ b o,s.heap.get? b=some o->(sortedAll s.heap its out).get? b=some o:=λb o eb=>by
  have hb:=Ye eb
  unfold sortedAll
  exact sorted_keep (Ym (Y8 hb)) (Yh _ ((Vj _ _ (Ve hb)).trans (Yh _ eb)))
 obtain⟨c,e1⟩:∃ c,(sortedAll s.heap its out).get? (s.heap.objs.size + 1)=some { cls:=.type "list",dict:=none,data:=.seq out c,slots:=#[] }:=by
  unfold sortedAll
  refine sorted_at (n:=0) ?_
  rw [<- hz1]
  exact Yn _ rfl
 have hol:ts.length<=sizeLine:=by rw [o2.length_eq]; exact Yi (Yt hl) (by decide)
 exact⟨.ref (s.heap.objs.size + 1),upd H (s.heap.objs.size + 1) (.lst (ts.map V.str)),I.laid (t':=s.toks) (o:=.lst (ts.map V.str)) hk hD (show ObjOk X.prog X.w _ _ _ (.lst (ts.map V.str)) from ⟨by simpa using hol,out.toList,c,strs_vals o1,by simpa using e1⟩),rfl,q _ _ ts hf (same_new hf _) upd_same (sorted_pw o3) o2⟩
def q_sortStr(hg:Gl X "sorted")(hm:X.mg "sorted"=none)(ha:QA X [e] t)(hp:plainE e=true:=by rfl):QE X (.Call (.Name "sorted" p) [e] [] pos) (tCB rSortStr t) :=
 ⟨pe_callB call_sortStr hg hm (by decide +kernel) ha.h (by decide) (by decide) (se_cons hp) rfl⟩
end
section
variable {prog:Program}{w:World}{A:Around}{E:VSP}{s:Shared}
def EqIn(prog:Program)(w:World)(A:Around)(s:Shared)(u v:Value):Prop:=∀ (E:VSP) (Q:Bool->Shared->Prop),Q true s->wpAny (model prog w) A (eqBool u v) Q E s
theorem EqIn.of{A:Around}{u v:Value}(h:SeqAt.EqAt A s u v true):EqIn prog w A s u v:=λE Q q=>h prog w E Q q
def EqIn.refs{a b:Addr}(h:∀ (E:VSP) (Q:VSP),Q (.bool true) s->wpAny (model prog w) A (richCompare .Eq (.ref a) (.ref b)) Q E s):EqIn prog w A s (.ref a) (.ref b):=λE Q q=>by
 unfold eqBool
 refine Y3 ?_
 refine Vz (λ_=>Ya (Vg (Yc q))) (λ_=>?_)
 exact Ya (h E _ (Vo q))
def rc_tupNe{l b:Addr}{items items2:Array Value}{Q:VSP}(hl:s.heap.IsTuple l items)(hb:s.heap.IsTuple b items2)(hz:items.size=items2.size)(hu:A.units < cLine)
  (he:∀ j (h1:j < items.size) (h2:j < items2.size),EqIn prog w A.in1 s items[j] items2[j]) (h:Q (.bool false) s):wpAny (model prog w) A (richCompare .NotEq (.ref l) (.ref b)) Q E s:=by
 obtain⟨o1,g1,c1,n1,d1⟩:=id hl
 obtain⟨o2,g2,c2,n2,d2⟩:=id hb
 have t1:s.TypeIs (.ref l) "tuple":=⟨o1,g1,c1⟩
 have t2:s.TypeIs (.ref b) "tuple":=⟨o2,g2,c2⟩
 refine wpAny_richCompare_same_room (op:=.NotEq) t1 t2 F.slot_tuple_ne (YW F.slot_tuple_ne t1 F.entry_tuple_ne ?_ (F.args_tuple_ne_2 _ _)) hu
 show wpAny _ _ (slotArgs "__ne__" 1 ⟨[.ref l,.ref b],[]⟩ >>= _) _ _ s
 refine Ya (Yc ?_)
 dsimp only
 refine Ya (VN (T:="tuple") (b:=true) t2 AutoSeq1.sub_tuple_tuple ?_)
 rw [if_neg (by decide)]
 refine Ya (VZ g1 d1 (Ya (VZ g2 d2 ?_)))
 refine Ya (wpAny_forIn_list _ (λrest b s'=>b.1=none/\s'=s/\∃ i,rest=(items.toList.zip items2.toList).drop i) _ ?_ ?_ _ _ ⟨rfl,rfl,0,rfl⟩)
 ·rintro⟨y,x⟩ rest b' s' ⟨hb',rfl,i,hi⟩
  have hlt:i < (items.toList.zip items2.toList).length:=by
   rcases Nat.lt_or_ge i (items.toList.zip items2.toList).length with h' | h'
   ·exact h'
   ·rw [List.drop_of_length_le h'] at hi; cases hi
  have hlt':=hlt
  rw [List.length_zip,YI,YI] at hlt'
  have k1:i < items.size:=by omega
  have k2:i < items2.size:=by omega
  rw [VD hlt] at hi
  injection hi with hyx hrest
  have hy:y=items[i]:=by have:=congrArg Prod.fst hyx; simpa using this
  have hx:x=items2[i]:=by have:=congrArg Prod.snd hyx; simpa using this
  subst hy hx
  refine Ya (he i k1 k2 _ _ ?_)
  rw [if_neg (by decide)]
  exact Yc ⟨rfl,rfl,i + 1,hrest⟩
 ·rintro⟨b1,b2⟩ s' ⟨hb',rfl,_⟩
  simp only at hb'
  subst hb'
  dsimp only
  refine Yc ⟨_,rfl,?_⟩
  rw [show Builtin.Tuple.tupleCompareSizes CmpOp.NotEq items.size items2.size=Value.bool false by rw [hz]; simp [Builtin.Tuple.tupleCompareSizes]]
  exact⟨(λz=>nomatch z),h⟩
def rc_tupEq{l b:Addr}{items items2:Array Value}{Q:VSP}(hl:s.heap.IsTuple l items)(hb:s.heap.IsTuple b items2)(hz:items.size=items2.size)(hu:A.units < cLine)
  (he:∀ j (h1:j < items.size) (h2:j < items2.size),EqIn prog w A.in1 s items[j] items2[j]) (h:Q (.bool true) s):wpAny (model prog w) A (richCompare .Eq (.ref l) (.ref b)) Q E s:=by
 obtain⟨o1,g1,c1,n1,d1⟩:=id hl
 obtain⟨o2,g2,c2,n2,d2⟩:=id hb
 have t1:s.TypeIs (.ref l) "tuple":=⟨o1,g1,c1⟩
 have t2:s.TypeIs (.ref b) "tuple":=⟨o2,g2,c2⟩
 refine wpAny_richCompare_same_room (op:=.Eq) t1 t2 F.slot_tuple_eq (YW F.slot_tuple_eq t1 F.entry_tuple_eq ?_ (F.args_tuple_eq_2 _ _)) hu
 show wpAny _ _ (slotArgs "__eq__" 1 ⟨[.ref l,.ref b],[]⟩ >>= _) _ _ s
 refine Ya (Yc ?_)
 dsimp only
 refine Ya (VN (T:="tuple") (b:=true) t2 AutoSeq1.sub_tuple_tuple ?_)
 rw [if_neg (by decide)]
 refine Ya (VZ g1 d1 (Ya (VZ g2 d2 ?_)))
 refine Ya (wpAny_forIn_list _ (λrest b s'=>b.1=none/\s'=s/\∃ i,rest=(items.toList.zip items2.toList).drop i) _ ?_ ?_ _ _ ⟨rfl,rfl,0,rfl⟩)
 ·rintro⟨y,x⟩ rest b' s' ⟨hb',rfl,i,hi⟩
  have hlt:i < (items.toList.zip items2.toList).length:=by
   rcases Nat.lt_or_ge i (items.toList.zip items2.toList).length with h' | h'
   ·exact h'
   ·rw [List.drop_of_length_le h'] at hi; cases hi
  have hlt':=hlt
  rw [List.length_zip,YI,YI] at hlt'
  have k1:i < items.size:=by omega
  have k2:i < items2.size:=by omega
  rw [VD hlt] at hi
  injection hi with hyx hrest
  have hy:y=items[i]:=by have:=congrArg Prod.fst hyx; simpa using this
  have hx:x=items2[i]:=by have:=congrArg Prod.snd hyx; simpa using this
  subst hy hx
  refine Ya (he i k1 k2 _ _ ?_)
  rw [if_neg (by decide)]
  exact Yc ⟨rfl,rfl,i + 1,hrest⟩
 ·rintro⟨b1,b2⟩ s' ⟨hb',rfl,_⟩
  simp only at hb'
  subst hb'
  dsimp only
  refine Yc ⟨_,rfl,?_⟩
  rw [show Builtin.Tuple.tupleCompareSizes CmpOp.Eq items.size items2.size=Value.bool true by rw [hz]; simp [Builtin.Tuple.tupleCompareSizes]]
  exact⟨(λz=>nomatch z),h⟩
end
section
variable {X:Cx}{pins:List (Addr × Obj)}{Z:St}{H:Hp}{s:Shared}{a b:Expr}{ta tb:TE}{pos:Pos}{k:Nat}
def kv_at{kvs:List (Key × V)}{vs:List (Key × Value)}(r:KV kvs vs){i:Nat}{kv:Key × V}{k:Key}{v:Value}(h1:kvs[i]?=some kv)(h2:vs[i]?=some (k,v)):kv.1=k/\RelV kv.2 v:=by
 induction r generalizing i with
 | nil=>simp at h1
 | cons h _ ih =>
  cases i with
  | zero =>
   simp at h1 h2
   subst h1
   subst h2
   exact h
  | succ i=>exact ih (by simpa using h1) (by simpa using h2)
inductive EqP (H:Hp):V->V->Nat->Prop where
 | deep {x y:V}{n:Nat}(h:EqD H x y true n):EqP H x y n
 | dct {a b:Addr}{ka kb:List (Key × V)}{n:Nat}(ha:Rd H a (.dK ka)) (hb:Rd H b (.dK kb)) (hl:ka.length=kb.length) (h:∀ (j:Nat) x y,ka[j]?=some x->kb[j]?=some y->x.1=y.1/\EqD H x.2 y.2 true n) (hN:(ka.map (·.1)).Nodup):EqP H (.ref a) (.ref b) (n + 2)
 | tup {a b:Addr}{xs ys:List V}{n:Nat}(ha:H a=some (.tup xs)) (hb:H b=some (.tup ys)) (hl:xs.length=ys.length) (h:∀ (j:Nat) x y,xs[j]?=some x->ys[j]?=some y->EqP H x y n):EqP H (.ref a) (.ref b) (n + 2)
theorem valueAt_nodup:∀ {vs:List (Key × Value)}{j:Nat}{k:Key}{y:Value},(vs.map (·.1)).Nodup->vs[j]?=some (k,y)->valueAt vs k=some y
 | [],j,k,y,_,h=>by simp at h
 | (k',y') :: vs,0,k,y,_,h=>by
  simp at h
  obtain⟨rfl,rfl⟩:=h
  simp [valueAt]
 | (k',y') :: vs,j + 1,k,y,hN,h=>by
  rw [Yr,Va] at hN
  have hm:(k,y)∈vs:=List.mem_of_getElem? (by simpa using h)
  have hne:k' ≠ k:=λe=>hN.1 (Yk.mpr ⟨_,hm,e.symm⟩)
  have ih:=valueAt_nodup hN.2 (show vs[j]?=some (k,y) by simpa using h)
  unfold valueAt at ih ⊢
  rw [List.find?_cons_of_neg (by simpa using hne)]
  exact ih
def hits_of{A:Around}{vb:List (Key × Value)}(hN:(vb.map (·.1)).Nodup):∀ {va:List (Key × Value)}(i:Nat),(∀ (j:Nat) k v,va[j]?=some (k,v)->∃ y,vb[i + j]?=some (k,y)/\SeqAt.EqAt A s v y true)->KeqHits A s vb va true
 | [],_,_=>.nil
 | (k,v) :: va,i,h=>by
  obtain⟨y,h1,h2⟩:=h 0 k v rfl
  exact .hit (e:=true) (valueAt_nodup hN h1) h2 (hits_of hN (i + 1) λj k v e=>by
   have:=h (j + 1) k v e
   rw [show i + 1 + j=i + (j + 1) by omega]
   exact this)
theorem EqP.at(I:Inv X pins Z H s){x y:V}{n:Nat}(h:EqP H x y n):∀ {A:Around}{u v:Value},RelV x u->RelV y v->A.units + n < cLine->EqIn X.prog X.w A s u v/\((∃ a c,x=.ref a/\y=.ref c) ->
  (∀ (E:VSP) (Q:VSP),Q (.bool true) s->wpAny (model X.prog X.w) A (richCompare .Eq u v) Q E s)/\∀ (E:VSP) (Q:VSP),Q (.bool false) s->wpAny (model X.prog X.w) A (richCompare .NotEq u v) Q E s):=by
 induction h with
 | deep h =>
  intro A u v r1 r2 hu
  obtain⟨z1,z2⟩:=h.at I r1 r2 hu
  exact⟨.of z1,λw=>⟨λE Q q=>z2 w _ _ E Q q,λE Q q=>h.neAt I r1 r2 hu w _ _ E Q q⟩⟩
 | @dct a b ka kb n ha hb hl h hN =>
  intro A u v r1 r2 hu
  cases r1
  cases r2
  obtain⟨_,n1,va,kv1,d1⟩:=dk_rd I.hok ha
  obtain⟨_,n2,vb,kv2,d2⟩:=dk_rd I.hok hb
  have hkeys:ka.map (·.1)=kb.map (·.1):=Vw λj=>by
   rw [Yj,Yj]
   by_cases c:j < ka.length
   ·have c2:j < kb.length:=by omega
    rw [Yb c,Yb c2]
    exact congrArg some (h j _ _ (Yb c) (Yb c2)).1
   ·rw [YU (by omega),YU (by omega)]
  have hNb:(vb.map (·.1)).Nodup:=by rw [<- kv2.keys,<- hkeys]; exact hN
  have lA:va.length=ka.length:=kv1.length.symm
  have lB:vb.length=kb.length:=kv2.length.symm
  have hits:∀ A:Around,A.units + n < cLine->KeqHits A s vb va true:=λA hA=>hits_of hNb 0 λj k v e=>by
   have hj:j < ka.length:=by rw [<- lA]; exact (Yf.mp e).1
   have hj2:j < kb.length:=by omega
   obtain⟨p1,r1⟩:=kv_at kv1 (Yb hj) e
   obtain⟨q,e2⟩:∃ q,vb[j]?=some q:=⟨_,Yb (by omega)⟩
   obtain⟨p2,r2⟩:=kv_at kv2 (Yb hj2) (show vb[j]?=some (q.1,q.2) from e2)
   obtain⟨p3,hd⟩:=h j _ _ (Yb hj) (Yb hj2)
   refine⟨q.2,?_,(hd.at I r1 r2 hA).1⟩
   rw [Nat.zero_add,e2,<- p1,p3,p2]
  have e1:∀ (E:VSP) (Q:VSP),Q (.bool true) s->wpAny (model X.prog X.w) A (richCompare .Eq (.ref a) (.ref b)) Q E s:=λE Q q =>
   PySem.W.keq_eq (A:=A) n1 n2 d1 d2 (by omega) (r:=true) (λ_=>hits _ (by show A.units + 1 + n < cLine; omega)) (by rw [show (va.length == vb.length && true)=true by rw [lA,lB,hl]; simp]; exact q)
  refine⟨EqIn.refs e1,λ_=>⟨e1,λE Q q=>?_⟩⟩
  exact PySem.W.keq_ne (A:=A) n1 n2 d1 d2 (by omega) (r:=true) (λ_=>hits _ (by show A.units + 1 + n < cLine; omega)) (by rw [show (!(va.length == vb.length && true))=false by rw [lA,lB,hl]; simp]; exact q)
 | @tup a b xs ys n ha hb hl h ih =>
  intro A u v r1 r2 hu
  cases r1
  cases r2
  obtain⟨its,v1,t1,_⟩:=I.tuple (SqT.of ha)
  obtain⟨jts,v2,t2,_⟩:=I.tuple (SqT.of hb)
  have he:∀ j (h1:j < its.toArray.size) (h2:j < jts.toArray.size),EqIn X.prog X.w A.in1 s its.toArray[j] jts.toArray[j]:=λj h1 h2=>by
   have k1:j < xs.length:=by rw [v1.length]; simpa using h1
   have k2:j < ys.length:=by rw [v2.length]; simpa using h2
   obtain⟨u1,q1,w1⟩:=v1.get (Yb k1)
   obtain⟨u2,q2,w2⟩:=v2.get (Yb k2)
   have g1:its.toArray[j]=u1:=by obtain⟨hh,this⟩:=List.getElem?_eq_some_iff.mp q1; simpa using this
   have g2:jts.toArray[j]=u2:=by obtain⟨hh,this⟩:=List.getElem?_eq_some_iff.mp q2; simpa using this
   rw [g1,g2]
   exact (ih j _ _ (Yb k1) (Yb k2) w1 w2 (by show A.units + 1 + n < cLine; omega)).1
  have hz:its.toArray.size=jts.toArray.size:=by simp [<- v1.length,<- v2.length,hl]
  have e1:∀ (E:VSP) (Q:VSP),Q (.bool true) s->wpAny (model X.prog X.w) A (richCompare .Eq (.ref a) (.ref b)) Q E s:=λE Q q=>rc_tupEq t1 t2 hz (by omega) he q
  exact⟨EqIn.refs e1,λ_=>⟨e1,λE Q q=>rc_tupNe t1 t2 hz (by omega) he q⟩⟩
def rEqP:R2:=λx y H Q=>∃ n a c,x=.ref a/\y=.ref c/\EqP H x y n/\n<=60/\Q (.bl true) H
def rNeP:R2:=λx y H Q=>∃ n a c,x=.ref a/\y=.ref c/\EqP H x y n/\n<=60/\Q (.bl false) H
end
structure BlkM(X:Cx)(ts:List Str)(caps:List Nat)(cs:List Str)(sc:Scope)(cl:List (Str × Addr))(x:Str):Prop where
 clos:closureFor sc X.env=pure cl
 kind:sc.kind=.function
 own:∀ n,cellsFrom n sc.names cl=(x,n) :: cl
 own0:∀ n,cellsFrom n sc.names []=[(x,n)]
 loc:∀ y∈sc.names,y.2=.local->sc.names.lookup y.1=some .local
 sub:∀ y c,cl.lookup y=some c->X.env.cells.lookup y=some c
 has:∀ y,((relabel sc X.env).names.lookup y=some .cell\/(relabel sc X.env).names.lookup y=some .free)->y=x\/∃ c,cl.lookup y=some c
 len:caps.length=cs.length
 cap:∀ (k:Nat) i y,caps[k]?=some i->cs[k]?=some y->X.N[i]?=some y/\(X.env.kindOf y=some .cell\/X.env.kindOf y=some .free)
 capK:∀ y∈cs,(relabel sc X.env).names.lookup y=some .cell\/(relabel sc X.env).names.lookup y=some .free
 capX:∀ y∈cs,y ≠ x
section
variable {X:Cx}{pins:List (Addr × Obj)}{Z:St}{H:Hp}{s:Shared}{ts cs:List Str}{caps:List Nat}{sc:Scope}{cl:List (Str × Addr)}{fp:List Addr}{x:Str}
variable {tg it elt:Expr}{pos:Pos}{wi:TI}{g:TG}{te:TE}
end
section
variable {prog:Program}{w:World}{A:Around}{E:VSP}{s:Shared}
def collect_src{T:String}{r d:Addr}{n:Nat}{Pi:Nat->Value->Prop}{OK:Heap->Prop}{Q:List Value->Shared->Prop}(Ks:PySem.W.KdlSrc prog w T r d n Pi OK)(hh:A.handled=none)(hok:OK s.heap)(hn:n<=sizeLine)
  (h:∀ h' tk (acc:Array Value),(∀ b o,s.heap.get? b=some o->h'.get? b=some o)->ItemsOf Pi acc n->s.heap.objs.size<=h'.objs.size->Q acc.toList { s with heap:=h',toks:=tk }) :
  wpAny (model prog w) A (collect (.ref r)) Q E s:=by
 unfold collect
 refine Ya (wpAny_runValue (Vd entry_proto_collect' ?_))
 rw [Vk F.plain_proto_collect _]
 show wpAny _ A.in1 (newList [] >>= λl=>again (.builtin "list.__iadd__" ⟨[l,.ref r],[]⟩)) _ _ s
 refine Ya (Y1 ?_)
 refine Yc ⟨VB V3 _,Vd entry_list_iadd' ?_⟩
 rw [Vk V3 _]
 show wpAny _ A.in1 (Builtin.List.listExtendWith (.ref s.heap.objs.size) (.ref r) (.ref s.heap.objs.size)) _ _ _
 have lt:=Ks.there _ hok
 have key:=PySem.W.kdl_extend (A:=A) (s:={ s with heap:=s.heap.push (listNil 0) })
  (R:=λ(q:Result) (s':Shared)=>∃ (h':Heap) (tk:Nat) (acc:Array Value) (c':Nat),q=.ok (.ret (.ref s.heap.objs.size))/\s'={ s with heap:=h',toks:=tk }/\(∀ b o,s.heap.get? b=some o->h'.get? b=some o) /\
   h'.get? s.heap.objs.size=some { cls:=.type "list",dict:=none,data:=.seq acc c',slots:=#[] }/\ItemsOf Pi acc n)
  Ks hh (Ks.keep _ _ hok λb _ o e=>Yh _ e) s.heap.objs.size (Ve lt.1) (Ve lt.2) (.ref s.heap.objs.size) 0 (Yn _ rfl)
  (λh' tk acc c' hk g i1=>⟨h',tk,acc,c',rfl,rfl,λb o e=>hk b o (Ym (Ye e)) (Yh _ e),g,i1⟩) hn
 refine Yv key (λfin s' x=>?_) λe s' x=>?_
 ·cases fin with
  | done f =>
   obtain⟨h',tk,acc,c',e,rfl,hk,g,i1⟩:=x
   cases e
   show wpAny _ A (load s.heap.objs.size >>= _) _ _ _
   exact Ya (Vs g (Yc (h h' tk acc hk i1 (Yt (Ye g)))))
  | again c₁ =>
   refine⟨x.1,YS x.2 λq s₂ y=>?_⟩
   obtain⟨h',tk,acc,c',rfl,rfl,hk,g,i1⟩:=y
   show wpAny _ A (load s.heap.objs.size >>= _) _ _ _
   exact Ya (Vs g (Yc (h h' tk acc hk i1 (Yt (Ye g)))))
 ·obtain⟨_,_,_,_,e',_⟩:=x
  cases e'
end
section
variable {X:Cx}{c d:Expr}{p pos:Pos}{ta:TA}
def rSortD:List V->Hp->VK->Prop:=λxs H Q=>∃ (a:Addr) (kvs:List (Key × V)) (ss:List Str),xs=[.ref a]/\Rd H a (.dK kvs)/\(kvs.map λkv=>kV kv.1)=ss.map V.str/\ss.length < 64/\∀ l H2 (ts:List Str),H l=none->Same H H2->H2 l=some (.lst (ts.map V.str))->ts.Pairwise leS->ts.Perm ss->Q (.ref l) H2
def call_sortD(hc:X.calm=true):CallR X (.builtin "sorted") rSortD:=by
 intro pins s Z H xs us Q I r h
 obtain⟨a,kvs,ss,rfl,e,hss,hl,q⟩:=h
 obtain⟨u,rfl,ru⟩:=vals1 r
 cases ru
 obtain⟨z,hd,vs,rel,dd⟩:=dk_rd I.hok e
 obtain⟨ep,at_⟩:=dd.dictAt
 have hkl:kvs.length=ss.length:=by have:=congrArg List.length hss; simpa using this
 refine Calls.call_function_entry kind_sorted plain_sorted entry_sorted (args_sorted1 _) ?_
 unfold Builtin.«sorted»
 refine Ya (m:=checkCount "sorted" 1 1 _) (Yc ?_)
 refine Ya (collect_src (A:=X.A.in1) (kdl_dict hd) (I.ok.hd hc) at_ (by rw [<- rel.length]; exact z) λh' tk acc hk hacc hD=>?_)
 obtain⟨hs,hacc⟩:=hacc
 have hsz:acc.size=ss.length:=by rw [hs,<- rel.length,hkl]
 have hv:Vals (ss.map V.str) acc.toList:=by
  rw [<- hss]
  refine vals_of ?_ λi x u e1 e2=>?_
  ·rw [Yg,hkl,YI]; exact hsz.symm
  ·obtain⟨k,x',g1,g2⟩:=hacc i u (by simpa using e2)
   have hi:i < kvs.length:=by have:=(List.getElem?_eq_some_iff.mp e1).1; simpa using this
   obtain⟨kv,v,g3,g4⟩:=kv_get rel hi
   rw [g1] at g4
   cases g4
   rw [Yj,g3] at e1
   cases e1
   exact kV_of g2
 have hS:=vals_strs hv
 have hal:acc.toList.length < 64:=by rw [YI,hsz]; exact hl
 refine Ya (wpAny_newList ?_ (Yi (Yt hal) (by decide)))
 have hoL:(h'.push (seqObj "list" acc.toList.toArray 0)).get? h'.objs.size=some (seqObj "list" acc.toList.toArray 0):=Yn _ rfl
 refine Ya (Y3 (YW slot_list_sort ⟨_,hoL,rfl⟩ entry_list_sort (list_sort_treeK strKind_oneLt hoL hS.keysOf (λv₁ v₂ rest e=>keyKind_strs (by rw [<- e]; exact hS)) hal λst' hp hs'=>⟨_,rfl,?_⟩) (args_list_sort _)))
 obtain⟨ts,h1,h2,h3⟩:=sorted_out_str hS hp hs'
 obtain⟨c,e1⟩:=sorted_at hoL (out:=(arrOf st').map (·.2))
 have hf:H h'.objs.size=none:=I.hok.fresh hD
 have hol:ts.length<=sizeLine:=by rw [h2.length_eq]; exact Yi (Yt hl) (by decide)
 refine Yc ⟨_,rfl,?_⟩
 exact⟨.ref h'.objs.size,upd H h'.objs.size (.lst (ts.map V.str)),I.laid (t':=tk) (o:=.lst (ts.map V.str)) (λb o eb=>sorted_keep (Nat.ne_of_lt (Nat.lt_of_lt_of_le (Heap.lt_size eb) hD)) (Heap.get?_push_of_some _ (hk b o eb))) hD (show ObjOk X.prog X.w _ _ _ (.lst (ts.map V.str)) from ⟨by simpa using hol,((arrOf st').map (·.2)).toList,c,strs_vals h1,by rw [Array.toArray_toList]; exact e1⟩),rfl,q _ _ ts hf (same_new hf _) upd_same (sorted_pw h3) h2⟩
def q_sortD{e:Expr}{t:TA}(hg:Gl X "sorted")(hm:X.mg "sorted"=none)(ha:QA X [e] t)(hp:plainE e=true:=by rfl)(hc:X.calm=true:=by rfl):QE X (.Call (.Name "sorted" p) [e] [] pos) (tCB rSortD t) :=
 ⟨pe_callB (call_sortD hc) hg hm (by decide +kernel) ha.h (by decide) (by decide) (se_cons hp) rfl⟩
end
def ints_pairs:∀ {ns:List Int}{us:List Value},Vals (ns.map V.int) us->∃ ps:List (Int × Tok),us=ps.map (λp=>Value.int p.1 p.2)/\ps.map (·.1)=ns
 | [],us,h=>by cases h; exact⟨[],rfl,rfl⟩
 | n :: ns,us,h=>by
  cases h with
  | cons h1 h2 =>
   obtain⟨t,rfl⟩:=h1
   obtain⟨ps,rfl,e⟩:=ints_pairs h2
   exact⟨(n,t) :: ps,rfl,by rw [Yr,e]⟩
def preSum_take{ps:List (Int × Tok)}:∀ i,i<=ps.length->preSum (numAt ps.toArray) i=((ps.map (·.1)).take i).sum
 | 0,_=>rfl
 | i + 1,h=>by
  have hi:i < ps.length:=h
  show preSum (numAt ps.toArray) i + numAt ps.toArray i=_
  rw [preSum_take i (Yt hi),Yy,Yj,Yb hi]
  simp [numAt,hi]
section
variable {X:Cx}{e:Expr}{t:TA}{p pos:Pos}
def rSumI:List V->Hp->VK->Prop:=λxs H Q=>∃ (a:Addr) (ns:List Int),xs=[.ref a]/\H a=some (.lst (ns.map V.int))/\Q (.int ns.sum) H
def call_sumI(hc:X.calm=true):CallR X (.builtin "sum") rSumI:=by
 intro pins s Z H xs us Q I r h
 obtain⟨a,ns,rfl,e,q⟩:=h
 obtain⟨u,rfl,ru⟩:=vals1 r
 cases ru
 obtain⟨_,its,n,hv,g⟩:=I.hok a _ e
 obtain⟨ps,rfl,ens⟩:=ints_pairs hv
 have hL:s.heap.IsList a (intItems ps.toArray):=⟨_,g,rfl,n,by simp [intItems]⟩
 refine call_sum_walkG (iter_intList hL λs₂ es st hfp hlI=>?_)
 subst es
 refine⟨_,_,_,_,_,_,numAt ps.toArray,rfl,Walks.list (A:=X.A.in1) (I.ok.hd hc) _ a hlI (intItems ps.toArray),st,hfp,(λ_ _=>intItems_at),λh' tk t' hk=>?_⟩
 have hsz:(intItems ps.toArray).size=ps.length:=by simp [intItems]
 rw [hsz,preSum_take _ (Yd _),ens,List.take_of_length_le (by rw [<- ens,Yg]; exact Yd _)]
 exact⟨.int ns.sum,H,I.kept (old_kept hk),⟨t',rfl⟩,q⟩
def q_sumI(hg:Gl X "sum")(hm:X.mg "sum"=none)(ha:QA X [e] t)(hp:plainE e=true:=by rfl)(hc:X.calm=true:=by rfl):QE X (.Call (.Name "sum" p) [e] [] pos) (tCB rSumI t) :=
 ⟨pe_callB (call_sumI hc) hg hm (by decide +kernel) ha.h (by decide) (by decide) (se_cons hp) rfl⟩
end
section
variable {X:Cx}{pins:List (Addr × Obj)}{Z:St}{H:Hp}{s:Shared}{a:Addr}{kvs:List (Key × V)}
end
section
variable {X:Cx}{o e f:Expr}{apos cpos:Pos}{td ty tx:TE}
end
section
variable {X:Cx}{a b:Expr}{p2 pos:Pos}{tx tb:TE}
def q_cutRL(ha:QE X a tx)(hb:QE X b tb):QE X (.Subscript a (.Slice (some b) none none p2) pos) (tSl (rSlL X.K) tx (tPart tb) tNoPart):=⟨pe_slice sl_list ha.h (po_some hb.h) po_none⟩
end
end My
set_option maxHeartbeats 4000000
namespace L2
open PySem PySem.Spec PyProof.Rows PySem.W
def TabAt(H:Hp)(P:Addr)(q:Str):Prop:=∃ t,H P=some (.tbl #[.str q t])
def BltMod(mg:Str->Option Value)(h:Heap):Prop:=∃ bm o,mg "__builtins__"=some (.ref bm)/\bm ≠ builtinsNs/\h.get? bm=some o/\o.cls=.type "module"/\o.dict=some builtinsNs/\o.data=.plain
def law_callT{P:Program}{w:World}{K:PySem.W.Frag}{mg mb:Str->Option Value}{CX:CXT}{k:Nat}{fa a:Addr}{fd:FuncData}{x:Str}{sp:Sp}{s₁:Shared}{vs:List Value}{ns:List Int}{T:Addr->Option Str}
  (KX:K.In s₁.heap) (hns:s₁.heap.Ns mainGlobals mg) (hb:s₁.heap.Ns builtinsNs mb) (hbb:∀ x:Str,x ≠ "__name__"->mb x=bootBuiltins x) (hlim:s₁.heap.NoLimit) (hg:s₁.gens=#[])
  (ha:s₁.heap.get? a=some { cls:=.type "list",data:=.seq vs.toArray }) (hi:IntsAre vs ns) (hl:ns.length<=sizeLine) (hr:Room k callerA)
  (hT:∀ b q,T b=some q->(∃ c,CodeHd s₁.heap c b)/\s₁.heap.get? b=some (tabObj #[])) (hKT:∀ b q,T b=some q->K.lookup b=none)
  (hB:BltMod mg s₁.heap) (F:∀ base:Heap,K.In base->base.Ns mainGlobals mg->BltMod mg base->FnOk P w K mg base CX k fa fd [x] sp) (hbind:∀ (s:Shared) (u:Value),BindsTo s fd ⟨[u],[]⟩ [(x,u)])
  (hsp:∀ H:Hp,(∀ b q,T b=some q->TabAt H b q)->SqL K H a (ns.map V.int)->sp [.ref a] H (λv _=>v=.bl true) λ_ _ _=>False)
  (hCX:∀ H e s',CX [] H s₁ (λ_ _ _=>False) e s'->False) :
  codeAny (model P w) callerA (.call (.ref fa) ⟨[.ref a],[]⟩) (λr s'=>r=.ok (.ret (.bool true))/\OldK s₁.heap s'.heap/\s'.os=s₁.os/\AllBare s'.gens) s₁:=by
 have rv:=vals_ints hi
 have lenV:=hi.length
 let so:Obj:={ cls:=.type "list",data:=.seq vs.toArray }
 have hTa:T a=none:=by
  cases q:T a with
  | none=>rfl
  | some z =>
   have e:=(hT a z q).2
   rw [ha] at e
   cases e
 -- what may be tracked: the script,or a table
 have core:∀ H:Hp,(∀ b u,H b=some u->(b=a/\K.lookup a=none/\u=.frz so (.lst (ns.map V.int)))\/∃ q,T b=some q/\u=.tbl #[.str q 0])->(∀ b q,T b=some q->TabAt H b q)->SqL K H a (ns.map V.int) ->
   codeAny (model P w) callerA (.call (.ref fa) ⟨[.ref a],[]⟩) (λr s'=>r=.ok (.ret (.bool true))/\OldK s₁.heap s'.heap/\s'.os=s₁.os/\AllBare s'.gens) s₁:=by
  intro H hO hTH hS
  have hok:HOk P w H s₁.heap:=λb u e=>by
   rcases hO b u e with ⟨rfl,_,rfl⟩ | ⟨q,hq,rfl⟩
   ·exact⟨ha,by rw [Yg]; exact hl,vs,_,rv,ha⟩
   ·exact⟨#[],(hT b q hq).2,trivial,λpos v z=>by cases z⟩
  have free:∀ {b:Addr}{o:Obj},s₁.heap.get? b=some o->(∀ xs n,o.data ≠ .seq xs n)->(∀ ps,o.data ≠ .fields ps)->H b=none:=λ{b o} e d1 d2=>by
   cases q:H b with
   | none=>rfl
   | some u =>
    rcases hO b u q with ⟨rfl,_,_⟩ | ⟨z,hz,_⟩
    ·rw [ha] at e; cases e; exact absurd rfl (d1 _ _)
    ·rw [(hT b z hz).2] at e; cases e; exact absurd rfl (d2 _)
  have nsK:∀ {b:Addr}{m:Str->Option Value},s₁.heap.Ns b m->(hidT s₁.heap H).Ns b m:=λ{b m} ⟨o,es,ep,e,d,r⟩ =>
   ⟨o,es,ep,hidT_get e (free e (λ_ _ z=>by rw [d] at z; cases z) λ_ z=>by rw [d] at z; cases z),d,r⟩
  have hKb:K.In (hidT s₁.heap H):=λb o e=>hidT_get (KX b o e) (by
   cases q:H b with
   | none=>rfl
   | some u =>
    rcases hO b u q with ⟨rfl,z,_⟩ | ⟨z,hz,_⟩
    ·rw [z] at e; cases e
    ·rw [hKT b z hz] at e; cases e)
  have hM:Mod K mg (hidT s₁.heap H):=⟨hKb,nsK hns,⟨mb,nsK hb,hbb⟩,let ⟨mc,h1,h2⟩:=hlim; ⟨mc,nsK h1,h2⟩⟩
  have hBb:BltMod mg (hidT s₁.heap H):=by
   obtain⟨bm,o,b1,b2,b3,b4,b5,b6⟩:=hB
   exact⟨bm,o,b1,b2,hidT_get b3 (free b3 (λ_ _ z=>by rw [b6] at z; cases z) λ_ z=>by rw [b6] at z; cases z),b4,b5,b6⟩
  have e0:Env0 P w K mg (hidT s₁.heap H) callerA [] s₁ H:=⟨rfl,hM,λb o e=>of_hidT e,Nat.le_of_eq (hidT_size _ _),trivial,λb hb=>absurd (show b∈([]:List Addr) from hb) (by simp),hok,.of_eq hg⟩
  refine YS ((F _ hKb (nsK hns) hBb).run callerA [] s₁ H ⟨[.ref a],[]⟩ [.ref a] [.ref a] _ _ hr e0 (hbind s₁ (.ref a)) (.cons rfl .nil) (hsp H hTH hS)) λr s' h=>?_
  match r,h with
  | .error e,h=>exact (hCX H e s' h).elim
  | .ok .next,h=>exact False.elim h
  | .ok .brk,h=>exact False.elim h
  | .ok .cont,h=>exact False.elim h
  | .ok (.ret u),h =>
   obtain⟨v,H',os,bare,un,hok',r',q⟩:=h
   have q':v=.bl true:=q
   subst q'
   obtain rfl:u=Value.bool true:=r'
   have kept:∀ b o,s₁.heap.get? b=some o->s'.heap.get? b=some o\/∃ ps,o=tabObj #[]/\isCodeTable s₁.heap b/\s'.heap.get? b=some (tabObj ps):=λb o e=>by
    cases q:H b with
    | none=>exact .inl (un.keep b o e q (by intro z; exact absurd (show b∈([]:List Addr) from z) (by simp)) (by simp))
    | some u =>
     rcases hO b u q with ⟨rfl,_,rfl⟩ | ⟨z,hz,rfl⟩
     ·obtain⟨e2,_⟩:=hok' b _ (un.frzs b _ _ q)
      rw [ha] at e
      cases e
      exact .inl e2
     ·obtain⟨more,q2⟩:=un.tbls b _ q
      obtain⟨ps,e2,_⟩:=hok' b _ q2
      obtain⟨⟨c,hc⟩,e3⟩:=hT b z hz
      rw [e3] at e
      cases e
      exact .inr ⟨ps,rfl,(hc.tab e3).isCodeTable,e2⟩
   refine⟨rfl,⟨λb o e=>?_,λb o e=>?_⟩,os,bare⟩
   ·rcases kept b o e with z | ⟨ps,rfl,ht,z⟩
    ·exact .inl z
    ·exact .inr (.inl ⟨ht,rfl,#[],ps,rfl,by rw [Array.empty_append]; exact z⟩)
   ·rcases kept b o e with z | ⟨ps,rfl,ht,z⟩
    ·exact⟨o,z⟩
    ·exact⟨_,z⟩
 cases hk:K.lookup a with
 | some o =>
  have e:=KX a o hk
  rw [ha] at e
  cases e
  refine core (λb=>(T b).map λq=>.tbl #[.str q 0]) (λb u z=>?_) (λb q z=>⟨0,by simp [z]⟩) (.inr ⟨_,vs.toArray,_,hk,rfl,rfl,rfl,by rw [List.size_toArray,lenV]; exact hl,by simpa using rv⟩)
  obtain⟨q,h1,h2⟩:=Vh.mp z
  exact .inr ⟨q,h1,h2.symm⟩
 | none =>
  refine core (λb=>if b=a then some (.frz so (.lst (ns.map V.int))) else (T b).map λq=>.tbl #[.str q 0]) (λb u z=>?_) (λb q z=>⟨0,?_⟩) (.inl (.inr ⟨so,if_pos rfl⟩))
  ·by_cases hb:b=a
   ·have z':=(if_pos hb).symm.trans z
    cases z'
    exact .inl ⟨hb,hk,rfl⟩
   ·have z':=(if_neg hb).symm.trans z
    obtain⟨q,h1,h2⟩:=Vh.mp z'
    exact .inr ⟨q,h1,h2.symm⟩
  ·have hb:b ≠ a:=λe=>by rw [e,hTa] at z; cases z
   show (if b=a then some (HO.frz so (.lst (ns.map V.int))) else (T b).map λq=>.tbl #[.str q 0])=_
   rw [if_neg hb,z]
   rfl
def among_snoc(pos pos':Pos)(c:Value)(l:List Value)(h:TriplesOk l)(v:Value)(e:codeAmong pos' (l ++ [rawInt pos.line,rawInt pos.col,c])=some v):codeAmong pos' l=some v\/v=c:=by
 fun_induction TriplesOk l with
 | case1 =>
  simp only [List.nil_append,codeAmong,rawInt] at e
  split at e
  ·cases e; exact .inr rfl
  ·cases e
 | case2 a t b u x rest ih =>
  simp only [List.cons_append,codeAmong] at e ⊢
  split at e
  ·rename_i q
   rw [if_pos q]
   exact .inl e
  ·rename_i q
   rw [if_neg q]
   exact ih h e
 | case3=>exact h.elim
def tLam(P:Addr)(q:Str)(clos:List (Str × Addr))(params:Arguments)(body:Expr)(scope:Scope):TE:=λ_ H Q =>
 ∃ t,H P=some (.tbl #[.str q t])/\∀ (f c':Addr) (oc:Obj) (pm ctv:Value) (vs:Array Value) (t':Tok) (H2:Hp),H f=none->H2 f=some (.frz (kla_obj "<lambda>" q params body scope clos pm c' ctv) (.own P)) ->
  H2 c'=some (.frz oc (.own P))->oc.data=.fields vs->vs[1]?=some (.str q t')->Same H H2->Q (.ref f) H2
def pe_lam{X:Cx}{params:Arguments}{body:Expr}{scope:Scope}{pos:Pos}{c P:Addr}{q:Str}{clos:List (Str × Addr)}(hdef:defaultsOf params X.env=([],[]))(hcl:closureFor scope X.env=pure clos)(hcode:X.env.code=.ref c)
  (hC:CodeHd X.base c P) (hb:X.base.BuiltinsAt X.mg P) (hq:X.env.qual ++ "<lambda>"=q):PE X (.Lambda params body scope pos) (tLam P q clos params body scope):=by
 intro pins s Z H Q I ⟨t,hP,k⟩
 subst hq
 obtain⟨qs,e,ht,hf⟩:=I.hok P _ hP
 have hgs:s.heap.Ns mainGlobals X.mg:=I.ok.mod.glob.keeps I.bk
 obtain⟨bm,ob,b1,b2,b3,b4,b5,b6⟩:=hb
 have hb':s.heap.BuiltinsAt X.mg P:=⟨bm,ob,b1,b2,b3,b4,I.bk _ _ b5,b6⟩
 have hgP:mainGlobals ≠ P:=λz=>by
  obtain⟨o,es,ep,e1,_⟩:=I.ok.mod.glob
  have:=(I.bs _ _ e1).2
  rw [z,hP] at this
  cases this
 have same:∀ {f:Addr}{u:HO},H f=none->Same H (upd H f u):=λh b o z=>by rw [upd_ne (ne_of_none z h)]; exact z
 cases hn:codeAmong pos qs.toList with
 | some v =>
  obtain⟨c',oc,vs,q0,t0,t1,rfl,h1,h2,h3,h4⟩:=hf pos v hn
  have hq0:q0=X.env.qual ++ "<lambda>":=by
   have h5:some (Value.str (X.env.qual ++ "<lambda>") t)=some (.str q0 t1):=h4
   cases h5
   rfl
  subst hq0
  refine kla_eval hdef (kla_makeFunctionHit (mg:=X.mg) hcl I.ok.glob hgs hcode (hC.keeps I.bk) e ht hn hb' λctv h' tk hk hsz=>?_)
  have hF:H h'.objs.size=none:=I.hok.fresh hsz
  refine⟨.ref h'.objs.size,upd H h'.objs.size (.frz _ (.own P)),I.laid (t':=tk) (λb o z=>Yh _ (hk b o z)) hsz ⟨Yn _ rfl,⟨_,Yn _ rfl⟩⟩,rfl,?_⟩
  exact k _ c' oc _ ctv vs t0 _ hF upd_same (same hF _ _ h1) h2 h3 (same hF)
 | none =>
  refine kla_eval hdef (kla_makeFunction (mg:=X.mg) hcl I.ok.glob hgs hcode (hC.keeps I.bk) e ht hn hgP hb' λc' ctv h' tk hx hge hlt hrec htb=>?_)
  obtain⟨c2,oc,vs,t2,e2,hoc,hd,hv⟩:=hrec
  cases e2
  have hc:H c'=none:=I.hok.fresh hge
  have hF0:s.heap.objs.size<=h'.objs.size:=Yi hge (Yt hlt)
  have hF:H h'.objs.size=none:=I.hok.fresh hF0
  have hne:c' ≠ h'.objs.size:=Ym hlt
  let fo:Obj:=kla_obj "<lambda>" (X.env.qual ++ "<lambda>") params body scope clos ((X.mg "__name__").getD .none) c' ctv
  let H1:Hp:=upd H c' (.frz oc (.own P))
  let H2:Hp:=upd H1 h'.objs.size (.frz fo (.own P))
  have hF1:H1 h'.objs.size=none:=by show upd H c' _ _=_; rw [upd_ne (Ne.symm hne)]; exact hF
  have old:∀ b o,H b=some o->H2 b=some o:=λb o z=>by
   show upd H1 _ _ b=_
   rw [upd_ne (ne_of_none (same hc b o z) hF1)]
   exact same hc b o z
  have keep:∀ b u,b ≠ P->s.heap.get? b=some u->(h'.push fo).get? b=some u:=λb u hb z=>Yh _ (hx b u hb z)
  have neP:∀ b,H b=none->b ≠ P:=λb z w=>by rw [w,hP] at z; cases z
  have atc:H2 c'=some (.frz oc (.own P)):=by show upd H1 _ _ c'=_; rw [upd_ne hne]; exact upd_same
  have tab:(h'.push fo).get? P=some (tabObj (qs ++ #[rawInt pos.line,rawInt pos.col,.ref c'])):=Yh _ htb
  have un:Un X.fs [] H H2 s.heap (h'.push fo):=⟨λb o z n _ _=>keep b o (neP b n) z,λb o z n _ _=>⟨o.slots,keep b o (neP b n) z⟩,λb o z n _=>by
    have hlt:b < s.heap.objs.size:=Ye z
    show upd H1 _ _ b=_
    rw [upd_ne (Ym (Yw hlt hF0))]
    show upd H _ _ b=_
    rw [upd_ne (Ym (Yw hlt hge))]
    exact n,λb o z _=>by
    by_cases w:b=P
    ·subst w; exact⟨_,tab⟩
    ·exact⟨o,keep b o w z⟩,λb xs z=>old b _ z,λb o u z=>old b _ z,λb ps z=>⟨#[],by rw [Array.append_empty]; exact old b _ z⟩⟩
  have hok:HOk X.prog X.w H2 (h'.push fo):=λb u z=>by
   by_cases w1:b=h'.objs.size
   ·subst w1
    have z':some (HO.frz fo (.own P))=some u:=upd_same.symm.trans z
    cases z'
    exact⟨Yn _ rfl,⟨_,Yn _ rfl⟩⟩
   ·by_cases w2:b=c'
    ·subst w2
     rw [atc] at z
     cases z
     exact⟨Yh _ hoc,⟨_,Yh _ hoc⟩⟩
    ·have z':H b=some u:=by
      have z2:upd H1 h'.objs.size (.frz fo (.own P)) b=some u:=z
      rw [upd_ne w1] at z2
      have z3:upd H c' (.frz oc (.own P)) b=some u:=z2
      rw [upd_ne w2] at z3
      exact z3
     by_cases w3:b=P
     ·subst w3
      rw [hP] at z'
      cases z'
      refine⟨_,tab,?_,λpos' v g=>?_⟩
      ·rw [Array.toList_append]; exact TriplesOk_snoc _ _ _ _ ht
      ·rw [Array.toList_append] at g
       rcases among_snoc pos pos' _ _ ht v g with g | g
       ·obtain⟨c3,o3,v3,q3,t3,t4,g1,g2,g3⟩:=hf pos' v g
        exact⟨c3,o3,v3,q3,t3,t4,g1,old _ _ g2,g3⟩
       ·exact⟨c',oc,vs,_,t2,t,g,atc,hd,hv,rfl⟩
     ·refine (I.hok b u z').stay (λx v hxx g=>keep x v (λw=>?_) g) (λx g=>old x _ g) (λx xs g=>old x _ g) λx o g=>old x _ g
      rcases hxx with w4 | w4
      ·exact w3 (w4.symm.trans w)
      ·rw [w,hP] at w4
       cases w4
  exact⟨.ref h'.objs.size,H2,I.un (t':=tk) un hok,rfl,k _ c' oc _ ctv vs t2 H2 hF upd_same atc hd hv old⟩
theorem lookup_zip_rev{u:Value}{y:Str}:∀ {ps:List Str}{us:List Value}{i:Nat},ps.Nodup->us.length=ps.length->ps[i]?=some y->us[i]?=some u->(ps.zip us).reverse.lookup y=some u
 | [],_,_,_,_,h,_=>by simp at h
 | _ :: _,[],_,_,h,_,_=>by simp at h
 | p :: ps,v :: us,0,nd,_,h1,h2=>by
  simp at h1 h2
  subst h1 h2
  rw [List.zip_cons_cons,List.reverse_cons]
  have:(ps.zip us).reverse.lookup p=none:=by
   rw [List.lookup_eq_none_iff]
   intro z hz
   have hz':=(VM (a:=z.1) (b:=z.2) (List.mem_reverse.mp hz)).1
   simp only [beq_eq_false_iff_ne,ne_eq,Bool.not_eq_true,bne_iff_ne]
   intro e
   exact (Va.mp nd).1 (by rw [e]; exact hz')
  rw [List.lookup_append,this]
  simp
 | p :: ps,v :: us,i + 1,nd,hl,h1,h2=>by
  rw [List.zip_cons_cons,List.reverse_cons,List.lookup_append,lookup_zip_rev (List.nodup_cons.mp nd).2 (by simpa using hl) (by simpa using h1) (by simpa using h2)]
  rfl
def lamCx(CX:CXT)(P:Program)(w:World)(K:PySem.W.Frag)(mg:Str->Option Value)(base:Heap)(N:List Str)(q:Str)(scope:Scope)(f c':Addr)(clos:List (Str × Addr))(A:Around)(outer:List Env)(s:Shared)(H:Hp)(E:XK):Cx where
 prog:=P
 w:=w
 K:=K
 mg:=mg
 base:=base
 A:=A.deeper (envX q scope s.heap.objs.size f (.ref c') clos)
 N:=N
 s₀:=s
 H₀:=H
 env:=envX q scope s.heap.objs.size f (.ref c') clos
 outer:=outer
 stack:=envX q scope s.heap.objs.size f (.ref c') clos :: outer
 ex:=[]
 calm:=true
 fn:=λ_=>false
 pn:=[]
 xe:=λe s'=>wpAny (model P w) (A.deeper (envX q scope s.heap.objs.size f (.ref c') clos)) (leaving (envX q scope s.heap.objs.size f (.ref c') clos) e) (λ_ s''=>CX outer H s E e s'') (λe' s''=>CX outer H s E e' s'') s'
structure LamScope(ps fs:List Str)(sc:Scope)(clos:List (Str × Addr)):Prop where
 kind:sc.kind=.function
 co:sc.isCoroutine=false
 gen:sc.isGenerator=false
 nd:(ps ++ fs).Nodup
 par:∀ x∈ps,sc.names.lookup x=some .local
 fre:∀ x∈fs,sc.names.lookup x=some .free
 nocell:∀ y∈sc.names,y.2 ≠ .cell
 has:∀ y,sc.names.lookup y=some .free->∃ c,clos.lookup y=some c
structure Frees(fs:List Str)(ws:List V)(clos:List (Str × Addr))(outer:List Env)(H:Hp)(h:Heap):Prop where
 len:fs.length=ws.length
 val:∀ (i:Nat) (x:Str) (v:V),fs[i]?=some x->ws[i]?=some v->∃ c u,clos.lookup x=some c/\RelV v u/\h.IsCell c (some u)
 cell:∀ x c,clos.lookup x=some c->(∃ v,h.IsCell c v)/\H c=none
 inj:∀ x y c,clos.lookup x=some c->clos.lookup y=some c->x=y
def lam_of{CX:CXT}{P:Program}{w:World}{K:PySem.W.Frag}{mg:Str->Option Value}{base:Heap}{k:Nat}{f c':Addr}{q:Str}{params:Arguments}{body:Expr}{scope:Scope}{clos:List (Str × Addr)}{pm ctv:Value}{ps fs:List Str}
  {A:Around}{outer:List Env}{s:Shared}{H:Hp}{args:Args}{us:List Value}{vs ws:List V}{Q:VK}{E:XK}{t:TE}
  (hr:Room (k + 1) A) (e0:Env0 P w K mg base A outer s H) (ho:s.heap.get? f=some (kla_obj "<lambda>" q params body scope clos pm c' ctv)) (hcd:s.heap.CodeRec (.ref c') q)
  (hbind:bindArgs (kla_fn "<lambda>" q params body scope clos pm (.ref c') ctv) args=pure (ps.zip us)) (hl:vs.length=ps.length) (r:Vals vs us) (S:LamScope ps fs scope clos) (W:Frees fs ws clos outer H s.heap)
  (hbody:PE (lamCx CX P w K mg base (ps ++ fs) q scope f c' clos A outer s H E) body t) (hq:t ((vs ++ ws).map some) H Q):codeAny (model P w) A (.call (.ref f) args) (CR CX outer P w H s Q E) s:=by
 have lim:s.heap.NoLimit:=e0.mod.nolimit.keeps λb o e=>(e0.bs b o e).1
 have hlu:us.length=ps.length:=by rw [<- r.length]; exact hl
 refine kla_callFunE (by have:=hr.dp; omega) ho rfl S.co S.gen rfl hcd ?_
 rw [hbind]
 refine Yc (wpAny_newFunctionEnv S.nocell (λy hy=>S.par _ (VM hy).1) (λh₁ hns hsb=>⟨lim.fresh _ hsb,?_⟩) S.kind)
 show codeAny _ _ (.expr body (envX q scope s.heap.objs.size f (.ref c') clos)) _ _
 have hk:∀ b o,s.heap.get? b=some o->h₁.get? b=some o:=λb o e=>hsb.extBut b o (Ym (Ye e)) (Yh _ e)
 have I:Inv (lamCx CX P w K mg base (ps ++ fs) q scope f c' clos A outer s H E) [] ((vs ++ ws).map some) H { s with heap:=h₁,toks:=s.toks + (ps.zip us).length }:=by
  have noA:∀ b:Addr,b ∉ (lamCx CX P w K mg base (ps ++ fs) q scope f c' clos A outer s H E).ex:=λb z=>absurd (show b∈([]:List Addr) from z) (by simp)
  refine⟨⟨e0.mod,S.kind,rfl,rfl,Yd _,W.inj,λy hy=>?_,λy c z _=>absurd z Yu,λ_=>hr.hd,Around.frames_deeper e0.frames,.inr ⟨rfl,rfl⟩,λb z=>absurd z (noA b),e0.bs,e0.bsz,λb _ _=>noA b,λb z=>absurd z (noA b),e0.funs,e0.frf⟩,
   rfl,e0.bare,Un.kept hk,⟨_,hns,λi y v h1 h2 h3=>?_⟩,λy c h=>?_,e0.hok.fresh (Nat.le_refl _),λy c h=>(W.cell y c h).2,λp hp=>absurd (show p∈([]:List (Addr × Obj)) from hp) (by simp),e0.hok.kept hk,?_⟩
  ·have hy:scope.names.lookup y=some .cell\/scope.names.lookup y=some .free:=hy
   rcases hy with hy | hy
   ·exact absurd rfl (S.nocell _ (YV hy))
   ·exact S.has y hy
  ·have h1:(ps ++ fs)[i]?=some y:=h1
   rw [Yj] at h2
   obtain⟨v',h2,h4⟩:=Vh.mp h2
   cases h4
   by_cases hi:i < ps.length
   ·rw [YC hi] at h1
    rw [YC (by omega)] at h2
    obtain⟨u,hu,rv⟩:=r.get h2
    refine⟨u,rv,.inl ⟨S.par y (Yo h1),?_⟩⟩
    have nd:ps.Nodup:=(Vn.mp S.nd).1
    exact lookup_zip_rev nd hlu h1 hu
   ·rw [YA (by omega)] at h1
    rw [YA (by omega),hl] at h2
    obtain⟨c,u,g1,g2,g3⟩:=W.val _ y v h1 h2
    obtain⟨o,g4,g5⟩:=g3
    exact⟨u,g2,.inr ⟨.inr (S.fre y (Yo h1)),c,g1,o,hk _ _ g4,g5⟩⟩
  ·obtain⟨⟨v,o,g1,g2⟩,_⟩:=W.cell y c h
   exact⟨v,o,hk _ _ g1,g2⟩
  ·show ((vs ++ ws).map some).length=(ps ++ fs).length
   rw [Yg,YE,YE,hl,W.len]
 refine kla_codeExpr (Yv (hbody [] _ _ H Q I hq) (λv s' hs=>?_) λe s' hs=>hs)
 obtain⟨x,H',J,rv,g⟩:=hs
 exact⟨x,H',J.os,J.bare,J.base,J.hok,rv,g⟩
end L2
namespace My
open PySem PySem.Spec L2
open PyProof.Rows hiding St
def led3(h:Heap)(ex:List Addr):List (Addr × Obj):=(List.range h.objs.size).filterMap λa=>if a∈ex then none else (h.get? a).map λo=>(a,o)
theorem mem_led3{h:Heap}{ex:List Addr}{a:Addr}{o:Obj}:(a,o)∈led3 h ex ↔ a ∉ ex/\h.get? a=some o:=by
 unfold led3
 rw [List.mem_filterMap]
 constructor
 ·rintro⟨b,_,e⟩
  split at e
  ·cases e
  ·rename_i hb
   obtain⟨o',ho,e'⟩:=Vh.mp e
   cases e'
   exact⟨hb,ho⟩
 ·rintro⟨n1,ho⟩
  refine⟨a,YL.mpr (Ye ho),?_⟩
  rw [if_neg n1,ho] <;> rfl
def SortedK(b:Bool)(ks:List Int)(xs ys:List V):Prop:=∃ ps:List (Int × V),ps.Perm (ks.zip xs)/\ys=ps.map Prod.snd/\ps.Pairwise (λp q=>if b then q.1<=p.1 else p.1<=q.1)
def perm_vals{zs:List (Int × V)}{ws ps:List (Int × Value)}(h:Paired (λ(p:Int × V) (q:Int × Value)=>p.1=q.1/\RelV p.2 q.2) zs ws)(p:ps.Perm ws):∃ qs:List (Int × V),qs.Perm zs/\Paired (λ(p:Int × V) (q:Int × Value)=>p.1=q.1/\RelV p.2 q.2) qs ps:=by
 induction p generalizing zs with
 | nil=>exact⟨zs,.refl _,h⟩
 | @cons x l1 l2 _ ih =>
  cases h with
  | @cons a b as bs h1 h2 =>
   obtain⟨qs,g1,g2⟩:=ih h2
   exact⟨_ :: qs,.cons _ g1,.cons h1 g2⟩
 | @swap x y l =>
  cases h with
  | @cons a b as bs h1 h2 =>
   cases h2 with
   | @cons c d cs ds h3 h4=>exact⟨_,.swap _ _ _,.cons h3 (.cons h1 h4)⟩
 | @trans l1 l2 l3 _ _ ih1 ih2 =>
  obtain⟨q2,g1,g2⟩:=ih2 h
  obtain⟨q1,g3,g4⟩:=ih1 g2
  exact⟨q1,g3.trans g1,g4⟩
def zip_vals:∀ {ks:List Int}{xs:List V}{vs:List Value},Vals xs vs->Paired (λ(p:Int × V) (q:Int × Value)=>p.1=q.1/\RelV p.2 q.2) (ks.zip xs) (ks.zip vs)
 | [],_,_,_=>by rw [List.zip_nil_left,List.zip_nil_left]; exact .nil
 | _ :: _,_,_,.nil=>.nil
 | k :: ks,_,_,.cons h1 h2=>.cons ⟨rfl,h1⟩ (zip_vals h2)
def out_vals{b:Bool}{ks:List Int}{xs:List V}{vs out:List Value}(hv:Vals xs vs)(h:KskOut b ks vs out):∃ ys,Vals ys out/\SortedK b ks xs ys:=by
 obtain⟨ps,h1,rfl,h3⟩:=h
 obtain⟨qs,g1,g2⟩:=perm_vals (zip_vals (ks:=ks) hv) h1
 refine⟨qs.map Prod.snd,?_,qs,g1,rfl,?_⟩
 ·clear h1 h3 g1
  induction g2 with
  | nil=>exact .nil
  | cons h _ ih=>exact .cons h.2 ih
 ·clear h1 g1
  induction g2 with
  | nil=>exact .nil
  | @cons p q ps' qs' h t ih =>
   rw [List.pairwise_cons] at h3 ⊢
   refine⟨λx hx=>?_,ih h3.2⟩
   have:∃ y∈qs',x.1=y.1:=by
    clear ih h3
    induction t with
    | nil=>cases hx
    | cons h' _ ih' =>
     rcases Yl.mp hx with rfl | hx
     ·exact⟨_,Vl ..,h'.1⟩
     ·obtain⟨y,hy,e⟩:=ih' hx
      exact⟨y,YZ _ hy,e⟩
   obtain⟨y,hy,e⟩:=this
   have:=h3.1 y hy
   rw [h.1,e]
   exact this
section
variable {X:Cx}{pins:List (Addr × Obj)}{Z:St}{H:Hp}{s:Shared}{l:Addr}{xs:List V}{ks:List Int}{b:Bool}{f:Value}{kw:List (Str × Value)}{E:VSP}{Q:VSP}
def sort_end{D kS:Addr}{oK oD:Obj}{H1:Hp}{s1:Shared}{h':Heap}{tk c:Nat}{out:Array Value}{ys:List V}(I:Inv X (pins ++ [(kS,oK),(D,oD)]) Z H1 s1)(fD:FpOk X pins H1 D)(fK:FpOk X pins H1 kS)
  (ns:∀ m,s1.heap.Ns X.env.locals m->h'.Ns X.env.locals m) (kp:∀ a o,a ≠ X.env.locals->a ≠ kS->a ≠ D->s1.heap.get? a=some o->h'.get? a=some o) (eD:h'.get? D=some (seqObj "list" out c)) (hz:ys.length<=sizeLine) (hv:Vals ys out.toList) :
  Inv X pins Z (upd H1 D (.lst ys)) { s1 with heap:=h',toks:=tk }:=by
 have I0:Inv X pins Z H1 s1:=I.unpinned
 have ne:∀ {a:Addr}{o:HO},H1 a=some o->a ≠ D/\a ≠ kS:=λe=>⟨ne_of_none e fD.1,ne_of_none e fK.1⟩
 have off:∀ {a:Addr}{o:HO},H1 a=some o->upd H1 D (.lst ys) a=some o:=λe=>by rw [upd_ne (ne e).1]; exact e
 refine I0.step (g':=s1.gens) (d':=s1.drawn) (t':=tk) (ch:=[kS,D]) (λa ha=>?_) (λa o h1 _ hc e _=>?_) (λa o h1 _ hc e _=>?_) (λa o hc e n=>?_) (λa o hc e=>?_) (λa zs e=>off e) (λa o u e=>off e) (λa ps e=>⟨#[],by rw [Array.append_empty]; exact off e⟩) ns (λa u e=>?_) I0.bare
 ·rcases Yl.mp ha with rfl | ha
  ·exact⟨fK.2.2.2.1,fK.2.1,fK.2.2.2.2.1,fK.2.2.2.2.2⟩
  ·rw [YB.mp ha]
   exact⟨fD.2.2.2.1,fD.2.1,fD.2.2.2.2.1,fD.2.2.2.2.2⟩
 ·exact kp a o h1 (λz=>hc (by simp [z])) (λz=>hc (by simp [z])) e
 ·exact⟨o.slots,kp a o h1 (λz=>hc (by simp [z])) (λz=>hc (by simp [z])) e⟩
 ·rw [upd_ne (λz=>hc (by simp [z]))]
  exact n
 ·by_cases z:a=X.env.locals
  ·subst z
   obtain⟨m,hn,_⟩:=I0.loc
   obtain⟨o',_,_,e',_⟩:=ns m hn
   exact⟨o',e'⟩
  ·exact⟨o,kp a o z (λz=>hc (by simp [z])) (λz=>hc (by simp [z])) e⟩
 ·by_cases z:a=D
  ·subst z
   rw [upd_same] at e
   cases e
   exact⟨hz,out.toList,c,hv,by simpa using eD⟩
  ·rw [upd_ne z] at e
   have trk:∀ c':Addr,(c'=a\/H1 c'=some (.own a))->c' ≠ X.env.locals/\c' ≠ kS/\c' ≠ D:=λc' hc=>by
    have:∃ o',H1 c'=some o':=by
     rcases hc with rfl | hc
     ·exact⟨_,e⟩
     ·exact⟨_,hc⟩
    obtain⟨o',e'⟩:=this
    exact⟨(λw=>by rw [w,I0.free] at e'; cases e'),(ne e').2,(ne e').1⟩
   refine (I0.hok a u e).stay (λc' v hc q=>?_) (λc' q=>off q) (λc' zs q=>off q) λc' o q=>off q
   obtain⟨n1,n2,n3⟩:=trk c' hc
   exact kp c' v n1 n2 n3 q
def key_rest{D kS:Addr}{e1:Nat}{vs:List Value}{P:PySem.Fin->Shared->Prop}{s0:Shared}{H0:Hp}(I:Inv X (pins ++ [(kS,seqObj "list" #[] 0),(D,seqObj "list" #[] e1)]) Z H0 s0)(sH:Same H H0)(hHD:H D=none)(fD:FpOk X pins H0 D)(fK:FpOk X pins H0 kS)(hDK:kS ≠ D)(hv:Vals xs vs)(hlen:ks.length=xs.length)(h64:xs.length < 64)
  (turn:∀ (i:Nat) (x:V) (k:Int),xs[i]?=some x->ks[i]?=some k->∀ (pins':List (Addr × Obj)) (H':Hp) (s':Shared) (u:Value),Inv X pins' Z H' s'->Same H H'->RelV x u ->
   wpAny (model X.prog X.w) X.A.in1.in1 (call f [u]) (λv s''=>∃ t H'',v=.int k t/\Inv X pins' Z H'' s''/\Same H' H'') (λ_ _=>False) s')
  (h:∀ (H':Hp) (s':Shared) (ys:List V),Inv X pins Z H' s'->Same H H'->H' D=some (.lst ys)->SortedK b ks xs ys->P (.done (.ret .none)) s') :
  wpAny (model X.prog X.w) X.A.in1.in1 (ksk_rest D f b vs.toArray e1 (.ref kS)) P E s0:=by
 have hvl:vs.length=xs.length:=hv.length.symm
 have mK:∀ {oK oD:Obj},(kS,oK)∈X.pn ++ (pins ++ [(kS,oK),(D,oD)]):=Yq _ (Yq _ (.head _))
 have mD:∀ {oK oD:Obj},(D,oD)∈X.pn ++ (pins ++ [(kS,oK),(D,oD)]):=Yq _ (Yq _ (.tail _ (.head _)))
 unfold ksk_rest
 refine Ya (Vg ?_)
 first
  | rw [List.forIn_toArray]
  | (rw [<- Array.forIn_toList]; simp only [List.toList_toArray])
  | rw [<- Array.forIn_toList]
 refine wpAny_bind (ksk_fold (λi s'=>∃ kA e H',Inv X (pins ++ [(kS,seqObj "list" kA e),(D,seqObj "list" #[] e1)]) Z H' s'/\Same H H'/\IntsAre kA.toList (ks.take i)) vs 0 s0 ⟨#[],0,H0,I,sH,by simpa using IntsAre.nil⟩ ?step ?done)
 case step =>
  rintro j x s' hx ⟨kA,e,H1,I1,sH1,hk⟩
  simp only [Nat.zero_add] at hk ⊢
  have hj:j < vs.length:=(Yf.mp hx).1
  obtain⟨k,hkj⟩:∃ k,ks[j]?=some k:=⟨_,Yb (by omega)⟩
  have hxj:xs[j]?=some xs[j]:=Yb (by omega)
  obtain⟨u,hu,rv⟩:=hv.get hxj
  rw [hx] at hu
  cases hu
  have hz:kA.size<=vs.length:=by
   have h1:=hk.length
   rw [YI,YG] at h1
   omega
  refine Ya (VP (Yv (turn j _ k hxj hkj _ H1 s' x I1 sH1 rv) (λv s'' he=>?_) λ_ _ hF=>hF.elim))
  obtain⟨t,H2,rfl,I2,sH2⟩:=he
  try dsimp only
  have nk:=I2.pin (kS,seqObj "list" kA e) mK
  have na:=I2.pin (D,seqObj "list" #[] e1) mD
  have s1:=VY s''.heap kS (Obj.mapSeq (·.push (.int k t)))
  obtain⟨c2,hc2⟩:∃ c2,(s''.heap.update kS (Obj.mapSeq (·.push (.int k t)))).get? kS=some (seqObj "list" (kA.push (.int k t)) c2):=⟨_,get?_update_seq nk.1 (·.push (.int k t))⟩
  have ek:ks.take (j + 1)=ks.take j ++ [k]:=by rw [List.take_add_one,hkj]; simp
  have ea:(kA.push (Value.int k t)).toList=kA.toList ++ [Value.int k t]:=by simp
  refine Ya (listUpdate_at nk.1 rfl ?_ (by rw [YT]; omega) (Yi (Nat.le_of_eq (Array.size_push ..)) (by rw [YT]; omega)))
  have I3:Inv X pins Z H2 s'':=I2.unpinned
  have I4:Inv X pins Z H2 { s'' with heap:=s''.heap.update kS (Obj.mapSeq (·.push (.int k t))),toks:=s''.toks }:=I3.turned (λb o hb q=>(s1.2 b hb).trans q) nk.2.1 fK.2.1 fK.2.2.2.1 fK.2.2.2.2.1 fK.2.2.2.2.2
  refine Yc ⟨rfl,kA.push (.int k t),c2,H2,I4.pins_of λp hp=>?_,sH1.trans sH2,by rw [ea,ek]; exact ksk_snoc hk⟩
  rcases Yp.mp hp with hp | hp
  ·exact I4.pin p (Yq _ hp)
  ·rcases Yl.mp hp with rfl | hp
   ·exact⟨hc2,nk.2.1,nk.2.2.1,nk.2.2.2.1,λv z=>by cases z⟩
   ·rw [YB.mp hp]
    exact⟨(s1.2 D hDK.symm).trans na.1,na.2.1,na.2.2.1,na.2.2.2.1,λv z=>by cases z⟩
 case done =>
  rintro s' ⟨kA,e,H1,I1,sH1,hk⟩
  have hk':IntsAre kA.toList ks:=by
   have e3:ks.take (0 + vs.length)=ks:=List.take_of_length_le (by omega)
   rw [e3] at hk
   exact hk
  have nk:=I1.pin (kS,seqObj "list" kA e) mK
  have na:=I1.pin (D,seqObj "list" #[] e1) mD
  obtain⟨m0,hn,_⟩:=id I1.loc
  try dsimp only
  refine Ya (listItems_at nk.1 rfl ?_)
  have N:News (Att.noObjs s'.heap) X.env.locals s'.heap (led3 s'.heap [X.env.locals,kS,D] ++ [(kS,seqObj "list" kA e),(D,seqObj "list" #[] e1)]):=by
   rintro⟨a,o⟩ hp
   rcases Yp.mp hp with hp | hp
   ·obtain⟨g1,g2⟩:=mem_led3.mp hp
    exact⟨g2,λz=>g1 (by simp [show a=X.env.locals from z]),Att.noObjs_get _ _⟩
   ·rcases Yl.mp hp with q | hp
    ·cases q
     exact⟨nk.1,fK.2.1,Att.noObjs_get _ _⟩
    ·cases YB.mp hp
     exact⟨na.1,fD.2.1,Att.noObjs_get _ _⟩
  refine ksk_end_ (h₀:=Att.noObjs s'.heap) (L:=X.env.locals) (m:=m0) (Att.fr_all hn) N hDK (λp hp z=>?_) (λp hp z=>?_) hk' (by omega) (by omega) λh3 tk3 out c F3 N3 k3=>?_
  ·obtain⟨a,o⟩:=p
   exact (mem_led3.mp hp).1 (by simp [show a=kS from z])
  ·obtain⟨a,o⟩:=p
   exact (mem_led3.mp hp).1 (by simp [show a=D from z])
  ·obtain⟨ys,hys,hsk⟩:=out_vals hv k3
   have hyl:ys.length=xs.length:=by
    obtain⟨ps,g1,g2,_⟩:=hsk
    rw [g2,Yg,g1.length_eq,List.length_zip]
    omega
   have fD1:FpOk X pins H1 D:=⟨na.2.1,fD.2⟩
   have fK1:FpOk X pins H1 kS:=⟨nk.2.1,fK.2⟩
   refine h _ _ ys (sort_end (tk:=tk3) (c:=c) (out:=out) I1 fD1 fK1 (λm hm=>?_) (λa o n1 n2 n3 q=>?_) (N3 (D,seqObj "list" out c) (Vl ..)).1 (by rw [hyl,YT]; omega) hys) (same_upd hHD sH1) upd_same hsk
   ·rw [hm.eq_nsMap,<- hn.eq_nsMap]
    exact F3.ns
   ·exact (N3 (a,o) (List.mem_cons_of_mem _ (mem_led3.mpr ⟨by simp [n1,n2,n3],q⟩))).1
def sort_shell(I:Inv X pins Z H s)(hl:H l=some (.lst xs))(h64:xs.length < 64)
  (ha1:argsOk "sorted" ⟨[.ref l],kw⟩) (ha2:∀ x,argsOk "list.sort" ⟨[.ref x],kw⟩) (ht:∀ x,Builtin.«list.sort» ⟨[.ref x],kw⟩=ksk_tree x f b)
  (rest:∀ (D kS:Addr) (e1:Nat) (vs:List Value) (s0:Shared) (P:PySem.Fin->Shared->Prop),Inv X (pins ++ [(kS,seqObj "list" #[] 0),(D,seqObj "list" #[] e1)]) Z H s0->H D=none->FpOk X pins H D->FpOk X pins H kS->kS ≠ D->Vals xs vs ->
   (∀ s',Q (.ref D) s'->P (.done (.ret .none)) s')->wpAny (model X.prog X.w) X.A.in1.in1 (ksk_rest D f b vs.toArray e1 (.ref kS)) P E s0) :
  wpAny (model X.prog X.w) X.A (call (.builtin "sorted") [.ref l] kw) Q E s:=by
 obtain⟨hz,vs,n,hv,hvl,e⟩:=I.lstM hl
 have hvl':vs.length=xs.length:=by omega
 refine call_function_entry_kw kind_sorted plain_sorted entry_sorted ha1 ?_
 unfold Builtin.«sorted»
 refine Ya (m:=checkCount "sorted" 1 1 _) (Yc ?_)
 refine Ya (collect_list (vs:=vs) ⟨_,e,rfl,n,rfl⟩ ?_ (by rw [YT]; omega))
 refine Ya (wpAny_newList ?_ (by rw [YT]; omega))
 have hsz:((s.heap.push (seqObj "list" #[] 0)).update s.heap.objs.size (Obj.mapSeq (· ++ vs.toArray))).objs.size=s.heap.objs.size + 1:=by
  rw [Heap.size_update,size_push']
 have hoL:(((s.heap.push (seqObj "list" #[] 0)).update s.heap.objs.size (Obj.mapSeq (· ++ vs.toArray))).push (seqObj "list" vs.toArray 0)).get? (s.heap.objs.size + 1)=some (seqObj "list" vs.toArray 0):=by
  rw [<- hsz]; exact Yn _ rfl
 have keep:∀ b o,s.heap.get? b=some o->(((s.heap.push (seqObj "list" #[] 0)).update s.heap.objs.size (Obj.mapSeq (· ++ vs.toArray))).push (seqObj "list" vs.toArray 0)).get? b=some o:=λb o q=>by
  have hlt:b < s.heap.objs.size:=Ye q
  rw [Heap.get?_push_ne _ _ _ (by rw [hsz]; exact Ym (Y8 hlt)),Heap.get?_update_ne _ _ _ _ (Ym hlt),Heap.get?_push_ne _ _ _ (Ym hlt)]
  exact q
 have hsz3:(((s.heap.push (seqObj "list" #[] 0)).update s.heap.objs.size (Obj.mapSeq (· ++ vs.toArray))).push (seqObj "list" vs.toArray 0)).objs.size=s.heap.objs.size + 2:=by rw [size_push',hsz]
 show wpAny _ _ _ _ _ { s with heap:=((s.heap.push (seqObj "list" #[] 0)).update s.heap.objs.size (Obj.mapSeq (· ++ vs.toArray))).push (seqObj "list" vs.toArray 0) }
 rw [hsz]
 generalize hh3:((s.heap.push (seqObj "list" #[] 0)).update s.heap.objs.size (Obj.mapSeq (· ++ vs.toArray))).push (seqObj "list" vs.toArray 0)=h3 at hoL keep hsz3 ⊢
 clear hh3 hsz
 refine Ya (Y3 (wpAny_call_entry_kw slot_list_sort ⟨_,hoL,rfl⟩ entry_list_sort ?body (ha2 _)))
 case body =>
  have ht':=ht (s.heap.objs.size + 1)
  show wpAny (model X.prog X.w) X.A.in1.in1 (Builtin.«list.sort» ⟨[.ref (s.heap.objs.size + 1)],kw⟩) _ _ _
  rw [ht']
  generalize hD:s.heap.objs.size + 1=D at hoL ⊢
  obtain⟨e1,ho1⟩:∃ e1,(h3.update D (Obj.mapSeq λ_=>(#[]:Array Value))).get? D=some (seqObj "list" #[] e1):=⟨_,get?_update_seq hoL λ_=>#[]⟩
  have s1:=VY h3 D (Obj.mapSeq λ_=>(#[]:Array Value))
  have hsz4:(h3.update D (Obj.mapSeq λ_=>(#[]:Array Value))).objs.size=s.heap.objs.size + 2:=by rw [Heap.size_update,hsz3]
  have keep4:∀ b o,s.heap.get? b=some o->(h3.update D (Obj.mapSeq λ_=>(#[]:Array Value))).get? b=some o:=λb o q=>(s1.2 b (Ym (hD ▸ Y8 (Ye q)))).trans (keep b o q)
  unfold ksk_tree
  refine Ya (listItems_at hoL rfl ?_)
  refine Ya (listUpdate_at hoL rfl ?_ (by rw [YM,YT]; omega) (YD _))
  refine Ya (seqEpoch_at ho1 rfl ?_)
  refine Ya (wpAny_newTuple ?_ (by show vs.length<=_; rw [YT]; omega))
  refine Ya (wpAny_newList ?_ (YD _))
  refine Y3 ?_
  have hkS:((h3.update D (Obj.mapSeq λ_=>(#[]:Array Value))).push (seqObj "tuple" vs.toArray 0)).objs.size=s.heap.objs.size + 3:=by rw [size_push',hsz4]
  have keep5:∀ b o,s.heap.get? b=some o->(((h3.update D (Obj.mapSeq λ_=>(#[]:Array Value))).push (seqObj "tuple" vs.toArray 0)).push (seqObj "list" #[] 0)).get? b=some o:=λb o q=>Yh _ (Yh _ (keep4 b o q))
  have fD:FpOk X pins H D:=I.fpOk (by omega) (I.hok.fresh (by omega))
  have fK:FpOk X pins H (s.heap.objs.size + 3):=I.fpOk (by omega) (I.hok.fresh (by omega))
  have I5:Inv X (pins ++ [(s.heap.objs.size + 3,seqObj "list" #[] 0),(D,seqObj "list" #[] e1)]) Z H { s with heap:=((h3.update D (Obj.mapSeq λ_=>(#[]:Array Value))).push (seqObj "tuple" vs.toArray 0)).push (seqObj "list" #[] 0),toks:=s.toks }:=by
   refine (I.kept (t':=s.toks) keep5).pins_of λp hp=>?_
   rcases Yp.mp hp with hp | hp
   ·exact (I.kept (t':=s.toks) keep5).pin p (Yq _ hp)
   ·rcases Yl.mp hp with rfl | hp
    ·exact⟨by rw [<- hkS]; exact Yn _ rfl,fK.1,fK.2.1,fK.2.2.1,λv z=>by cases z⟩
    ·rw [YB.mp hp]
     exact⟨Yh _ (Yh _ ho1),fD.1,fD.2.1,fD.2.2.1,λv z=>by cases z⟩
  show wpAny (model X.prog X.w) X.A.in1.in1 (ksk_rest D f b vs.toArray e1 (.ref ((h3.update D (Obj.mapSeq λ_=>(#[]:Array Value))).push (seqObj "tuple" vs.toArray 0)).objs.size)) _ E { s with heap:=((h3.update D (Obj.mapSeq λ_=>(#[]:Array Value))).push (seqObj "tuple" vs.toArray 0)).push (seqObj "list" #[] 0),toks:=s.toks }
  rw [hkS]
  exact rest D _ e1 vs _ _ I5 fD.1 fD fK (λz=>absurd (hD.trans z.symm) (by omega)) hv λs' hq=>⟨_,rfl,Yc ⟨_,rfl,hq⟩⟩
def sortK(I:Inv X pins Z H s)(hl:H l=some (.lst xs))(hlen:ks.length=xs.length)(h64:xs.length < 64)
  (ha1:argsOk "sorted" ⟨[.ref l],kw⟩) (ha2:∀ x,argsOk "list.sort" ⟨[.ref x],kw⟩) (ht:∀ x,Builtin.«list.sort» ⟨[.ref x],kw⟩=ksk_tree x f b)
  (turn:∀ (i:Nat) (x:V) (k:Int),xs[i]?=some x->ks[i]?=some k->∀ (pins':List (Addr × Obj)) (H':Hp) (s':Shared) (u:Value),Inv X pins' Z H' s'->Same H H'->RelV x u ->
   wpAny (model X.prog X.w) X.A.in1.in1 (call f [u]) (λv s''=>∃ t H'',v=.int k t/\Inv X pins' Z H'' s''/\Same H' H'') (λ_ _=>False) s')
  (h:∀ (D:Addr) (H':Hp) (s':Shared) (ys:List V),H D=none->Inv X pins Z H' s'->Same H H'->H' D=some (.lst ys)->SortedK b ks xs ys->Q (.ref D) s') :
  wpAny (model X.prog X.w) X.A (call (.builtin "sorted") [.ref l] kw) Q E s:=by
 refine sort_shell I hl h64 ha1 ha2 ht λD kS e1 vs s0 P I5 hD fD fK hDK hv hP=>?_
 exact key_rest I5 (λ_ _ q=>q) hD fD fK hDK hv hlen h64 turn λH' s' ys I' sH' e' hsk=>hP _ (h D H' s' ys hD I' sH' e' hsk)
end
end My
namespace My
open PySem PySem.W PySem.Calls PyProof.Rows
structure KaOrd(lt:Nat->Nat->Bool):Prop where
 refl:∀ a,lt a a=false
 trans:∀ a b c,lt b a=false->lt c b=false->lt c a=false
 asym:∀ a b,lt a b=true->lt b a=false
section
variable {lt:Nat->Nat->Bool}{cmp:Nat->Nat->(Bool->Shared->Prop)->Shared->Prop}{I:Shared->Prop}{N:Nat}
def KaIn(N:Nat)(p:Array Nat):Prop:=p.Perm (List.range N).toArray
theorem KaIn.size{p:Array Nat}(h:KaIn N p):p.size=N:=by
 have:=(Array.perm_iff_toList_perm.mp h).length_eq
 simpa using this
end
end My
namespace My
open PySem PySem.SeqAt PySem.MeetsSeq PySem.MeetsSeq2 PySem.MeetsSeq3 PyProof.Rows
open AutoSeq1 (wpAny_loadPart')
end My
namespace My
open PySem PySem.Spec L2
open PyProof.Rows hiding St
open PySem.W (kat_end kas_ask KatFin KasFin katRev)
section
variable {X:Cx}{pins:List (Addr × Obj)}{Z:St}{H:Hp}{s:Shared}{l:Addr}{xs:List V}{f:Value}{kw:List (Str × Value)}{E:VSP}{Q:VSP}{KeyIs:Nat->Hp->Value->Prop}{lt:Nat->Nat->Bool}{κ:SortKind}
end
end My
namespace My
open PySem PySem.Spec L2
open PyProof.Rows hiding St
open PySem.W (kat_lt kat_cons kat_nil kat_yes kat_no kat_one kat_kind KatTups KatLex KatGo)
structure Sto{α:Type}(r:α->α->Bool):Prop where
 irr:∀ a,r a a=false
 tr:∀ a b c,r a b=true->r b c=true->r a c=true
 tri:∀ a b,r a b=false->r b a=false->a=b
def Sto.asym{α:Type}{r:α->α->Bool}(h:Sto r){a b:α}(e:r a b=true):r b a=false:=by
 cases q:r b a with
 | false=>rfl
 | true=>have:=h.tr _ _ _ e q; rw [h.irr] at this; cases this
def Sto.ka{α:Type}{r:α->α->Bool}(h:Sto r)(f:Nat->α):KaOrd λi j=>r (f i) (f j) where
 refl a:=h.irr _
 trans a b c h1 h2:=by
  cases q:r (f c) (f a) with
  | false=>rfl
  | true =>
   exfalso
   cases q2:r (f b) (f c) with
   | true=>have:=h.tr _ _ _ q2 q; rw [h1] at this; cases this
   | false =>
    have e:=h.tri _ _ q2 h2
    rw [e,q] at h1
    cases h1
 asym a b e:=h.asym e
def strV(xs:List Str):List V:=xs.map V.str
section
variable {X:Cx}{pins:List (Addr × Obj)}{Z:St}{H:Hp}{s:Shared}{E:VSP}
end
end My
namespace My
open PySem PySem.Spec L2
open PyProof.Rows hiding St
def one1(q:V->Hp->Prop):List V->Hp->Prop
 | [v],H=>q v H
 | _,_=>False
def one1_of{q:V->Hp->Prop}{vs:List V}{H:Hp}(h:one1 q vs H):∃ v,vs=[v]/\q v H:=by
 match vs,h with
 | [v],h=>exact⟨v,rfl,h⟩
section
variable {X:Cx}{p pos kp:Pos}{e ek:Expr}{te tk:TE}{k:Nat}
end
section
variable {X:Cx}{j k:Nat}{x y:Str}{sp:Sp}{p:Pos}
def run_in{pins:List (Addr × Obj)}{Z:L2.St}{H:Hp}{s:Shared}{Q:VK}{us:List Value}{f:Addr}(I:Inv X pins Z H s)(h:codeAny (model X.prog X.w) X.A.in1.in1 (.call (.ref f) ⟨us,[]⟩) (CR CX0 X.stack X.prog X.w H s Q E0) s) :
  wpAny (model X.prog X.w) X.A.in1.in1 (call (.ref f) us) (EP X pins Z Q) (λ_ _=>False) s:=by
 refine wpAny_call (YS h λr s' hq=>?_)
 cases r with
 | error e=>exact hq
 | ok fl =>
  cases fl with
  | ret u=>exact I.after hq
  | next=>exact False.elim hq
  | brk=>exact False.elim hq
  | cont=>exact False.elim hq
def okQc{P:Program}{w:World}{K:PySem.W.Frag}{mg:Str->Option Value}{base:Heap}{x qual:Str}{st:Stmt}{f c:Addr}{fd:FuncData}{N ps:List Str}{k:Nat}{sp:Sp}(F:Fun K x qual st f fd)(hc:fd.code=.ref c)(S:FnScope N ps (defScope st))(len:∀ vs H Q E,sp vs H Q E->vs.length=ps.length)
  (hbody:∀ (A:Around) (outer:List Env) (s:Shared) (H:Hp) (vs:List V) (Q:VK) (E:XK),Room k (A.deeper (envOfC qual (defScope st) s.heap.objs.size f (.ref c)))->sp vs H Q E ->
   ∃ t,QB (cxOf CX0 P w K mg base N qual (defScope st) f (.ref c) A outer s H E).nox (defBody st) t/\t { nx:=λ_ H'=>Q .non H',rt:=Q } (start N vs) H):FnOk P w K mg base CX0 (k + 1) f fd ps sp:=by
 obtain⟨oc,od,kV,doc,pm,an,cdv,ct,osl,rfl,lk,hcd⟩:=F.ex
 have hc:cdv=.ref c:=hc
 subst hc
 refine fn_of lk hcd S len λA outer s H vs Q E hr hsp=>?_
 obtain⟨t,h,q⟩:=hbody A outer s H vs Q E hr hsp
 exact⟨t,h.h.nox,q⟩
end
end My
namespace L2
open PySem PySem.Spec PyProof.Rows PySem.W
def walk_ofKT{l:PySem.W.OpenLaw}{n k:Nat}{q:Program}{loose:List Str}{XP:(Str->Option Value)->Heap->Prop}{YP:World->Heap->Prop}{d:DefRec}{K:Params->PySem.W.Frag}{CX:CXT}{sp:PySem.W.Frag->Sp}{x:Str}(T:Addr->Option Str)
  (hn:l.most=some n) (hn2:n<=sizeLine) (hdf:d.params.defaults=[]) (hr:Room k callerA)
  (hY:∀ (w:World) (h:Heap),YP w h->(K w.params).In h)
  (hT:∀ (w:World) (h:Heap),YP w h->∀ b q,T b=some q->(∃ c,CodeHd h c b)/\h.get? b=some (tabObj #[])) (hKT:∀ (w:World) b q,T b=some q->(K w.params).lookup b=none)
  (F:∀ (w:World) (mg:Str->Option Value) (fa:Addr) (h:Heap),(K w.params).In h->h.Ns mainGlobals mg->mg d.name=some (.ref fa) ->
   ∃ fd:FuncData,(∀ (s:Shared) (u:Value),BindsTo s fd ⟨[u],[]⟩ [(x,u)]) /\
    ∀ base:Heap,(K w.params).In base->base.Ns mainGlobals mg->BltMod mg base->FnOk l.prog w (K w.params) mg base CX k fa fd [x] (sp (K w.params)))
  (hsp:∀ (K:PySem.W.Frag) (H:Hp) (a:Addr) (ns:List Int),ns.length<=n->(∀ b q,T b=some q->TabAt H b q)->SqL K H a (ns.map V.int)->sp K [.ref a] H (λv _=>v=.bl true) λ_ _ _=>False)
  (hCX:∀ (H:Hp) (s:Shared) (e:Value) (s':Shared),CX [] H s (λ_ _ _=>False) e s'->False) :
  PySem.W.WalkO q loose XP YP l.row.toRowW d [] (λf vs=>PySem.call f vs):=by
 refine Att.attach_call hn hdf λw s₀ s₁ mg mb fa o pm cd doc a vs ns G Y ho hd hcd hmg hobj hints hlen hg=>?_
 have KX:=hY w _ Y
 obtain⟨fd,hb,hF⟩:=F w mg fa _ KX G.T.g hmg
 exact law_callT (T:=T) KX G.T.g G.T.b G.T.builtins G.T.nolimit hg hobj hints (Yi hlen hn2) hr (hT w _ Y) (hKT w) (by obtain⟨bm,o,b1,b2,b3,b4,b5,b6⟩:=G.T.bmain; exact⟨bm,o,b1,b2,b3,b4,b5,b6⟩) hF hb (λH hO hS=>hsp (K w.params) H a ns hlen hO hS) λH e s'=>hCX H s₁ e s'
end L2
namespace My
open PySem PySem.Spec L2
open PyProof.Rows hiding St
instance (a b:Str):Decidable (leS a b):=inferInstanceAs (Decidable (a.cps.toList<=b.cps.toList))
def leB(a b:Str):Bool:=decide (leS a b)
def srt(l:List Str):List Str:=l.mergeSort leB
def leS_trans{a b c:Str}(h1:leS a b)(h2:leS b c):leS a c:=List.le_trans h1 h2
def leS_total(a b:Str):leS a b\/leS b a:=List.le_total _ _
def srt_perm(l:List Str):(srt l).Perm l:=List.mergeSort_perm _ _
def srt_pw(l:List Str):(srt l).Pairwise leS:=by
 have:=List.pairwise_mergeSort (le:=leB) (λa b c h1 h2=>YX (leS_trans (VG h1) (VG h2))) (λa b=>by
  rcases leS_total a b with h | h
  ·rw [Bool.or_eq_true]; exact .inl (YX h)
  ·rw [Bool.or_eq_true]; exact .inr (YX h)) l
 exact this.imp λh=>VG h
def srt_is{l m:List Str}(h:m.Pairwise leS)(p:m.Perm l):m=srt l:=sorted_uniq h (srt_pw l) (p.trans (srt_perm l).symm)
def stp(gs:List (List Str))(x:Str):List (List Str):=gs ++ gs.map (· ++ [x])
def subs(l:List Str):List (List Str):=l.foldl stp [[]]
def fold_sub:∀ (l pre:List Str) (gs:List (List Str)),(∀ g∈gs,g.Sublist pre)->∀ g∈l.foldl stp gs,g.Sublist (pre ++ l)
 | [],pre,gs,h=>by rw [Vb]; exact h
 | x :: l,pre,gs,h=>by
  rw [List.foldl_cons,show pre ++ x :: l=(pre ++ [x]) ++ l by simp]
  refine fold_sub l (pre ++ [x]) _ λg hg=>?_
  rcases Yp.mp hg with hg | hg
  ·exact (h g hg).trans (List.sublist_append_left _ _)
  ·obtain⟨g',hg',rfl⟩:=Yk.mp hg
   exact (h g' hg').append (List.Sublist.refl _)
theorem len_stp(gs:List (List Str))(x:Str):(stp gs x).length=2 * gs.length:=by unfold stp; rw [List.length_append,List.length_map]; omega
theorem len_fold:∀ (l:List Str) (gs:List (List Str)),(l.foldl stp gs).length=2 ^ l.length * gs.length
 | [],gs=>by simp
 | x :: l,gs=>by rw [List.foldl_cons,len_fold l,len_stp,List.length_cons,Nat.pow_succ]; simp [Nat.mul_assoc,Nat.mul_comm,Nat.mul_left_comm]
theorem len_subs(l:List Str):(subs l).length=2 ^ l.length:=by unfold subs; rw [len_fold]; simp
def KeyFnW(X:Cx)(Z:L2.St)(H:Hp)(ky:V->Int)(xs:List V)(fv:V):Prop:=∃ f,fv=.ref f/\∀ (pins:List (Addr × Obj)) (H':Hp) (s':Shared) (x:V) (u:Value),x∈xs->Inv X pins Z H' s'->Same H H'->RelV x u ->
 wpAny (model X.prog X.w) X.A.in1.in1 (call (.ref f) [u]) (λv s''=>∃ t H'',v=.int (ky x) t/\Inv X pins Z H'' s''/\Same H' H'') (λ_ _=>False) s'
def swEnd(X:Cx)(Z:L2.St)(Q:VK)(v:V):V->Hp->Prop:=λfv H2=>∃ a xs ky,v=.ref a/\H2 a=some (.lst xs)/\xs.length < 64/\KeyFnW X Z H2 ky xs fv/\∀ D H3 ys,H2 D=none->Same H2 H3->H3 D=some (.lst ys)->SortedK true (xs.map ky) xs ys->Q (.ref D) H3
def tSortW(X:Cx)(te tk:TE):TE:=λZ H Q=>te Z H λv H1=>tk Z H1 (swEnd X Z Q v)
def two2(q:V->Hp->Prop):List V->Hp->Prop
 | [v,.bl true],H=>q v H
 | _,_=>False
def two2_of{q:V->Hp->Prop}{vs:List V}{H:Hp}(h:two2 q vs H):∃ v,vs=[v,.bl true]/\q v H:=by
 match vs,h with
 | [v,.bl true],h=>exact⟨v,rfl,h⟩
section
variable {X:Cx}{p pos kp kp2:Pos}{e ek eb:Expr}{te tk:TE}
def pe_sortW(hg:Gl X "sorted")(hm:X.mg "sorted"=none)(ha:PE X e te)(hk:PE X ek tk)(hb:PE X eb (tC (.bl true)))(hs:starEach [e] X.env=[(false,eval e X.env)]:=by rfl)
  (hks:(backToKw pos (keywordEach [⟨some "key",ek,kp⟩,⟨some "reverse",eb,kp2⟩] X.env)).filterMap (·.1)=[Str.ofString "key",Str.ofString "reverse"]:=by rfl) :
  PE X (.Call (.Name "sorted" p) [e] [⟨some "key",ek,kp⟩,⟨some "reverse",eb,kp2⟩] pos) (tSortW X te tk):=by
 intro pins s Z H Q I h
 refine Vm (ld_blt I hg hm (show bootBuiltins "sorted"=some (.builtin "sorted") from rfl) ?_ (by decide) (by decide))
 refine callWith_kw ?_ (by rw [hs]; rfl) (by rw [hs]; rfl)
 refine thn (pa_cons ha pa_nil hs pos pins s Z H (one1 λv H1=>tk Z H1 (swEnd X Z Q v)) I h) ?_
 rintro us s1 ⟨vs,H1,I1,r1,q⟩
 obtain⟨v,rfl,q⟩:=one1_of q
 refine thn (pk_cons (kws:=[⟨some "reverse",eb,kp2⟩]) hk (pk_cons hb pk_nil) pos pins s1 Z H1 (two2 (swEnd X Z Q v)) I1 q) ?_
 rintro ws s2 ⟨zs,H2,I2,r2,q2⟩
 obtain⟨fv,rfl,q2⟩:=two2_of q2
 obtain⟨a,xs,ky,rfl,hl,h64,⟨f,rfl,hf⟩,q3⟩:=q2
 cases r1 with
 | cons r1 r1' =>
  cases r1'
  cases r1
  cases r2 with
  | cons r2 r2' =>
   cases r2' with
   | cons r3 r3' =>
    cases r3'
    cases r2
    cases r3
    rw [hks]
    refine sortK (b:=true) (f:=.ref f) (ks:=xs.map ky) I2 hl (Yg ..) h64 (ksk_s2 _ _ _) (λx=>ksk_l2 _ _ _) (λx=>ksk_t2 _ _ _) (λi x k hx hki pins' H' s' u I' sm r=>?_) λD H' s' ys hD I' sm e' hs=>⟨.ref D,H',I',rfl,q3 D H' ys hD sm e' hs⟩
    rw [Yj,hx] at hki
    cases hki
    exact hf pins' H' s' x u (Yo hx) I' sm r
def tKeyLamW(X:Cx)(P:Addr)(q:Str)(i:Nat)(t:TE):TE:=λZ H Q=>TabAt H P q/\∃ w,Z[i]?=some (some w)/\∀ fv H2,Same H H2->(∀ (xs:List V) (ky:V->Int),(∀ x∈xs,∀ (H':Hp) (k:VK),Same H2 H'->(∀ H'',Same H' H''->k (.int (ky x)) H'')->t [some x,some w] H' k)->KeyFnW X Z H2 ky xs fv)->Q fv H2
theorem pe_keyLamW{params:Arguments}{body:Expr}{scope:Scope}{c P cz:Addr}{q y z:Str}{t:TE}{i k:Nat}(hdef:defaultsOf params X.env=([],[]))(hcl:closureFor scope X.env=pure [(z,cz)])(hcz:X.env.cells.lookup z=some cz)(hcode:X.env.code=.ref c)
  (hC:codeHdIn X.K c P=true) (hB:BltMod X.mg X.base) (hq:X.env.qual ++ "<lambda>"=q) (hr:Room (k + 3) X.A) (S:LamScope [y] [z] scope [(z,cz)]) (hN:X.N[i]?=some z) (hv:Vis X.env.scope z) (hloc:X.env.scope.names.lookup z ≠ some .local)
  (hbind:∀ (pm ctv u:Value) (c':Addr),bindArgs (PySem.W.kla_fn "<lambda>" q params body scope [(z,cz)] pm (.ref c') ctv) ⟨[u],[]⟩=pure [(y,u)])
  (hbody:∀ (f c':Addr) (s:Shared) (H:Hp),QE (lamCx CX0 X.prog X.w X.K X.mg X.base [y,z] q scope f c' [(z,cz)] X.A.in1.in1 X.stack s H E0) body t) :
  PE X (.Lambda params body scope pos) (tKeyLamW X P q i t):=by
 intro pins s Z H Q I ⟨⟨tk,hP⟩,w,hw,h⟩
 have hb:X.base.BuiltinsAt X.mg P:=by
  obtain⟨bm,o,b1,b2,b3,b4,b5,b6⟩:=hB
  refine⟨bm,o,b1,b2,λz=>?_,λz=>?_,b3,b4,b5,b6⟩
  ·obtain⟨o',es,ep,e,d,_⟩:=I.ok.mod.glob
   rw [z,e] at b3
   cases b3
   rw [d] at b6
   cases b6
  ·have:=(I.bs _ _ b3).2
   rw [z,hP] at this
   cases this
 refine pe_lam hdef hcl hcode (codeHd_of_K I.ok.mod.kin hC) hb hq pins s Z H Q I ⟨tk,hP,λf c' oc pm ctv vs t' H2 hf hf2 hc2 hd hv' sm=>h _ H2 sm λxs ky hx=>⟨f,rfl,λpins' H' s' x u hxm I' sm' r=>?_⟩⟩
 have ho:=(I'.hok f _ (sm' _ _ hf2)).1
 have hoc:=(I'.hok c' _ (sm' _ _ hc2)).1
 refine thn (run_in (Q:=λv H''=>v=.int (ky x)/\Same H' H'') I' (lam_of (k:=k) (ps:=[y]) (fs:=[z]) (ws:=[w]) (vs:=[x]) (us:=[u]) hr.in1.in1 ?_ ho ⟨c',oc,vs,t',rfl,hoc,hd,hv'⟩ (hbind _ _ _ _) rfl (.cons r .nil) S ?_ (hbody f c' s' H').h (hx x hxm H' _ sm' λH'' sm2=>⟨rfl,sm2⟩))) ?_
 ·exact⟨I'.ok.frames,I'.ok.mod,I'.bs,Yi I'.ok.bsz I'.sz,I'.stack,I'.stkFree,I'.hok,I'.bare⟩
 ·have hcell:∀ x c0,List.lookup x [(z,cz)]=some c0->x=z/\c0=cz:=λx c0 e=>by
   simp only [List.lookup] at e
   split at e
   ·rename_i hh
    cases e
    exact⟨by simpa using hh,rfl⟩
   ·cases e
  refine⟨rfl,λj x v e1 e2=>?_,λx c0 e=>?_,λx x' c0 e e'=>by rw [(hcell _ _ e).1,(hcell _ _ e').1]⟩
  ·match j with
   | 0 =>
    cases e1
    cases e2
    obtain⟨m,_,hl⟩:=I'.loc
    obtain⟨u',ru,lk⟩:=hl i z w hN hw hv
    rcases lk with ⟨hl',_⟩ | ⟨_,c0,hc0,hce⟩
    ·exact absurd hl' hloc
    ·have:c0=cz:=YK (hc0.symm.trans hcz)
     subst this
     exact⟨c0,u',by simp,ru,hce⟩
   | j + 1=>cases e1
  ·obtain⟨rfl,rfl⟩:=hcell x c0 e
   exact⟨I'.cell _ _ hcz,I'.freeC _ _ hcz⟩
 ·rintro v s'' ⟨w',H'',I'',r'',rfl,sm2⟩
  obtain⟨t2,rfl⟩:=r''
  exact⟨t2,H'',rfl,I'',sm2⟩
theorem q_sortW(hg:Gl X "sorted")(hm:X.mg "sorted"=none)(ha:QE X e te)(hk:QE X ek tk)(hb:QE X eb (tC (.bl true)))(hp:plainE e=true:=by rfl):QE X (.Call (.Name "sorted" p) [e] [⟨some "key",ek,kp⟩,⟨some "reverse",eb,kp2⟩] pos) (tSortW X te tk) :=
 ⟨pe_sortW hg hm ha.h hk.h hb.h (se_cons hp) rfl⟩
end
section
variable {prog:Program}{w:World}{A:Around}{E:VSP}{s:Shared}{κ:Type}[DecidableEq κ]{knd:KeyKind prog w κ}
end
section
variable {prog:Program}{w:World}{A:Around}{E:VSP}{s:Shared}
end
section
variable {X:Cx}{l m:Expr}{ta:TA}{p pos pos':Pos}{es:List Expr}
end
section
variable {X:Cx}{a b o i e:Expr}{ta tb to ti te:TE}{pos tpos:Pos}{t:TA}{p:Pos}
def q_rep(ha:QE X a ta)(hb:QE X b tb):QE X (.BinOp a .Mult b pos) (tOp rRep ta tb):=⟨pe_op op_rep ha.h hb.h⟩
def get_lst:PGet X rIxL2:=by
 intro pins s Z H x y v u Q I rx ry h
 obtain⟨p,xs,i,z,rfl,rfl,hq,he,q⟩:=h
 cases rx
 obtain⟨t,rfl⟩:=ry
 obtain⟨its,r,pl,hz⟩:=I.list (SqL.of hq)
 obtain⟨j,h1,h2,h3,h4,h5⟩:=atI_get he
 obtain⟨w,ew,rw'⟩:=r.get h2
 have hl:=r.length
 have hn:=line63
 have fin:EP X pins Z Q w s:=⟨z,H,I,rw',q⟩
 by_cases h0:0<=i
 ·have hj:i.toNat=j:=by
   rw [seqIndex_of h0 h5] at h1
   exact YK h1
  exact wpAny_getItem_list pl.isList h0 (by omega) (by rw [hj]; simpa using ew) fin
 ·have hj:(i + (its.toArray.size:Int)).toNat=j:=by
   rw [seqIndex_neg (by omega) h4] at h1
   rw [YM,<- hl]
   exact YK h1
  exact wpAny_getItem_list_neg pl.isList (by omega) (by rw [List.size_toArray] <;> omega) (by omega) (by rw [hj]; simpa using ew) fin
def s_augA(ho:QE X o to)(hi:QE X i ti)(he:QE X e te)(ha:∀ ov iv new,augStore i ov iv new=(do holding [new,ov,iv] (setItem ov iv new); release [new,ov,iv] []; pure .next):=by intros; rfl) :
  QS X (.AugAssign (.Subscript o i tpos) .Add e pos) (tAugS to ti te rIxL2 (ipI λi j=>i + j) rSetL):=⟨ps_augS ho.h hi.h get_lst he.h ip_add set_list ha⟩
def s_augM(ho:QE X o to)(hi:QE X i ti)(he:QE X e te)(ha:∀ ov iv new,augStore i ov iv new=(do holding [new,ov,iv] (setItem ov iv new); release [new,ov,iv] []; pure .next):=by intros; rfl) :
  QS X (.AugAssign (.Subscript o i tpos) .Sub e pos) (tAugS to ti te rIxL2 (rI0 λi j=>.int (i - j)) rSetL):=⟨ps_augS ho.h hi.h get_lst he.h iop_sub set_list ha⟩
def rAllB:List V->Hp->VK->Prop:=λxs H Q=>∃ (a:Addr) (bs:List Bool),xs=[.ref a]/\H a=some (.lst (bs.map V.bl))/\Q (.bl (bs.all id)) H
def vals_bools:∀ {bs:List Bool}{us:List Value},Vals (bs.map V.bl) us->us=bs.map Value.bool
 | [],us,h=>by cases h; rfl
 | b :: bs,us,h=>by
  cases h with
  | cons h1 h2 =>
   cases h1
   rw [vals_bools h2]
   rfl
theorem all_rngB{bs:List Bool}:(List.range bs.length).all (λi=>bs.getD i false)=bs.all id:=by
 rw [Vc,List.all_eq_true,List.all_eq_true]
 constructor
 ·intro h x hx
  obtain⟨i,hi⟩:=Y5 hx
  have:=h i (YL.mpr (Yf.mp hi).1)
  rw [List.getD_eq_getElem?_getD,hi] at this
  exact this
 ·intro h i hi
  have hi':=YL.mp hi
  rw [List.getD_eq_getElem?_getD,Yb hi']
  exact h _ (Y2 hi')
def call_allB(hc:X.calm=true):CallR X (.builtin "all") rAllB:=by
 intro pins s Z H xs us Q I r h
 obtain⟨a,bs,rfl,e,q⟩:=h
 obtain⟨u,rfl,ru⟩:=vals1 r
 cases ru
 obtain⟨_,its,n,hv,g⟩:=I.hok a _ e
 have ei:=vals_bools hv
 subst ei
 have hL:s.heap.IsList a (bs.map Value.bool).toArray:=⟨_,g,rfl,n,by simp⟩
 refine call_all_walk (wpAny_pyIter_list hL ?_)
 have hn:a ≠ s.heap.objs.size:=Ym (Ye g)
 refine⟨_,_,_,_,_,_,λi=>bs.getD i false,rfl,Walks.list (A:=X.A.in1) (I.ok.hd hc) _ a hn (bs.map Value.bool).toArray,?_,?_,λh' tk hk=>?_⟩
 ·exact⟨⟨_,Heap.get?_push_size _ rfl,rfl,rfl⟩,⟨_,Heap.get?_push_of_some _ g,rfl,n,by simp⟩⟩
 ·intro i v s1 Q1 E1 hP hQ
  have:v=Value.bool (bs.getD i false):=by
   have hP':(bs.map Value.bool).toArray[i]?=some v:=hP
   rw [List.getElem?_toArray,Yj] at hP'
   rw [List.getD_eq_getElem?_getD]
   cases hb:bs[i]? with
   | none=>rw [hb] at hP'; cases hP'
   | some b=>rw [hb] at hP'; cases hP'; rfl
  subst this
  exact Vo hQ
 ·rw [show (bs.map Value.bool).toArray.size=bs.length by simp,all_rngB]
  exact⟨.bl (bs.all id),H,I.kept (old_kept hk),rfl,q⟩
def q_allB(hg:Gl X "all")(hm:X.mg "all"=none)(ha:QA X [e] t)(hp:plainE e=true:=by rfl)(hc:X.calm=true:=by rfl):QE X (.Call (.Name "all" p) [e] [] pos) (tCB rAllB t) :=
 ⟨pe_callB (call_allB hc) hg hm (by decide +kernel) ha.h (by decide) (by decide) (se_cons hp) rfl⟩
end
end My
set_option maxHeartbeats 4000000
namespace My
open PySem L2
theorem scal_ii{i j:Int}:scal (.int i) (.int j)=true:=rfl
theorem scal_ss{i j:Str}:scal (.str i) (.str j)=true:=rfl
end My
local macro_rules | `(tactic| walk_at "rd") => `(tactic| ((try dsimp only [L2.tSeq, L2.tNext, L2.tRet, L2.tRetN, L2.tIfS, L2.tDrop, L2.tAsg, L2.gName, L2.tVar, L2.tC, L2.tOp, L2.tUn, L2.rI, L2.rI0, L2.rU, L2.rEq, L2.rNe, L2.tTest, L2.tB, L2.tAnd, L2.tOr, L2.tNot, L2.tAndV, L2.tOrV, L2.tNotV, L2.tIf, L2.tCall, L2.tCB, L2.tNil, L2.tCons, My.tTup2, My.tLst2, L2.tPar, My.gTup2, L2.gCons, L2.gNil, My.rIxT2, My.rIxL2, L2.rIxL, L2.rCat, L2.CPow, L2.CMul, L2.CDiv, L2.tBM, L2.rAppend, List.getElem?_cons_zero, List.getElem?_cons_succ, List.set_cons_zero, List.set_cons_succ, List.cons_append, List.nil_append, My.scal_ii, My.scal_ss, Bool.not_true, Bool.not_false, List.length_cons, List.length_nil, My.tApp, My.tMakeX, My.tTry0, My.tHand0, My.tFs, My.tLm0, My.tLm, L2.rReverse, L2.rClear, L2.rPop, L2.rExtend, My.tDG, My.sDP, My.tDI, L2.rIxS, L2.tSl, L2.tNoPart, L2.tPart, My.tXm, My.rFind, My.rJoin, My.rSlX, My.rSortSet, My.rEqP, My.rNeP, My.rSortStr, My.rSortD, My.rSumI, L2.tDGet2, L2.tAugS, L2.ipI, L2.rRep, My.rAllB, My.tMethX, L2.tChain, L2.gSub, L2.rSetL, L2.tMeth, L2.tMake, L2.tFld, L2.sFld, My.tTry, My.tXE, My.tXS, My.tCallX, My.tRaise]); (try simp only [L2.tSeq, L2.tNext, L2.tRet, L2.tRetN, L2.tIfS, L2.tDrop, L2.tAsg, L2.gName, L2.tVar, L2.tC, L2.tOp, L2.tUn, L2.rI, L2.rI0, L2.rU, L2.rEq, L2.rNe, L2.tTest, L2.tB, L2.tAnd, L2.tOr, L2.tNot, L2.tAndV, L2.tOrV, L2.tNotV, L2.tIf,
 L2.tCall,L2.tCB,L2.tNil,L2.tCons,My.tTup2,My.tLst2,L2.tPar,My.gTup2,L2.gCons,L2.gNil,My.rIxT2,My.rIxL2,L2.rIxL,L2.rCat,L2.CPow,L2.CMul,L2.CDiv,L2.tBM,L2.rAppend,
 List.getElem?_cons_zero,List.getElem?_cons_succ,List.set_cons_zero,List.set_cons_succ,Vb,List.cons_append,List.nil_append,Option.some.injEq,Option.some_inj,exists_eq_left,exists_eq_left',exists_eq_right,exists_eq,exists_eq',exists_and_left,exists_and_right,exists_const,
 L2.V.int.injEq,L2.V.bl.injEq,L2.V.ref.injEq,L2.V.str.injEq,L2.V.ty.injEq,L2.HO.lst.injEq,L2.HO.tup.injEq,reduceCtorEq,List.cons.injEq,and_true,true_and,and_false,false_and,exists_false,or_false,false_or,My.scal_ii,My.scal_ss,Bool.not_true,Bool.not_false,Y7,Bool.false_eq_true,if_true,if_false,Bool.not_eq_true',decide_eq_false_iff_not,ite_self,ge_iff_le,gt_iff_lt,My.atI0,My.atI1,My.atI2,My.atI3,YO,List.length_nil,Nat.zero_add,and_assoc,My.tApp,My.tMakeX,My.tTry0,My.tHand0,My.tFs,My.tLm0,My.tLm,L2.rReverse,L2.rClear,L2.rPop,L2.rExtend,My.tDG,My.sDP,My.tDI,L2.rIxS,L2.tSl,L2.tNoPart,L2.tPart,My.tXm,My.rFind,My.rJoin,My.rSlX,My.rSortSet,My.rEqP,My.rNeP,My.rSortStr,My.rSortD,My.rSumI,L2.tDGet2,L2.tAugS,L2.ipI,L2.rRep,My.rAllB,My.tMethX,L2.tChain,L2.gSub,L2.rSetL,L2.tMeth,L2.tMake,L2.tFld,L2.sFld,My.tTry,My.tXE,My.tXS,My.tCallX,My.tRaise,My.kind_bl,My.kind_int,My.ask_int,My.ask_bool,My.ask_tuple,My.ask_list,My.ask_str,My.isa_bb,My.isa_bi,My.isa_ii,My.isa_ib,My.isa_tt,My.isa_ll,Bool.true_eq_false,Int.reduceToNat,Int.reducePow,Int.reduceLT,Int.reduceLE,Int.reduceNeg,Int.reduceAbs,Int.reduceSub,Int.reduceMul,Nat.reduceLT,Nat.reduceLeDiff,Nat.reducePow,Int.zero_add,true_or,or_true,eq_self])))
namespace My
open PySem PySem.Spec L2
open PyProof.Rows hiding St
theorem fsc{N P:List Str}{sc:Scope}(a:sc.kind=.function:=by rfl)(b:sc.isCoroutine=false:=by rfl)(c:sc.isGenerator=false:=by rfl)(d:N.Nodup:=by decide +kernel)(e:N.take P.length=P:=by rfl)(f:∀ x∈P,sc.names.lookup x=some .local\/sc.names.lookup x=some .cell:=by decide +kernel)(g:∀ y∈sc.names,y.2 ≠ .free:=by decide +kernel):FnScope N P sc:=⟨a,b,c,d,e,f,g⟩
variable {K:PySem.W.Frag}{mg:Str->Option Value}{fd:FuncData}{k:Nat}
theorem okR{P:Program}{w:World}{base:Heap}{x qual:Str}{st:Stmt}{f:Addr}{N ps:List Str}{sp:Sp}(F:Fun K x qual st f fd)(S:FnScope N ps (defScope st))(hb:∀ (cdv:Value) (A:Around) (outer:List Env) (s:Shared) (H:Hp) (vs:List V) (Q:VK) (E:XK),Room k (A.deeper (envOfC qual (defScope st) s.heap.objs.size f cdv))->sp vs H Q E->∃ t,QB (cxOf CX0 P w K mg base N qual (defScope st) f cdv A outer s H E).nox (defBody st) t/\t { nx:=λ_ H'=>Q .non H',rt:=Q } (start N vs) H)(len:∀ vs H Q E,sp vs H Q E->vs.length=ps.length:=by intro vs H Q E h; repeat (first | (obtain⟨e,_⟩:=h; subst e; rfl) | (obtain⟨_,h⟩:=h))):FnOk P w K mg base CX0 (k + 1) f fd ps sp:=okQ F S len hb
def top(i:Nat):Stmt:=PySem.Challenge.pw_roadshare_k42_greatest_of_the_least.main.body.getD i (.Pass ⟨0,0,0,0⟩)
abbrev s_is_whole:Stmt:=top 7
def sc_is_whole:FnScope ["thing"] ["thing"] (defScope s_is_whole):=fsc
abbrev s_greatest_divisor:Stmt:=top 8
def sc_greatest_divisor:FnScope ["one","other","larger","smaller","rest"] ["one","other"] (defScope s_greatest_divisor):=fsc
abbrev s_is_ratio:Stmt:=top 11
def sc_is_ratio:FnScope ["thing","top","bottom"] ["thing"] (defScope s_is_ratio):=fsc
abbrev s_ratio:Stmt:=top 12
def sc_ratio:FnScope ["top","bottom","divisor"] ["top","bottom"] (defScope s_ratio):=fsc
abbrev s_least_multiple:Stmt:=top 9
def sc_least_multiple:FnScope ["one","other"] ["one","other"] (defScope s_least_multiple):=fsc
abbrev s_common_bottom:Stmt:=top 13
def sc_common_bottom:FnScope ["some","bottom","one"] ["some"] (defScope s_common_bottom):=fsc
abbrev s_top_over:Stmt:=top 14
def sc_top_over:FnScope ["one","bottom"] ["one","bottom"] (defScope s_top_over):=fsc
abbrev s_is_price:Stmt:=top 29
def sc_is_price:FnScope ["thing"] ["thing"] (defScope s_is_price):=fsc
abbrev s_is_road:Stmt:=top 30
def sc_is_road:FnScope ["thing","many","to"] ["thing","many"] (defScope s_is_road):=fsc
abbrev s_look_roads:Stmt:=top 31
def sc_look_roads:FnScope ["thing","many","road"] ["thing"] (defScope s_look_roads):=fsc
abbrev s_way_from:Stmt:=top 32
def sc_way_from:FnScope ["roads","k","way","place"] ["roads","k"] (defScope s_way_from):=fsc
abbrev s_Tree___init__:Stmt:=inClass (top 33) 0
def sc_Tree___init__:FnScope ["self","roads"] ["self","roads"] (defScope s_Tree___init__):=fsc
abbrev s_Tree_many:Stmt:=inClass (top 33) 2
def sc_Tree_many:FnScope ["self"] ["self"] (defScope s_Tree_many):=fsc
abbrev s_Tree_price:Stmt:=inClass (top 33) 4
def sc_Tree_price:FnScope ["self","k"] ["self","k"] (defScope s_Tree_price):=fsc
abbrev s_Tree_leads_to:Stmt:=inClass (top 33) 3
def sc_Tree_leads_to:FnScope ["self","k"] ["self","k"] (defScope s_Tree_leads_to):=fsc
abbrev s_Tree_look_crossing:Stmt:=inClass (top 33) 7
def sc_Tree_look_crossing:FnScope ["self","k"] ["self","k"] (defScope s_Tree_look_crossing):=fsc
abbrev s_Tree_look_road:Stmt:=inClass (top 33) 8
def sc_Tree_look_road:FnScope ["self","k"] ["self","k"] (defScope s_Tree_look_road):=fsc
abbrev s_Tree_way:Stmt:=inClass (top 33) 5
def sc_Tree_way:FnScope ["self","k"] ["self","k"] (defScope s_Tree_way):=fsc
abbrev s_needed:Stmt:=top 16
def sc_needed:FnScope ["tree","homes","group","roads","name"] ["tree","homes","group"] (defScope s_needed):=fsc
abbrev s_far_roads_first:Stmt:=top 17
def sc_far_roads_first:FnScope ["tree","homes"] ["tree","homes"] (defScope s_far_roads_first):=fsc
abbrev s_bottom_of_prices:Stmt:=top 18
def sc_bottom_of_prices:FnScope ["tree","homes"] ["tree","homes"] (defScope s_bottom_of_prices):=fsc
abbrev s_whole_prices:Stmt:=top 19
def sc_whole_prices:FnScope ["tree","homes","bottom","prices","k"] ["tree","homes","bottom"] (defScope s_whole_prices):=fsc
abbrev s_whole_cost:Stmt:=top 20
def sc_whole_cost:FnScope ["tree","homes","group","prices"] ["tree","homes","group","prices"] (defScope s_whole_cost):=fsc
abbrev s_stairs:Stmt:=top 22
def sc_stairs:FnScope ["tree","homes","bottom","prices","group","told","joining","share","k"] ["tree","homes"] (defScope s_stairs):=fsc
abbrev s_homes_without:Stmt:=top 23
def sc_homes_without:FnScope ["homes","group","left","name"] ["homes","group"] (defScope s_homes_without):=fsc
abbrev s_cheapest:Stmt:=top 24
def sc_cheapest:FnScope ["tree","homes","prices","group","staying"] ["tree","homes","prices"] (defScope s_cheapest):=fsc
abbrev s_who_can_pay:Stmt:=top 25
def sc_who_can_pay:FnScope ["tree","homes","prices","brought","heads","left","name","k"] ["tree","homes","prices","brought","heads"] (defScope s_who_can_pay):=fsc
abbrev s_is_paid:Stmt:=top 26
def sc_is_paid:FnScope ["way","left"] ["way","left"] (defScope s_is_paid):=fsc
abbrev s_law_cell_at:Stmt:=top 35
def sc_law_cell_at:FnScope ["_law_script","_law_k"] ["_law_script","_law_k"] (defScope s_law_cell_at):=fsc
abbrev s_law_drawn:Stmt:=top 36
def sc_law_drawn:FnScope ["_law_cell","_law_bases","_law_row","_law_rest","_law_k","_law_base","_law_one"] ["_law_cell","_law_bases"] (defScope s_law_drawn):=fsc
abbrev s_law_low:Stmt:=top 37
def sc_law_low:FnScope ["_law_top","_law_bottom","_law_one","_law_other"] ["_law_top","_law_bottom"] (defScope s_law_low):=fsc
abbrev s_law_plus:Stmt:=top 38
def sc_law_plus:FnScope ["_law_one","_law_other"] ["_law_one","_law_other"] (defScope s_law_plus):=fsc
abbrev s_law_less:Stmt:=top 39
def sc_law_less:FnScope ["_law_one","_law_other"] ["_law_one","_law_other"] (defScope s_law_less):=fsc
abbrev s_law_under:Stmt:=top 40
def sc_law_under:FnScope ["_law_one","_law_other"] ["_law_one","_law_other"] (defScope s_law_under):=fsc
abbrev s_law_total:Stmt:=top 41
def sc_law_total:FnScope ["_law_some","_law_total_here","_law_one"] ["_law_some"] (defScope s_law_total):=fsc
abbrev s_law_price:Stmt:=top 42
def sc_law_price:FnScope ["_law_one","_law_other","_law_wide"] ["_law_one","_law_other","_law_wide"] (defScope s_law_price):=fsc
abbrev s_law_roads:Stmt:=top 43
def sc_law_roads:FnScope ["_law_script","_law_most","_law_head","_law_many","_law_base","_law_row","_law_roads_here","_law_k","_law_to","_law_place","_law_ahead"] ["_law_script","_law_most"] (defScope s_law_roads):=fsc
abbrev s_law_names:Stmt:=top 44
def sc_law_names:FnScope ["_law_cell","_law_many","_law_letters","_law_row","_law_size","_law_spot","_law_names_here","_law_k","_law_word","_law_j"] ["_law_cell","_law_many"] (defScope s_law_names):=fsc
abbrev s_law_homes:Stmt:=top 45
def sc_law_homes:FnScope ["_law_script","_law_roads_here","_law_most","_law_row","_law_names_here","_law_homes_here","_law_k"] ["_law_script","_law_roads_here","_law_most"] (defScope s_law_homes):=fsc
abbrev s_law_way:Stmt:=top 46
def sc_law_way:FnScope ["_law_roads_here","_law_k","_law_way_here"] ["_law_roads_here","_law_k"] (defScope s_law_way):=fsc
abbrev s_law_cost:Stmt:=top 47
def sc_law_cost:FnScope ["_law_roads_here","_law_homes_here","_law_group","_law_used","_law_name","_law_road"] ["_law_roads_here","_law_homes_here","_law_group"] (defScope s_law_cost):=fsc
abbrev s_law_copy:Stmt:=top 48
def sc_law_copy:FnScope ["_law_roads_here"] ["_law_roads_here"] (defScope s_law_copy):=fsc
abbrev s_law_groups:Stmt:=top 49
def sc_law_groups:FnScope ["_law_names_here","_law_groups_here","_law_name"] ["_law_names_here"] (defScope s_law_groups):=fsc
abbrev s_law_left:Stmt:=top 50
def sc_law_left:FnScope ["_law_roads_here","_law_homes_here","_law_group","_law_ahead"] ["_law_roads_here","_law_homes_here","_law_group","_law_ahead"] (defScope s_law_left):=fsc
abbrev s_law_due:Stmt:=top 51
def sc_law_due:FnScope ["_law_roads_here","_law_homes_here","_law_ahead","_law_found","_law_left_here","_law_best","_law_some","_law_group","_law_price_here","_law_mean"] ["_law_roads_here","_law_homes_here"] (defScope s_law_due):=fsc
abbrev s_law:Stmt:=top 52
def sc_law:FnScope ["_law_script","_law_roads_here","_law_homes_here"] ["_law_script"] (defScope s_law):=fsc
variable {Z:St}{H:Hp}
def if_go{c:TT}{a b:TS}{D:Ends}(h:∀ A:St->Hp->Prop,A=a D->∀ B:St->Hp->Prop,B=b D->c Z H λx H1=>if x=true then A Z H1 else B Z H1):tIfS c a b D Z H:=h _ rfl _ rfl
def seq_go{a b:TS}{D:Ends}(h:∀ B:St->Hp->Prop,B=b D->a { D with nx:=B } Z H):tSeq a b D Z H:=h _ rfl
def isW:V->Bool
 | .int _=>true
 | _=>false
def Th0(H:Hp)(x:V):Prop:=∃ t,kindV H x=some t
def sp_whole:Sp:=λvs H Q _=>∃ x,vs=[x]/\Th0 H x/\Q (.bl (isW x)) H
def sp_gcd:Sp:=λvs H Q _=>∃ a b:Int,vs=[.int a,.int b]/\Q (.int (Int.gcd a b)) H
def sp_cell(K:PySem.W.Frag):Sp:=λvs H Q _=>∃ (a:Addr) (ns:List Int) (k:Nat),vs=[.ref a,.int k]/\SqL K H a (ns.map V.int)/\∀ c:Int,Q (.int c) H
variable {P:Program}{w:World}{K:PySem.W.Frag}{mg:Str->Option Value}{base:Heap}{f:Addr}{fd:FuncData}{CT:Addr}{CNP:Addr}{pt:Addr}{c:Addr}
variable {x:V}
def isW_kind{t:String}(e:kindV H x=some t):(isA t "int" && !isA t "bool")=isW x:=by
 unfold kindV at e
 split at e
 ·cases e; rfl
 ·cases e; rfl
 ·cases e; rfl
 ·cases e; rfl
 ·split at e
  ·cases e; rfl
  ·cases e; rfl
  ·cases e; rfl
  ·cases e
 ·cases e
def ok_is_whole(F:Fun K "is_whole" "is_whole" s_is_whole f fd)(n_isinstance:mg "isinstance"=none)(n_int:mg "int"=none)(n_bool:mg "bool"=none) :
  FnOk P w K mg base CX0 1 f fd ["thing"] sp_whole:=by
 refine okR F sc_is_whole λcdv A outer s H vs Q E hr h=>?_
 obtain⟨x,rfl,⟨t,ht⟩,q⟩:=h
 refine⟨_,(b_one (s_ret (q_and (q_inst rfl n_isinstance (a_c (q_v 0) (a_c (q_ty rfl n_int rfl) a_nil))) (q_one (q_not (q_inst rfl n_isinstance (a_c (q_v 0) (a_c (q_ty rfl n_bool rfl) a_nil)))))))),?_⟩
 rw [show start ["thing"] [x]=[some (x)] from rfl]
 rw [<- isW_kind ht] at q
 refine⟨_,rfl,x,"int",t,rfl,ht,by decide,_,rfl,?_⟩
 refine ite2 (λc=>?_) (λc=>?_)
 ·refine⟨_,rfl,x,"bool",t,rfl,ht,by decide,_,rfl,?_⟩
  rw [c] at q
  exact q
 ·rw [Bool.eq_false_iff.mpr c] at q
  exact q
def Pg(a b:Int)(H:Hp)(Z:St)(H':Hp):Prop:=∃ (l m:Int) (r:Option V),Z=[some (.int a),some (.int b),some (.int l),some (.int m),r]/\H'=H/\0<=l/\0<=m/\Int.gcd l m=Int.gcd a b
def ok_gcd(F:Fun K "greatest_divisor" "greatest_divisor" s_greatest_divisor f fd)(n_abs:mg "abs"=none) :
  FnOk P w K mg base CX0 1 f fd ["one","other"] sp_gcd:=by
 refine okR F sc_greatest_divisor λcdv A outer s H vs Q E hr h=>?_
 obtain⟨a,b,rfl,q⟩:=h
 refine⟨_,(b_cons (s_set 2 sc_greatest_divisor.nd (q_abs rfl n_abs (a_c (q_v 0) a_nil)))
   (b_cons (s_set 3 sc_greatest_divisor.nd (q_abs rfl n_abs (a_c (q_v 1) a_nil)))
   (b_cons (s_while Ys (t_ne (q_v 3) q_int) (b_cons (s_set 4 sc_greatest_divisor.nd (q_mod (q_v 2) (q_v 3)))
   (b_cons (s_set 2 sc_greatest_divisor.nd (q_v 3))
   (b_one (s_set 3 sc_greatest_divisor.nd (q_v 4))))))
   (b_one (s_ret (q_v 2)))))),?_⟩
 rw [show start ["one","other","larger","smaller","rest"] [.int a,.int b]=[some (.int a),some (.int b),none,none,none] from rfl]
 walk_at "rd"
 simp only [abs_ite]
 refine while_w (Pg a b H) (λZ _=>(slotI Z 3).toNat) ⟨_,_,none,rfl,rfl,by omega,by omega,gcd_abs a b⟩ ?_
 rintro Z H' ⟨l,m,r,rfl,rfl,hl,hm,hg⟩
 walk_at "rd"
 refine ite2 (λc=>?_) (λc=>?_)
 ·have hm':0 < m:=by omega
  refine⟨_,λZ' H' z=>z,hm',_,?_,rfl,m,l % m,some (.int (l % m)),rfl,rfl,hm,Vy _ (by omega),?_⟩
  ·exact emod_lt_nat hm'
  ·rw [gcd_turn]; exact hg
 ·have e:m=0:=by omega
  subst e
  have e2:(Int.gcd a b:Int)=l:=by rw [<- hg]; simp; omega
  rw [e2] at q
  exact q
def ok_cell(F:Fun K "_law_cell_at" "_law_cell_at" s_law_cell_at f fd)(n_len:mg "len"=none) :
  FnOk P w K mg base CX0 1 f fd ["_law_script","_law_k"] (sp_cell K):=by
 refine okR F sc_law_cell_at λcdv A outer s H vs Q E hr h=>?_
 obtain⟨a,ns,k,rfl,hS,q⟩:=h
 refine⟨_,(b_cons (s_if (t_lt (q_v 1) (q_lenS rfl n_len (a_c (q_v 0) a_nil))) (b_one (s_ret (q_ixS (q_v 0) (q_v 1)))) b_nil)
   (b_one (s_ret q_int))),?_⟩
 rw [show start ["_law_script","_law_k"] [.ref a,.int k]=[some (.ref a),some (.int k)] from rfl]
 walk_at "rd"
 refine⟨_,.inl hS,?_⟩
 rw [Yg]
 refine ite2 (λc=>?_) (λc=>?_)
 ·exact⟨_,hS,_,cell_in (by omega),q _⟩
 ·exact q _
def th0_int(i:Int):Th0 H (.int i):=⟨"int",rfl⟩
def RatV(H:Hp)(x:V)(q:Rat):Prop:=∃ p,x=.ref p/\H p=some (.tup [.int q.num,.int (q.den:Int)])
variable {q:Rat}
def RatV.same{H H':Hp}(h:RatV H x q)(s:Same H H'):RatV H' x q:=by
 obtain⟨p,e,h⟩:=h
 exact⟨p,e,s _ _ h⟩
def Big(b:Int):Prop:=b.natAbs < 2 ^ 8000
variable {n:Nat}
theorem Big.of{b:Int}(h:b.natAbs < 2 ^ n)(hn:n<=8000):Big b:=pow_mono h hn
def low_ratio{t b:Int}(hb:0 < b):t.fdiv (Int.gcd t b:Int)=(Rat.divInt t b).num/\b.fdiv (Int.gcd t b:Int)=((Rat.divInt t b).den:Int):=by
 have e:sgcd t b=(Int.gcd t b:Int):=by unfold sgcd; rw [if_neg (by omega)]
 have h:=ratio_parts (t:=t) (b:=b) (by omega)
 rw [<- e,fdiv_of_dvd (sgcd_dvd_left t b),fdiv_of_dvd (sgcd_dvd_right t b)]
 exact h
def sp_lowQ:Sp:=λvs H Q _=>∃ t b:Int,vs=[.int t,.int b]/\Big b/\0 < b/\∀ r H',Same H H'->RatV H' r (Rat.divInt t b)->Q r H'
def eqd_rat{x y:V}(hx:RatV H x q)(hy:RatV H y q):∃ p c,x=.ref p/\y=.ref c/\EqD H x y true 1:=by
 obtain⟨p,rfl,hp⟩:=hx
 obtain⟨c,rfl,hc⟩:=hy
 refine⟨p,c,rfl,rfl,?_⟩
 have h:=EqD.tup (e:=λ_=>true) (n:=0) hp hc λj x y h1 h2=>by
  rw [h1] at h2
  cases h2
  match j,h1 with
  | 0,h1=>cases h1; have z:=EqD.flat (H:=H) (x:=.int q.num) (y:=.int q.num) rfl rfl; rw [eqV_refl rfl] at z; exact z
  | 1,h1=>cases h1; have z:=EqD.flat (H:=H) (x:=.int (q.den:Int)) (y:=.int (q.den:Int)) rfl rfl; rw [eqV_refl rfl] at z; exact z
 exact h
def sp_ratio0:Sp:=λvs H Q _=>∃ t b:Int,vs=[.int t,.int b]/\Big b/\b ≠ 0/\∀ r H',Same H H'->RatV H' r (Rat.divInt t b)->Q r H'
section
variable {P:Program}{w:World}{K:PySem.W.Frag}{mg:Str->Option Value}{base:Heap}{f:Addr}{fd:FuncData}{dV:Value}{cNF:Addr}
def ok_ratio(F:FunD K "ratio" "ratio" s_ratio dV f fd)(F_is_whole:Fn P w K mg base CX0 1 "is_whole" ["thing"] sp_whole)(F_greatest_divisor:Fn P w K mg base CX0 1 "greatest_divisor" ["one","other"] sp_gcd) :
  FnOk P w K mg base CX0 2 f fd ["top","bottom"] sp_ratio0:=by
 refine okQD F sc_ratio (λvs H Q E h=>?_) (λcdv A outer s H vs Q E hr h=>?_)
 ·obtain⟨t,b,rfl,_⟩:=h; rfl
 obtain⟨t,b,rfl,hz,hb0,q⟩:=h
 refine⟨_,(b_cons (s_if (t_w (w_or (t_not (t_val (qfn F_is_whole hr (a_c (q_v 0) a_nil)))) (w_or1 (t_not (t_val (qfn F_is_whole hr (a_c (q_v 1) a_nil))))))) (b_one s_never) b_nil)
   (b_cons (s_if (t_eq (q_v 1) q_int) (b_one s_never) b_nil)
   (b_cons (s_set 2 sc_ratio.nd (qfn F_greatest_divisor hr (a_c (q_v 0) (a_c (q_v 1) a_nil))))
   (b_cons (s_if (t_lt (q_v 1) q_int) (b_one (s_set 2 sc_ratio.nd (q_neg (q_v 2)))) b_nil)
   (b_one (s_ret (q_tup (a_c (q_fdivL (q_v 0) (q_v 2)) (a_c (q_fdivL (q_v 1) (q_v 2)) a_nil))))))))),?_⟩
 rw [show start ["top","bottom","divisor"] [.int t,.int b]=[some (.int t),some (.int b),none] from rfl]
 refine seq_go λB hB=>?_
 refine if_go λA hA C hC=>?_
 walk_at "rd"
 simp only [sp_whole]
 walk_at "rd"
 refine⟨th0_int _,?_⟩
 rw [if_neg (by simp [isW])]
 refine⟨th0_int _,?_⟩
 rw [if_neg (by simp [isW])]
 subst hC
 walk_at "rd"
 subst hB
 try dsimp only
 refine seq_go λB hB=>?_
 refine if_go λA hA C hC=>?_
 walk_at "rd"
 refine ite2 (λc=>absurd c hb0) (λc=>?_)
 subst hC
 walk_at "rd"
 subst hB
 try dsimp only
 walk_at "rd"
 simp only [sp_gcd]
 walk_at "rd"
 have hne:=sgcd_ne (t:=t) c
 have hlog:(sgcd t b).natAbs.log2 < 9000:=by rw [sgcd_abs]; exact log2_lt_of (pow_mono (Yx (gcd_le_abs c) hz) (by omega)) (by omega)
 have fin:∀ (p:Addr) (H2:Hp),H p=none->Same H H2->H2 p=some (.tup [.int (t.fdiv (sgcd t b)),.int (b.fdiv (sgcd t b))])->Q (.ref p) H2:=λp H2 _ hs e=>q _ _ hs ⟨p,rfl,by
  rw [fdiv_of_dvd (sgcd_dvd_left t b),fdiv_of_dvd (sgcd_dvd_right t b),(ratio_parts c).1,(ratio_parts (t:=t) c).2] at e
  exact e⟩
 refine ite2 (λcb=>?_) (λcb=>?_)
 ·have e:sgcd t b=-(Int.gcd t b:Int):=by unfold sgcd; rw [if_pos cb]
  rw [e] at hne hlog fin
  exact⟨hne,hlog,hne,hlog,fin⟩
 ·have e:sgcd t b=(Int.gcd t b:Int):=by unfold sgcd; rw [if_neg cb]
  rw [e] at hne hlog fin
  exact⟨hne,hlog,hne,hlog,fin⟩
end
theorem den_lt(h:SzQ n q):(q.den:Int).natAbs < 2 ^ n:=by simpa using h.2
def psum(qs:List Rat)(i:Nat):Rat:=(qs.take i).foldl (· + ·) 0
variable {qs:List Rat}{i:Nat}
def psum_succ(h:qs[i]?=some q):psum qs (i + 1)=psum qs i + q:=by
 unfold psum
 rw [Yy,h,List.foldl_append]
 rfl
def RatsV(H:Hp)(xs:List V)(qs:List Rat):Prop:=xs.length=qs.length/\∀ (i:Nat) x q,xs[i]?=some x->qs[i]?=some q->RatV H x q
def sz_zero(h:n ≠ 0):SzQ n 0:=⟨VJ n,Nat.one_lt_two_pow h⟩
def SzQ.add{n m k:Nat}{p q:Rat}(hp:SzQ n p)(hq:SzQ m q)(h:n + m + 1<=k):SzQ k (p + q):=by
 rw [add_divInt]
 refine SzQ.mono (SzQ.of (n:=n + m + 1) (den_mul_ne p q) (add_lt_pow (mul_lt_pow hp.1 (den_lt hq)) (mul_lt_pow hq.1 (den_lt hp)) (by omega) (by omega)) (pow_mono (mul_lt_pow (den_lt hp) (den_lt hq)) (by omega))) h
def lcmN(a b:Nat):Nat:=a / Nat.gcd a b * b
def lcmN_eq{a b:Nat}(ha:0 < a):∃ c d,a=Nat.gcd a b * c/\b=Nat.gcd a b * d/\lcmN a b=Nat.gcd a b * c * d:=by
 have hg:0 < Nat.gcd a b:=Nat.gcd_pos_of_pos_left _ ha
 obtain⟨c,hc⟩:=Nat.gcd_dvd_left a b
 obtain⟨d,hd⟩:=Nat.gcd_dvd_right a b
 refine⟨c,d,hc,hd,?_⟩
 unfold lcmN
 have e:a / Nat.gcd a b=c:=Nat.div_eq_of_eq_mul_right hg hc
 rw [e]
 conv=>lhs; rw [hd]
 rw [<- Nat.mul_assoc,Nat.mul_comm c]
def lcmN_left{a b:Nat}(ha:0 < a):a ∣ lcmN a b:=by
 obtain⟨c,d,h1,h2,h3⟩:=lcmN_eq (b:=b) ha
 rw [h3]
 conv=>lhs; rw [h1]
 exact Nat.dvd_mul_right _ _
theorem lcmN_right{a b:Nat}(ha:0 < a):b ∣ lcmN a b:=by unfold lcmN; exact Nat.dvd_mul_left _ _
def lcmN_pos{a b:Nat}(ha:0 < a)(hb:0 < b):0 < lcmN a b:=Nat.mul_pos (Nat.div_pos (Nat.le_of_dvd ha (Nat.gcd_dvd_left a b)) (Nat.gcd_pos_of_pos_left _ ha)) hb
def lcmL(qs:List Rat)(i:Nat):Nat:=(qs.take i).foldl (λb q=>lcmN b q.den) 1
def lcmL_succ(h:qs[i]?=some q):lcmL qs (i + 1)=lcmN (lcmL qs i) q.den:=by
 unfold lcmL
 rw [Yy,h,List.foldl_append]
 rfl
def lcmL_ok(hz:∀ (i:Nat) q,qs[i]?=some q->SzQ n q):∀ i,i<=qs.length->0 < lcmL qs i/\lcmL qs i<=2 ^ (n * i)/\∀ (j:Nat) q,j < i->qs[j]?=some q->q.den ∣ lcmL qs i
 | 0,_=>⟨Nat.one_pos,Nat.one_le_two_pow,λj q h=>absurd h (VL j)⟩
 | i + 1,h=>by
  obtain⟨h1,h2,h3⟩:=lcmL_ok hz i (Yt h)
  have hq:=Yb h
  rw [lcmL_succ hq]
  refine⟨lcmN_pos h1 qs[i].den_pos,?_,λj q hj hq2=>?_⟩
  ·unfold lcmN
   refine Yi (Nat.mul_le_mul (Yi (V2 _ _) h2) (Yt (hz i _ hq).2)) ?_
   rw [<- Nat.pow_add,Nat.mul_succ]
   exact Yd _
  ·by_cases c:j=i
   ·subst c
    rw [hq] at hq2
    cases hq2
    exact lcmN_right h1
   ·exact Nat.dvd_trans (h3 j q (by omega) hq2) (lcmN_left h1)
def LcOk(qs:List Rat):Prop:=(∀ (i:Nat) q,qs[i]?=some q->SzQ 4000 q)/\∀ i,i<=qs.length->lcmL qs i<=2 ^ 4000
def lcOk_of(hz:∀ (i:Nat) q,qs[i]?=some q->SzQ n q)(hn:n * qs.length<=4000):LcOk qs :=
 ⟨λi q h=>(hz i q h).mono (Yi (Nat.le_mul_of_pos_right _ (Yx (YD _) (Yf.mp h).1)) hn),λi hi=>Yi (lcmL_ok hz i hi).2.1 (Vt (by decide) (Yi (Nat.mul_le_mul_left _ hi) hn))⟩
def topN(B:Nat)(q:Rat):Int:=q.num * ((B:Int) / (q.den:Int))
def top_rat{B:Nat}(hB:0 < B)(h:q.den ∣ B):Rat.divInt (topN B q) (B:Int)=q:=by
 obtain⟨c,rfl⟩:=h
 have hd:=q.den_pos
 have hc:(c:Int) ≠ 0:=by
  intro z
  have:c=0:=by omega
  rw [this] at hB
  simp at hB
 unfold topN
 rw [Int.natCast_mul,Int.mul_ediv_cancel_left _ (by omega),Rat.divInt_mul_right hc]
 exact Vv q
def add_same{a b c:Int}(h:c ≠ 0):Rat.divInt a c + Rat.divInt b c=Rat.divInt (a + b) c:=by
 rw [Rat.divInt_add_divInt _ _ h h,<- Int.add_mul,Rat.divInt_mul_right h]
def sp_lcm:Sp:=λvs H Q _=>∃ a b:Nat,vs=[.int a,.int b]/\0 < a/\0 < b/\a<=2 ^ 4000/\b<=2 ^ 4000/\Q (.int (lcmN a b:Nat)) H
def sp_common(K:PySem.W.Frag):Sp:=λvs H Q _=>∃ (a:Addr) (xs:List V) (qs:List Rat),vs=[.ref a]/\SqL K H a xs/\RatsV H xs qs/\LcOk qs/\Q (.int (lcmL qs qs.length:Nat)) H
def sp_top:Sp:=λvs H Q _=>∃ (x:V) (q:Rat) (B:Nat),vs=[x,.int B]/\RatV H x q/\SzQ 4000 q/\B<=2 ^ 4000/\Q (.int (topN B q)) H
def abs_le{a n:Nat}(h:a<=2 ^ n):((a:Nat):Int).natAbs < 2 ^ (n + 1):=by
 rw [VE,Nat.pow_succ]
 have:=VJ n
 omega
def ok_lcm(F:Fun K "least_multiple" "least_multiple" s_least_multiple f fd)(F_greatest_divisor:Fn P w K mg base CX0 1 "greatest_divisor" ["one","other"] sp_gcd):FnOk P w K mg base CX0 2 f fd ["one","other"] sp_lcm:=by
 refine okR F sc_least_multiple λcdv A outer s H vs Q E hr h=>?_
 obtain⟨a,b,rfl,ha,hb,za,zb,q⟩:=h
 refine⟨_,(b_one (s_ret (q_mulL (q_fdivL (q_v 0) (qfn F_greatest_divisor hr (a_c (q_v 0) (a_c (q_v 1) a_nil)))) (q_v 1)))),?_⟩
 rw [show start ["one","other"] [.int a,.int b]=[some (.int a),some (.int b)] from rfl]
 walk_at "rd"
 simp only [sp_gcd]
 walk_at "rd"
 have eg:Int.gcd (a:Int) (b:Int)=Nat.gcd a b:=rfl
 have hg:0 < Nat.gcd a b:=Nat.gcd_pos_of_pos_left _ ha
 have hga:Nat.gcd a b<=a:=Nat.le_of_dvd ha (Nat.gcd_dvd_left a b)
 have ef:(a:Int).fdiv (Int.gcd (a:Int) (b:Int):Int)=((a / Nat.gcd a b:Nat):Int):=by
  rw [eg,VS _ (by omega)]
  rfl
 refine⟨by rw [eg]; omega,?_,?_,?_⟩
 ·rw [eg]
  exact log2_lt_of (pow_mono (abs_le (Yi hga za)) (by decide)) (by decide)
 ·rw [ef]
  exact mulOk (abs_le (Yi (V2 _ _) za)) (abs_le zb) (by decide)
 ·rw [ef,<- Int.natCast_mul]
  exact q
variable {a:Addr}{xs:List V}
def forL{g:TG}{tb:TS}{D:Ends}{te:TE}(hv:∀ R:V->Hp->Prop,R (.ref a) H->te Z H R)(hS:SqL K H a xs)(Pv:Nat->St->Hp->Prop)(h0:Pv 0 Z H)(hl:∀ i Z H,i<=xs.length->Pv i Z H->SqL K H a xs)
  (hs:∀ i x Z H,xs[i]?=some x->Pv i Z H->g x Z H λZ2 H2=>tb { D with nx:=Pv (i + 1),ct:=Pv (i + 1),bk:=D.nx } Z2 H2) (hd:∀ Z H,Pv xs.length Z H->D.nx Z H):tFor (iList K te) g tb D Z H :=
 hv _ ⟨a,rfl,⟨xs,hS⟩,for_list Pv h0 hl hs hd⟩
def Pcb(a:Addr)(qs:List Rat)(H0:Hp)(i:Nat)(Z:St)(H:Hp):Prop:=H=H0/\∃ o,Z=[some (.ref a),some (.int (lcmL qs i:Nat)),o]
def ok_common(F:Fun K "common_bottom" "common_bottom" s_common_bottom f fd)(F_least_multiple:Fn P w K mg base CX0 2 "least_multiple" ["one","other"] sp_lcm):FnOk P w K mg base CX0 3 f fd ["some"] (sp_common K):=by
 refine okR F sc_common_bottom λcdv A outer s H vs Q E hr h=>?_
 obtain⟨a,xs,qs,rfl,hS,hR,hz,q⟩:=h
 refine⟨_,(b_cons (s_set 1 sc_common_bottom.nd q_int)
   (b_cons (s_for Ys (i_list (q_v 0)) (g_name 2 sc_common_bottom.nd) (b_one (s_set 1 sc_common_bottom.nd (qfn F_least_multiple hr (a_c (q_v 1) (a_c (q_ixT (q_v 2) q_int) a_nil))))))
   (b_one (s_ret (q_v 1))))),?_⟩
 rw [show start ["some","bottom","one"] [.ref a]=[some (.ref a),none,none] from rfl]
 walk_at "rd"
 refine forL (xs:=xs) (λR h=>by first | exact⟨_,rfl,h⟩ | (walk_at "rd"; exact h)) hS (Pcb a qs H) ⟨rfl,_,rfl⟩ (λi Z H' _ h=>by rw [h.1]; exact hS) (λi x Z H' hx h=>?_) (λZ H' h=>?_)
 ·obtain⟨rfl,o,rfl⟩:=h
  have hi:i < qs.length:=by rw [<- hR.1]; exact (Yf.mp hx).1
  have hq:=Yb hi
  obtain⟨p,rfl,hp⟩:=hR.2 _ _ _ hx hq
  obtain⟨h1,_,_⟩:=lcmL_ok hz.1 i (Yt hi)
  have h2:=hz.2 i (Yt hi)
  walk_at "rd"
  simp only [sp_lcm]
  walk_at "rd"
  refine⟨_,hp,_,rfl,lcmL qs i,rfl,qs[i].den,rfl,h1,qs[i].den_pos,h2,Yt (hz.1 i _ hq).2,rfl,some (.ref p),by rw [lcmL_succ hq]⟩
 ·obtain⟨rfl,o,rfl⟩:=h
  rw [hR.1]
  walk_at "rd"
  exact q
def ok_top(F:Fun K "top_over" "top_over" s_top_over f fd):FnOk P w K mg base CX0 1 f fd ["one","bottom"] sp_top:=by
 refine okR F sc_top_over λcdv A outer s H vs Q E hr h=>?_
 obtain⟨x,t,B,rfl,⟨p,rfl,hp⟩,z,zB,q⟩:=h
 refine⟨_,(b_one (s_ret (q_mulL (q_ixT (q_v 0) q_int) (q_fdivL (q_v 1) (q_ixT (q_v 0) q_int))))),?_⟩
 rw [show start ["one","bottom"] [.ref p,.int B]=[some (.ref p),some (.int B)] from rfl]
 walk_at "rd"
 simp only [hp]
 walk_at "rd"
 have hd:=t.den_pos
 have ef:(B:Int).fdiv (t.den:Int)=(B:Int) / (t.den:Int):=VS _ (by omega)
 have en:(B:Int) / (t.den:Int)=((B / t.den:Nat):Int):=rfl
 refine⟨by omega,log2_lt_of (pow_mono (den_lt z) (by decide)) (by decide),?_,?_⟩
 ·rw [ef,en]
  exact mulOk z.1 (abs_le (Yi (V2 _ _) zB)) (by decide)
 ·rw [ef]
  exact q
def num_nonneg{t b:Int}(ht:0<=t)(hb:0 < b):0<=(Rat.divInt t b).num:=by
 rw [<- (low_ratio hb).1]
 exact Int.fdiv_nonneg ht (by omega)
def RoadV(H:Hp)(x:V)(r:Nat × Rat):Prop:=∃ p y,x=.ref p/\H p=some (.tup [.int r.1,y])/\RatV H y r.2
def RoadsV(H:Hp)(xs:List V)(rs:List (Nat × Rat)):Prop:=xs.length=rs.length/\∀ (i:Nat) x r,xs[i]?=some x->rs[i]?=some r->RoadV H x r
def TreeOk(rs:List (Nat × Rat)):Prop:=∃ rank:Nat->Nat,rank 0=0/\(∀ v,rank v<=rs.length)/\∀ (k:Nat) r,rs[k]?=some r->r.1<=rs.length/\rank r.1 < rank (k + 1)
def intL(lo:Int)(n:Nat):List Int:=(List.range n).map λk:Nat=>lo + (k:Int)
theorem ints_len{lo:Int}:(intL lo n).length=n:=by simp [intL]
def ints_mem{lo:Int}{x:Int}(h:x∈intL lo n):lo<=x/\x < lo + n:=by
 obtain⟨k,hk,e⟩:=Yk.mp h
 have:=YL.mp hk
 omega
def ints_nodup{lo:Int}:(intL lo n).Nodup:=by
 refine List.Pairwise.map _ (λa b h=>?_) List.nodup_range
 intro e
 exact h (by omega)
theorem ixN_at{n i:Nat}(h:i < n):ixN n (i:Int)=some i:=by
 unfold ixN
 simp
 omega
def Pr(H0:Hp)(a p pn:Addr)(m c n:Int)(b:Bool)(zs:List V)(i:Nat)(Z:St)(H:Hp):Prop:=∃ (o1 o2 o3:Option V) (ts:List Int),Z=[some (.ref a),some (.int m),some (.int c),some (.int n),some (.bl b),some (.ref p),o1,o2,o3,none,none,none] /\
 Same H0 H/\H p=some (.lst (ts.map V.int))/\H pn=some (.lst zs)/\ts.Perm (intL 1 n.toNat)
theorem Pr.at{H0:Hp}{a p pn:Addr}{m c n:Int}{b:Bool}{zs:List V}(h:Pr H0 a p pn m c n b zs i Z H):SqL K H pn zs:=let ⟨_,_,_,_,_,_,_,e,_⟩:=h; .of e
def Laid(H:Hp)(ts:List Int)(ys:List V)(j:Nat):Prop:=∃ (k:Nat) (x:V) (r:Nat × Rat),ts[j]?=some ((k:Int) + 1)/\ys[k]?=some x/\RoadV H x r/\SzQ 110 r.2/\0<=r.2.num/\(r.1=0\/∃ j',j' < j/\ts[j']?=some (r.1:Int))
def Pq(H0:Hp)(a p acc pp pn:Addr)(m c n:Int)(b:Bool)(ts ps:List Int)(zs:List V)(i:Nat)(Z:St)(H:Hp):Prop:=∃ (o1 o2 o3 o4:Option V) (ys:List V),Z=[some (.ref a),some (.int m),some (.int c),some (.int n),some (.bl b),some (.ref p),o1,o2,o3,some (.ref acc),some (.ref pp),o4] /\
 Same H0 H/\H p=some (.lst (ts.map V.int))/\H pp=some (.lst (ps.map V.int))/\H pn=some (.lst zs)/\H acc=some (.lst ys)/\(ys.length:Int)=n/\∀ j,j < i->Laid H ts ys j
theorem Pq.at{H0:Hp}{a p acc pp pn:Addr}{m c n:Int}{b:Bool}{ts ps:List Int}{zs:List V}(h:Pq H0 a p acc pp pn m c n b ts ps zs i Z H):SqL K H pn zs:=let ⟨_,_,_,_,_,_,_,_,_,e,_⟩:=h; .of e
def RoadV.same{H H':Hp}{r:Nat × Rat}(h:RoadV H x r)(s:Same H H'):RoadV H' x r:=let ⟨p,y,e,h1,h2⟩:=h; ⟨p,y,e,s _ _ h1,h2.same s⟩
theorem RoadV.upd{r:Nat × Rat}{l:Addr}{ys:List V}{o:HO}(h:RoadV H x r)(hl:H l=some (.lst ys)):RoadV (upd H l o) x r:=by
 obtain⟨p,y,e,h1,z,e2,h3⟩:=h
 exact⟨p,y,e,by rw [upd_ne (ne_of h1 hl (by intro z; cases z))]; exact h1,z,e2,by rw [upd_ne (ne_of h3 hl (by intro z; cases z))]; exact h3⟩
variable {α:Type}
def list_choose[Inhabited α]{n:Nat}{P:Nat->α->Prop}(h:∀ k,k < n->∃ r,P k r):∃ rs:List α,rs.length=n/\∀ (k:Nat) r,rs[k]?=some r->P k r:=by
 induction n with
 | zero=>exact⟨[],rfl,λk r e=>by simp at e⟩
 | succ n ih =>
  obtain⟨rs,hl,hr⟩:=ih λk hk=>h k (by omega)
  obtain⟨r0,h0⟩:=h n (by omega)
  refine⟨rs ++ [r0],by simp [hl],λk r e=>?_⟩
  by_cases hk:k < rs.length
  ·rw [YC hk] at e; exact hr k r e
  ·rw [YA (by omega)] at e
   have hk2:k=n:=by
    have:=(Yf.mp e).1
    simp at this; omega
   subst hk2
   simp [hl] at e
   rw [<- e]; exact h0
open Classical in
noncomputable def rankOf(ts:List Int)(v:Nat):Nat:=if h:∃ j:Nat,ts[j]?=some (v:Int) then h.choose + 1 else 0
def rank_at{ts:List Int}(hnd:ts.Nodup){j v:Nat}(h:ts[j]?=some (v:Int)):rankOf ts v=j + 1:=by
 have hh:∃ j:Nat,ts[j]?=some (v:Int):=⟨j,h⟩
 unfold rankOf
 rw [dif_pos hh]
 have e:=hh.choose_spec
 have:=(List.getElem?_inj (Yf.mp e).1 hnd).mp (e.trans h.symm)
 omega
def rank_le{ts:List Int}{v:Nat}:rankOf ts v<=ts.length:=by
 unfold rankOf
 split
 ·rename_i hh
  exact (Yf.mp hh.choose_spec).1
 ·exact YD _
def mem_ints{lo:Int}(h:k < n):lo + (k:Int)∈intL lo n:=Yk.mpr ⟨k,YL.mpr h,rfl⟩
def roads_of{ts:List Int}{ys:List V}(hpm:ts.Perm (intL 1 n))(hy:ys.length=n)(h:∀ j,j < n->Laid H ts ys j):∃ rs:List (Nat × Rat),RoadsV H ys rs/\TreeOk rs/\rs.length=n/\∀ r∈rs,SzQ 110 r.2/\0<=r.2.num:=by
 have hl:ts.length=n:=by rw [hpm.length_eq,ints_len]
 have hnd:ts.Nodup:=hpm.nodup_iff.mpr ints_nodup
 have hbd:∀ x∈ts,1<=x/\x<=n:=λx hx=>by have:=ints_mem (hpm.mem_iff.mp hx); omega
 obtain⟨rs,hrl,hr⟩:=list_choose (α:=Nat × Rat) (n:=n) (P:=λk r=>∃ x,ys[k]?=some x/\RoadV H x r/\SzQ 110 r.2/\0<=r.2.num/\∃ j,ts[j]?=some (((k + 1:Nat)):Int)/\(r.1=0\/∃ j',j' < j/\ts[j']?=some (r.1:Int))) λk hk=>by
  have hm:(1:Int) + (k:Int)∈ts:=hpm.mem_iff.mpr (mem_ints hk)
  obtain⟨j,hj⟩:=Y5 hm
  obtain⟨k',x,r,g1,g2,g3,g4,g5,g6⟩:=h j (by rw [<- hl]; exact (Yf.mp hj).1)
  have hkk:k'=k:=by rw [hj] at g1; have:=YK g1; omega
  subst hkk
  exact⟨r,x,g2,g3,g4,g5,j,by rw [g1]; simp,g6⟩
 have rz:rankOf ts 0=0:=by
  unfold rankOf
  rw [dif_neg λ⟨j,hj⟩=>by have:=hbd _ (List.mem_of_getElem? hj); simp at this]
 refine⟨rs,⟨by omega,λi x r h1 h2=>?_⟩,⟨rankOf ts,rz,λv=>by rw [hrl,<- hl]; exact rank_le,λk r h1=>?_⟩,hrl,λr hm=>?_⟩
 ·obtain⟨x',g,g2,_⟩:=hr i r h2
  rw [h1] at g
  cases g
  exact g2
 ·obtain⟨x',_,_,_,_,j,hj,hc⟩:=hr k r h1
  rcases hc with z | ⟨j',hlt,hj'⟩
  ·exact⟨by omega,by rw [z,rz,rank_at hnd hj]; omega⟩
  ·have:=hbd _ (Yo hj')
   exact⟨by omega,by rw [rank_at hnd hj',rank_at hnd hj]; omega⟩
 ·obtain⟨k,hk⟩:=Y5 hm
  obtain⟨_,_,_,g4,g5,_⟩:=hr k r hk
  exact⟨g4,g5⟩
theorem cxK{CX:CXT}{N:List Str}{qual:Str}{scope:Scope}{cd:Value}{A:Around}{outer:List Env}{s:Shared}{E:XK}:(cxOf CX P w K mg base N qual scope f cd A outer s H E).K=K:=rfl
inductive WayR (rs:List (Nat × Rat)):Nat->List Nat->Prop where
 | nil:WayR rs 0 []
 | cons {k:Nat}{r:Nat × Rat}{w:List Nat}(h:rs[k]?=some r) (hw:WayR rs r.1 w):WayR rs (k + 1) ((k + 1) :: w)
variable {rs:List (Nat × Rat)}
def WayR.uniq{w:List Nat}(h:WayR rs k w):∀ {w':List Nat},WayR rs k w'->w'=w:=by
 induction h with
 | nil=>intro w' h'; cases h'; rfl
 | cons h _ ih =>
  intro w' h'
  cases h' with
  | cons h2 hw2 =>
   rw [h] at h2
   cases h2
   rw [ih hw2]
def way_some(T:TreeOk rs){k:Nat}(hk:k<=rs.length):∃ w,WayR rs k w/\w.length<=rs.length:=by
 obtain⟨rank,r0,hb,hr⟩:=T
 have key:∀ m k,k<=rs.length->rank k<=m->∃ w,WayR rs k w/\w.length<=rank k:=by
  intro m
  induction m with
  | zero =>
   intro k hk hm
   cases k with
   | zero=>exact⟨[],.nil,YD _⟩
   | succ j =>
    have h2:=(hr j _ (Yb (l:=rs) (i:=j) (by omega))).2
    omega
  | succ m ih =>
   intro k hk hm
   cases k with
   | zero=>exact⟨[],.nil,YD _⟩
   | succ j =>
    have e:=Yb (l:=rs) (i:=j) (by omega)
    obtain⟨h1,h2⟩:=hr j _ e
    obtain⟨w,hw,hl⟩:=ih rs[j].1 h1 (by omega)
    exact⟨(j + 1) :: w,.cons e hw,by simp; omega⟩
 obtain⟨w,hw,hl⟩:=key _ k hk (Yd _)
 exact⟨w,hw,Yi hl (hb k)⟩
theorem WayR.mem{w:List Nat}(h:WayR rs k w):∀ x∈w,1<=x/\x<=rs.length:=by
 induction h with
 | nil=>intro x hx; cases hx
 | cons h _ ih =>
  intro x hx
  rcases Yl.mp hx with z | z
  ·have:=(Yf.mp h).1
   omega
  ·exact ih x z
open Classical in
noncomputable def wayM(rs:List (Nat × Rat))(k:Nat):Nat:=if h:∃ w,WayR rs k w then h.choose.length else 0
def wayM_at{w:List Nat}(h:WayR rs k w):wayM rs k=w.length:=by
 have hh:∃ w,WayR rs k w:=⟨w,h⟩
 unfold wayM
 rw [dif_pos hh,h.uniq hh.choose_spec]
def natV(w:List Nat):List V:=w.map λk:Nat=>V.int (k:Int)
theorem WayR.zero{w:List Nat}(h:WayR rs 0 w):w=[]:=by cases h; rfl
def Pl(a b:Int)(H:Hp)(Z:St)(H':Hp):Prop:=∃ l m:Int,Z=[some (.int a),some (.int b),some (.int l),some (.int m)]/\H'=H/\0<=l/\0<=m/\Int.gcd l m=Int.gcd a b
theorem gcd_abs2(a b:Int):Int.gcd (a.natAbs:Int) (b.natAbs:Int)=Int.gcd a b:=by simp [Int.gcd]
def ok_lowT(F:Fun K "_law_low" "_law_low" s_law_low f fd)(n_abs:mg "abs"=none):FnOk P w K mg base CX0 1 f fd ["_law_top","_law_bottom"] sp_lowQ:=by
 refine okR F sc_law_low λcdv A outer s H vs Q E hr h=>?_
 obtain⟨a,b,rfl,hz,hb,q⟩:=h
 refine⟨_,(b_cons (s_set 2 sc_law_low.nd (q_abs rfl n_abs (a_c (q_v 0) a_nil)))
   (b_cons (s_set 3 sc_law_low.nd (q_abs rfl n_abs (a_c (q_v 1) a_nil)))
   (b_cons (s_while Ys (t_gt (q_v 3) q_int) (b_one (s_par 2 3 sc_law_low.nd (a_c (q_v 3) (a_c (q_mod (q_v 2) (q_v 3)) a_nil)))))
   (b_cons (s_if (t_lt (q_v 1) q_int) (b_one (s_set 2 sc_law_low.nd (q_neg (q_v 2)))) b_nil)
   (b_one (s_ret (q_tup (a_c (q_fdivL (q_v 0) (q_v 2)) (a_c (q_fdivL (q_v 1) (q_v 2)) a_nil))))))))),?_⟩
 rw [show start ["_law_top","_law_bottom","_law_one","_law_other"] [.int a,.int b]=[some (.int a),some (.int b),none,none] from rfl]
 walk_at "rd"
 simp only [abs_ite]
 refine while_w (Pl a b H) (λZ _=>(slotI Z 3).toNat) ⟨_,_,rfl,rfl,by omega,by omega,gcd_abs2 a b⟩ ?_
 rintro Z H' ⟨l,m,rfl,rfl,hl,hm,hg⟩
 walk_at "rd"
 refine ite2 (λc=>?_) (λc=>?_)
 ·refine⟨_,λZ' H' z=>z,c,_,emod_lt_nat c,rfl,m,l % m,rfl,rfl,hm,Vy _ (by omega),?_⟩
  rw [gcd_turn]; exact hg
 ·have e:m=0:=by omega
  subst e
  have e2:l=(Int.gcd a b:Int):=by rw [<- hg]; simp; omega
  subst e2
  have h1:=VQ a (Int.ne_of_gt hb)
  have h3:(Int.gcd a b:Int).natAbs.log2 < 9000:=log2_lt_of (pow_mono (Yx (gcd_le_abs (Int.ne_of_gt hb)) hz) (by omega)) (by omega)
  refine ite2 (λc2=>absurd c2 (by omega)) (λ_=>⟨by omega,h3,by omega,h3,λp H' _ hs e=>q _ H' hs ⟨p,rfl,?_⟩⟩)
  rw [(low_ratio hb).1,(low_ratio (t:=a) hb).2] at e
  exact e
def sp_way:Sp:=λvs H Q _=>∃ (a:Addr) (xs:List V) (rs:List (Nat × Rat)) (k:Nat) (w:List Nat),vs=[.ref a,.int k]/\H a=some (.lst xs)/\RoadsV H xs rs/\WayR rs k w/\w.length<=1000/\∀ p H',H p=none->Same H H'->H' p=some (.lst (natV w))->Q (.ref p) H'
def Pw(H0:Hp)(a p:Addr)(rs:List (Nat × Rat))(w0:List Nat)(Z:St)(H:Hp):Prop:=∃ (k:Nat) (pre w:List Nat),Z=[some (.ref a),some (.int k),some (.ref p)]/\Same H0 H/\H p=some (.lst (natV pre))/\WayR rs k w/\w0=pre ++ w
def ok_way(F:Fun K "_law_way" "_law_way" s_law_way f fd):FnOk P w K mg base CX0 1 f fd ["_law_roads_here","_law_k"] sp_way:=by
 refine okR F sc_law_way λcdv A outer s H vs Q E hr h=>?_
 obtain⟨a,xs,rs,k,w0,rfl,ha,hR,hw0,hwl,q⟩:=h
 refine⟨_,(b_cons (s_set 2 sc_law_way.nd (q_lst a_nil))
   (b_cons (s_while Ys (t_gt (q_v 1) q_int) (b_cons (s_expr (q_app (q_v 2) (a_c (q_v 1) a_nil)))
   (b_one (s_set 1 sc_law_way.nd (q_ixT (q_ixL (q_v 0) (q_sub (q_v 1) q_int)) q_int)))))
   (b_one (s_ret (q_v 2))))),?_⟩
 rw [show start ["_law_roads_here","_law_k","_law_way_here"] [.ref a,.int k]=[some (.ref a),some (.int k),none] from rfl]
 walk_at "rd"
 intro p H1 hp s1 e1
 refine while_w (Pw H a p rs w0) (λZ _=>wayM rs (slotI Z 1).toNat) ⟨k,[],w0,rfl,s1,e1,hw0,rfl⟩ ?_
 rintro Z H2 ⟨k,pre,w,rfl,s2,e2,hw,hw1⟩
 walk_at "rd"
 have hap:a ≠ p:=λz=>by rw [z,hp] at ha; cases ha
 refine ite2 (λhc=>?_) (λhc=>?_)
 ·cases hw with
  | nil=>exact absurd hc (by simp)
  | @cons k r w h hw' =>
   have hkl:k < rs.length:=(Yf.mp h).1
   have hkx:k < xs.length:=by rw [hR.1]; exact hkl
   obtain⟨pr,y,ex,hpr,hy⟩:=hR.2 k _ r (Yb hkx) h
   have hrp:pr ≠ p:=λz=>by rw [z,hp] at hpr; cases hpr
   have hlen:(natV pre).length < 1000000:=by
    have:=congrArg List.length hw1
    simp [natV] at this ⊢
    omega
   refine⟨λZ' H'=>Z'=[some (.ref a),some (.int r.1),some (.ref p)]/\Pw H a p rs w0 Z' H',λZ' H' ⟨e,hP⟩=>⟨_,?_,rfl,hP⟩,⟨_,e2⟩,_,e2,hlen,xs,by rw [upd_ne hap]; exact s2 _ _ ha,xs[k],?_,pr,ex,_,by rw [upd_ne hrp]; exact s2 _ _ hpr,_,rfl,rfl,?_⟩
   ·subst e
    show wayM rs ((r.1:Nat):Int).toNat < wayM rs (((k + 1:Nat)):Int).toNat
    rw [Y9,Y9,wayM_at hw',wayM_at (.cons h hw')]
    simp
   ·rw [show (((k + 1:Nat)):Int) - 1=(k:Int) by omega]
    exact atI_nat (Yb hkx)
   ·exact⟨r.1,pre ++ [k + 1],w,rfl,same_upd hp s2,by rw [upd_same]; simp [natV],hw',by simp [hw1]⟩
 ·have hk0:k=0:=by omega
  subst hk0
  have e:=hw.zero
  subst e
  rw [Vb] at hw1
  subst hw1
  exact q p H2 hp s2 e2
def PrP(H:Hp)(x:V):Prop:=∃ a t b,x=.ref a/\H a=some (.tup [.int t,.int b])/\1<=b/\Int.gcd t b=1/\0<=t
def RdP(H:Hp)(x:V)(n:Int):Prop:=∃ a t y,x=.ref a/\H a=some (.tup [.int t,y])/\0<=t/\t < n/\PrP H y
def sp_fr:Sp:=λvs H Q _=>∃ x,vs=[x]/\PrP H x/\Q (.bl true) H
def sp_isprice:Sp:=λvs H Q _=>∃ x,vs=[x]/\PrP H x/\Q (.bl true) H
def sp_isroad:Sp:=λvs H Q _=>∃ x n,vs=[x,.int n]/\RdP H x n/\Q (.bl true) H
def ok_is_ratio(F:Fun K "is_ratio" "is_ratio" s_is_ratio f fd)(n_isinstance:mg "isinstance"=none)(n_tuple:mg "tuple"=none)(n_len:mg "len"=none)
  (F_is_whole:Fn P w K mg base CX0 1 "is_whole" ["thing"] sp_whole) (F_greatest_divisor:Fn P w K mg base CX0 1 "greatest_divisor" ["one","other"] sp_gcd) :
  FnOk P w K mg base CX0 2 f fd ["thing"] sp_fr:=by
 refine okR F sc_is_ratio λcdv A outer s H vs Q E hr h=>?_
 obtain⟨x,rfl,⟨a,t,b,rfl,ha,h1,h2,h3⟩,q⟩:=h
 refine⟨_,(b_cons (s_if (t_w (w_or (t_not (t_val (q_inst rfl n_isinstance (a_c (q_v 0) (a_c (q_ty rfl n_tuple rfl) a_nil))))) (w_or1 (t_ne (q_len rfl n_len (a_c (q_v 0) a_nil)) q_int)))) (b_one (s_ret q_bl)) b_nil)
   (b_cons (s_set 1 sc_is_ratio.nd (q_ixT (q_v 0) q_int))
   (b_cons (s_set 2 sc_is_ratio.nd (q_ixT (q_v 0) q_int))
   (b_cons (s_if (t_w (w_or (t_not (t_val (qfn F_is_whole hr (a_c (q_v 1) a_nil)))) (w_or1 (t_not (t_val (qfn F_is_whole hr (a_c (q_v 2) a_nil))))))) (b_one (s_ret q_bl)) b_nil)
   (b_one (s_ret (q_and (q_ge (q_v 2) q_int) (q_one (q_eq (qfn F_greatest_divisor hr (a_c (q_v 1) (a_c (q_v 2) a_nil))) q_int))))))))),?_⟩
 rw [show start ["thing","top","bottom"] [.ref a]=[some (.ref a),none,none] from rfl]
 refine seq_go λB hB=>?_
 refine if_go λA hA C hC=>?_
 walk_at "rd"
 simp only [kind_tup ha,ha]
 walk_at "rd"
 rw [if_neg (by decide)]
 subst hC
 walk_at "rd"
 subst hB
 try dsimp only
 refine seq_go λB hB=>?_
 walk_at "rd"
 refine⟨_,ha,_,rfl,?_⟩
 subst hB
 try dsimp only
 refine seq_go λB hB=>?_
 walk_at "rd"
 refine⟨_,ha,_,rfl,?_⟩
 subst hB
 try dsimp only
 refine seq_go λB hB=>?_
 refine if_go λA hA C hC=>?_
 walk_at "rd"
 simp only [sp_whole]
 walk_at "rd"
 refine⟨th0_int _,?_⟩
 rw [if_neg (show ¬ isW (V.int t)=false from nofun)]
 refine⟨th0_int _,?_⟩
 rw [if_neg (show ¬ isW (V.int b)=false from nofun)]
 subst hC
 walk_at "rd"
 subst hB
 try dsimp only
 walk_at "rd"
 simp only [sp_gcd]
 walk_at "rd"
 rw [if_pos h1,h2]
 exact q
def ok_is_price(F:Fun K "is_price" "is_price" s_is_price f fd)(F_is_ratio:Fn P w K mg base CX0 2 "is_ratio" ["thing"] sp_fr):FnOk P w K mg base CX0 3 f fd ["thing"] sp_isprice:=by
 refine okR F sc_is_price λcdv A outer s H vs Q E hr h=>?_
 obtain⟨x,rfl,⟨a,t,b,rfl,ha,h1,h2,h3⟩,q⟩:=h
 refine⟨_,(b_one (s_ret (q_and (qfn F_is_ratio hr (a_c (q_v 0) a_nil)) (q_one (q_ge (q_ixT (q_v 0) q_int) q_int))))),?_⟩
 rw [show start ["thing"] [.ref a]=[some (.ref a)] from rfl]
 walk_at "rd"
 simp only [sp_fr,ha]
 walk_at "rd"
 rw [YX h3]
 exact⟨⟨a,t,b,rfl,ha,h1,h2,h3⟩,q⟩
def ok_is_road(F:Fun K "is_road" "is_road" s_is_road f fd)(n_isinstance:mg "isinstance"=none)(n_tuple:mg "tuple"=none)(n_len:mg "len"=none)(F_is_whole:Fn P w K mg base CX0 1 "is_whole" ["thing"] sp_whole)
  (F_is_price:Fn P w K mg base CX0 3 "is_price" ["thing"] sp_isprice):FnOk P w K mg base CX0 4 f fd ["thing","many"] sp_isroad:=by
 refine okR F sc_is_road λcdv A outer s H vs Q E hr h=>?_
 obtain⟨x,n,rfl,⟨a,t,y,rfl,ha,h1,h2,hp⟩,q⟩:=h
 refine⟨_,(b_cons (s_if (t_w (w_or (t_not (t_val (q_inst rfl n_isinstance (a_c (q_v 0) (a_c (q_ty rfl n_tuple rfl) a_nil))))) (w_or1 (t_ne (q_len rfl n_len (a_c (q_v 0) a_nil)) q_int)))) (b_one (s_ret q_bl)) b_nil)
   (b_cons (s_set 2 sc_is_road.nd (q_ixT (q_v 0) q_int))
   (b_one (s_ret (q_and (qfn F_is_whole hr (a_c (q_v 2) a_nil)) (q_and (q_leLt q_int (q_v 2) (q_v 1)) (q_one (qfn F_is_price hr (a_c (q_ixT (q_v 0) q_int) a_nil))))))))),?_⟩
 rw [show start ["thing","many","to"] [.ref a,.int n]=[some (.ref a),some (.int n),none] from rfl]
 refine seq_go λB hB=>?_
 refine if_go λA hA C hC=>?_
 walk_at "rd"
 simp only [kind_tup ha,ha]
 walk_at "rd"
 rw [if_neg (by decide)]
 subst hC
 walk_at "rd"
 subst hB
 try dsimp only
 refine seq_go λB hB=>?_
 walk_at "rd"
 refine⟨_,ha,_,rfl,?_⟩
 subst hB
 try dsimp only
 walk_at "rd"
 simp only [sp_whole,sp_isprice,ha]
 walk_at "rd"
 refine⟨th0_int _,?_⟩
 rw [if_pos (show isW (V.int t)=true from rfl),if_pos h1,if_pos h2]
 exact⟨hp,q⟩
def sp_look:Sp:=λvs H Q _=>∃ (a:Addr) (xs:List V),vs=[.ref a]/\H a=some (.lst xs)/\xs.length<=40/\(∀ x∈xs,RdP H x (xs.length + 1))/\Q .non H
def sp_wayf:Sp:=λvs H Q _=>∃ (a:Addr) (xs:List V) (rs:List (Nat × Rat)) (k:Nat) (w:List Nat),vs=[.ref a,.int k]/\H a=some (.lst xs)/\RoadsV H xs rs/\WayR rs k w/\w.length<=rs.length/\rs.length<=40/\k<=rs.length/\(∀ r∈rs,r.1<=rs.length) /\
 ∀ p H',H p=none->Same H H'->H' p=some (.lst (natV w))->Q (.ref p) H'
def Plk(H0:Hp)(a:Addr)(n:Nat)(i:Nat)(Z:St)(H:Hp):Prop:=∃ o,Z=[some (.ref a),some (.int ((n:Int) + 1)),o]/\H=H0
def ok_look{tk:Tok}(F:Fun K "look_roads" "look_roads" s_look_roads f fd)(n_isinstance:mg "isinstance"=none)(n_list:mg "list"=none)(n_len:mg "len"=none)(g_MOST_ROADS:mg "MOST_ROADS"=some (.int 40 tk))
  (F_is_road:Fn P w K mg base CX0 4 "is_road" ["thing","many"] sp_isroad):FnOk P w K mg base CX0 5 f fd ["thing"] sp_look:=by
 refine okR F sc_look_roads λcdv A outer s H vs Q E hr h=>?_
 obtain⟨a,xs,rfl,ha,hl,hx,q⟩:=h
 refine⟨_,(b_cons (s_if (t_not (t_val (q_inst rfl n_isinstance (a_c (q_v 0) (a_c (q_ty rfl n_list rfl) a_nil))))) (b_one s_never) b_nil)
   (b_cons (s_if (t_gt (q_len rfl n_len (a_c (q_v 0) a_nil)) (q_gint rfl g_MOST_ROADS)) (b_one s_never) b_nil)
   (b_cons (s_set 1 sc_look_roads.nd (q_add (q_len rfl n_len (a_c (q_v 0) a_nil)) q_int))
   (b_one (s_for Ys (i_list (q_v 0)) (g_name 2 sc_look_roads.nd) (b_one (s_if (t_not (t_val (qfn F_is_road hr (a_c (q_v 2) (a_c (q_v 1) a_nil))))) (b_one s_never) b_nil))))))),?_⟩
 rw [show start ["thing","many","road"] [.ref a]=[some (.ref a),none,none] from rfl]
 refine seq_go λB hB=>?_
 refine if_go λA hA C hC=>?_
 walk_at "rd"
 simp only [kind_lst ha]
 walk_at "rd"
 subst hC
 walk_at "rd"
 subst hB
 try dsimp only
 refine seq_go λB hB=>?_
 refine if_go λA hA C hC=>?_
 walk_at "rd"
 refine⟨xs,.inl ha,?_⟩
 rw [if_neg (by omega)]
 subst hC
 walk_at "rd"
 subst hB
 try dsimp only
 refine seq_go λB hB=>?_
 walk_at "rd"
 refine⟨xs,.inl ha,?_⟩
 subst hB
 try dsimp only
 simp only [tFor_list]
 walk_at "rd"
 refine listK_of (Plk H a xs.length) ⟨_,rfl,rfl⟩ (λi Z H' _ ⟨o,_,e⟩=>by rw [e]; exact .of ha) (λi x Z H' hi hP=>?_) (λZ H' hP=>?_)
 ·obtain⟨o,rfl,rfl⟩:=hP
  walk_at "rd"
  simp only [sp_isroad]
  walk_at "rd"
  exact⟨hx x (Yo hi),_,rfl,rfl⟩
 ·obtain⟨o,rfl,rfl⟩:=hP
  exact q
def Pwf(H0:Hp)(a p:Addr)(k0:Nat)(rs:List (Nat × Rat))(w0:List Nat)(Z:St)(H:Hp):Prop:=∃ (k:Nat) (pre w:List Nat),Z=[some (.ref a),some (.int k0),some (.ref p),some (.int k)]/\Same H0 H/\H p=some (.lst (natV pre))/\WayR rs k w/\w0=pre ++ w
def ok_wayf(F:Fun K "way_from" "way_from" s_way_from f fd)(n_len:mg "len"=none):FnOk P w K mg base CX0 1 f fd ["roads","k"] sp_wayf:=by
 refine okR F sc_way_from λcdv A outer s H vs Q E hr h=>?_
 obtain⟨a,xs,rs,k0,w0,rfl,ha,hR,hw0,hwl,hrl,_,_,q⟩:=h
 refine⟨_,(b_cons (s_set 2 sc_way_from.nd (q_lst a_nil))
   (b_cons (s_set 3 sc_way_from.nd (q_v 1))
   (b_cons (s_while Ys (t_ne (q_v 3) q_int) (b_cons (s_if (t_eq (q_len rfl n_len (a_c (q_v 2) a_nil)) (q_len rfl n_len (a_c (q_v 0) a_nil))) (b_one s_never) b_nil)
   (b_cons (s_expr (q_app (q_v 2) (a_c (q_v 3) a_nil)))
   (b_one (s_set 3 sc_way_from.nd (q_ixT (q_ixL (q_v 0) (q_sub (q_v 3) q_int)) q_int))))))
   (b_one (s_ret (q_v 2)))))),?_⟩
 rw [show start ["roads","k","way","place"] [.ref a,.int k0]=[some (.ref a),some (.int k0),none,none] from rfl]
 walk_at "rd"
 intro p H1 hp s1 e1
 refine while_w (Pwf H a p k0 rs w0) (λZ _=>wayM rs (slotI Z 3).toNat) ⟨k0,[],w0,rfl,s1,e1,hw0,rfl⟩ ?_
 rintro Z H2 ⟨k,pre,w,rfl,s2,e2,hw,hw1⟩
 walk_at "rd"
 have hap:a ≠ p:=λz=>by rw [z,hp] at ha; cases ha
 refine ite2 (λhc=>?_) (λhc=>?_)
 ·cases hw with
  | nil=>exact absurd rfl hc
  | @cons k r w h hw' =>
   have hkl:k < rs.length:=(Yf.mp h).1
   have hkx:k < xs.length:=by rw [hR.1]; exact hkl
   obtain⟨pr,y,ex,hpr,hy⟩:=hR.2 k _ r (Yb hkx) h
   have hrp:pr ≠ p:=λz=>by rw [z,hp] at hpr; cases hpr
   have hpl:pre.length < rs.length:=by
    have:=congrArg List.length hw1
    simp at this
    omega
   have hlen:(natV pre).length < 1000000:=by simp [natV]; omega
   simp only [e2,s2 _ _ ha]
   walk_at "rd"
   refine⟨λZ' H'=>Z'=[some (.ref a),some (.int k0),some (.ref p),some (.int r.1)]/\Pwf H a p k0 rs w0 Z' H',λZ' H' ⟨e,hP⟩=>⟨_,?_,rfl,hP⟩,?_⟩
   ·subst e
    show wayM rs ((r.1:Nat):Int).toNat < wayM rs (((k + 1:Nat)):Int).toNat
    rw [Y9,Y9,wayM_at hw',wayM_at (.cons h hw')]
    simp
   rw [if_neg (by have:=hR.1; simp [natV]; omega)]
   refine⟨hlen,xs,by rw [upd_ne hap]; exact s2 _ _ ha,xs[k],?_,pr,ex,_,by rw [upd_ne hrp]; exact s2 _ _ hpr,_,rfl,rfl,?_⟩
   ·rw [show (((k + 1:Nat)):Int) - 1=(k:Int) by omega]
    exact atI_nat (Yb hkx)
   ·exact⟨r.1,pre ++ [k + 1],w,rfl,same_upd hp s2,by rw [upd_same]; simp [natV],hw',by simp [hw1]⟩
 ·have hk0:k=0:=by omega
  subst hk0
  have e:=hw.zero
  subst e
  rw [Vb] at hw1
  subst hw1
  exact q p H2 hp s2 e2
theorem RatV.keep{H H':Hp}(h:RatV H x q)(s:∀ b ys,H b=some (.tup ys)->H' b=some (.tup ys)):RatV H' x q:=let ⟨p,e,h1⟩:=h; ⟨p,e,s _ _ h1⟩
theorem RoadV.keep{H H':Hp}{r:Nat × Rat}(h:RoadV H x r)(s:∀ b ys,H b=some (.tup ys)->H' b=some (.tup ys)):RoadV H' x r:=let ⟨p,y,e,h1,h2⟩:=h; ⟨p,y,e,s _ _ h1,h2.keep s⟩
theorem RoadsV.keep{H H':Hp}(h:RoadsV H xs rs)(s:∀ b ys,H b=some (.tup ys)->H' b=some (.tup ys)):RoadsV H' xs rs:=⟨h.1,λi x r h1 h2=>(h.2 i x r h1 h2).keep s⟩
def RoadsV.same{H H':Hp}(h:RoadsV H xs rs)(s:Same H H'):RoadsV H' xs rs:=h.keep λb ys=>s b _
def WaysV(H:Hp)(ws:List V)(rs:List (Nat × Rat)):Prop:=ws.length=rs.length + 1/\∀ (k:Nat) x,ws[k]?=some x->∃ p w,x=.ref p/\H p=some (.lst (natV w))/\WayR rs k w/\w.length<=rs.length
def TreeV(C:Addr)(H:Hp)(x:V)(rs:List (Nat × Rat)):Prop:=∃ a dx la wa ls ws,x=.ref a/\H a=some (.ins C dx [("lanes",.ref la),("ways",.ref wa)])/\H la=some (.lst ls)/\RoadsV H ls rs/\H wa=some (.lst ws)/\WaysV H ws rs
def TreeV.same{C:Addr}{H H':Hp}(h:TreeV C H x rs)(s:Same H H'):TreeV C H' x rs:=by
 obtain⟨a,dx,la,wa,ls,ws,e,h1,h2,h3,h4,h5,h6⟩:=h
 exact⟨a,dx,la,wa,ls,ws,e,s _ _ h1,s _ _ h2,h3.same s,s _ _ h4,h5,λk x hx=>let ⟨p,w,e,g1,g2⟩:=h6 k x hx; ⟨p,w,e,s _ _ g1,g2⟩⟩
def rd_of_road{r:Nat × Rat}{n:Int}(h:RoadV H x r)(h1:(r.1:Int) < n)(h2:0<=r.2.num):RdP H x n:=by
 obtain⟨p,y,rfl,hp,q,rfl,hq⟩:=h
 have hg:Int.gcd r.2.num (r.2.den:Int)=1:=by
  show Nat.gcd r.2.num.natAbs (Int.natAbs (r.2.den:Int))=1
  rw [VE]
  exact r.2.reduced
 have hd:1<=(r.2.den:Int):=by have:=r.2.den_pos; omega
 exact⟨p,_,_,rfl,hp,by omega,h1,q,_,_,rfl,hq,hd,hg,h2⟩
def sp_init(C:Addr):Sp:=λvs H Q _=>∃ (x dx a:Addr) (xs:List V) (rs:List (Nat × Rat)),vs=[.ref x,.ref a]/\H x=some (.ins C dx [])/\H a=some (.lst xs)/\RoadsV H xs rs/\TreeOk rs/\rs.length<=40/\(∀ r∈rs,0<=r.2.num) /\
 ∀ H',(∀ b o,b ≠ x->H b=some o->H' b=some o)->TreeV C H' (.ref x) rs->(∀ l zs,H l=some (.lst zs)->∀ H'',Same H' H''->∀ ys,TreeV C (upd H'' l (.lst ys)) (.ref x) rs)->Q .non H'
def ok_init(F:Fun K "__init__" "Tree.__init__" s_Tree___init__ f fd)(n_list:mg "list"=none)(n_len:mg "len"=none)(n_range:mg "range"=none)(cls_Tree:Cls K CT)(nf_lanes:NoAttr K CT "lanes")(nf_ways:NoAttr K CT "ways")
  (F_look_roads:Fn P w K mg base CX0 5 "look_roads" ["thing"] sp_look) (F_way_from:Fn P w K mg base CX0 1 "way_from" ["roads","k"] sp_wayf):FnOk P w K mg base CX0 6 f fd ["self","roads"] (sp_init CT):=by
 refine okR F sc_Tree___init__ λcdv A outer s H vs Q E hr h=>?_
 obtain⟨x,dx,a,xs,rs,rfl,hx,ha,hR,hT,hl,hn,q⟩:=h
 refine⟨_,(b_cons (s_expr (qfn F_look_roads hr (a_c (q_v 1) a_nil)))
   (b_cons (s_fld (q_v 0) (q_list rfl n_list (a_c (q_v 1) a_nil)))
   (b_one (s_fld (q_v 0) (q_comp (blkC ["k"] [1] ["roads"]) (i_rng1 rfl n_range (a_c (q_add (q_len rfl n_len (a_c (q_v 1) a_nil)) q_int) a_nil)) (by exact λs H fp=>(g_name 0 (show List.Nodup (["k","roads"]:List Str) from by decide +kernel))) (by exact λs H fp=>(qfn F_way_from hr (a_c (q_v 1) (a_c (q_v 0) a_nil))))))))),?_⟩
 rw [show start ["self","roads"] [.ref x,.ref a]=[some (.ref x),some (.ref a)] from rfl]
 walk_at "rd"
 simp only [sp_look,rList]
 walk_at "rd"
 refine⟨xs,ha,by rw [hR.1]; exact hl,λy hy=>?_,xs,.inl (.of ha),λl H1 hl1 s1 e1=>?_⟩
 ·obtain⟨i,hi⟩:=Y5 hy
  have hi':i < rs.length:=by rw [<- hR.1]; exact (Yf.mp hi).1
  obtain⟨_,_,_,hT2⟩:=hT
  have h2:=hT2 i _ (Yb hi')
  exact rd_of_road (hR.2 i y _ hi (Yb hi')) (by rw [hR.1]; omega) (hn _ (Y2 hi'))
 refine⟨CT,dx,[],s1 _ _ hx,cls_Tree,nf_lanes,by decide,?_⟩
 have hax:a ≠ x:=ne_of ha hx (by intro z; cases z)
 rw [show putF (Str.ofString "lanes") (.ref l) []=[(Str.ofString "lanes",V.ref l)] from rfl]
 have k1:∀ b o,b ≠ x->H b=some o->upd H1 x (.ins CT dx [(Str.ofString "lanes",V.ref l)]) b=some o:=λb o hb e=>by rw [upd_ne hb]; exact s1 _ _ e
 have ha2:upd H1 x (.ins CT dx [(Str.ofString "lanes",V.ref l)]) a=some (.lst xs):=k1 _ _ hax ha
 have hl2:upd H1 x (.ins CT dx [(Str.ofString "lanes",V.ref l)]) l=some (.lst xs):=by rw [upd_ne (ne_of e1 (s1 _ _ hx) (by intro z; cases z))]; exact e1
 have hx2:upd H1 x (.ins CT dx [(Str.ofString "lanes",V.ref l)]) x=some (.ins CT dx [(Str.ofString "lanes",V.ref l)]):=upd_same
 generalize upd H1 x (.ins CT dx [(Str.ofString "lanes",V.ref l)])=H2 at k1 ha2 hl2 hx2 ⊢
 simp only [tComp,iRng1,cxK]
 walk_at "rd"
 have hxl:=hR.1
 have hto:∀ r∈rs,r.1<=rs.length:=λr hr=>by
  obtain⟨_,_,_,g⟩:=id hT
  obtain⟨i,hi⟩:=Y5 hr
  exact (g i r hi).1
 refine⟨xs,.inl ha2,by omega,by omega,?_⟩
 rw [show capOf [some (V.ref x),some (V.ref a)] [1]=[some (V.ref a)] from rfl]
 have tk:∀ H3,Same H2 H3->RoadsV H3 xs rs:=λH3 sm=>hR.keep λb ys e=>sm _ _ (k1 b _ (ne_of e hx (by intro z; cases z)) e)
 refine blk_rng (λacc i ys H'=>Same H2 H'/\H' acc=some (.lst ys)/\ys.length=i/\i<=50/\∀ (k:Nat) y,ys[k]?=some y->∃ p w,y=.ref p/\p ≠ acc/\H2 p=none/\H' p=some (.lst (natV w))/\WayR rs k w/\w.length<=rs.length)
  (λacc H3 hn sm e=>⟨sm,e,rfl,by omega,λk y hy=>by simp at hy⟩) (λacc i ys H3 ⟨_,e,hl,hi,_⟩=>⟨e,by omega⟩) (λacc i ys H3 os hn hi hP ol=>?_) (λacc ys H3 hn' hP=>?_)
 ·obtain⟨sm,e,hyl,hi2,hE⟩:=hP
  obtain⟨o,rfl⟩:∃ o,os=[o]:=by match os,ol with | [o],_=>exact⟨o,rfl⟩
  obtain⟨w,hw,hwl⟩:=way_some hT (k:=i) (by omega)
  walk_at "rd"
  refine⟨[some (.int (i:Int))],rfl,rfl,?_⟩
  refine⟨a,xs,rs,i,w,rfl,sm _ _ ha2,tk _ sm,hw,hwl,by omega,by omega,hto,λp' H4 hp' s4 e4=>⟨s4 _ _ e,same_upd hn (sm.trans s4),upd_same,by simp [hyl],by omega,λk y hy=>?_⟩⟩
  by_cases hk:k < ys.length
  ·rw [YC hk] at hy
   obtain⟨p,w,e5,hpa,hpn,e6,e7⟩:=hE k y hy
   exact⟨p,e5,hpa,hpn,w,by rw [upd_ne hpa]; exact s4 _ _ e6,e7⟩
  ·have hk2:k=i:=by
    have:=(Yf.mp hy).1
    simp at this; omega
   subst hk2
   rw [YA (by omega),hyl] at hy
   have hy':V.ref p'=y:=by simpa using hy
   subst hy'
   have hpa:p' ≠ acc:=λz=>by rw [z,e] at hp'; cases hp'
   exact⟨p',rfl,hpa,sm.free hp',w,by rw [upd_ne hpa]; exact e4,hw,hwl⟩
 ·obtain⟨sm,e,hyl,hi2,hE⟩:=hP
  have nx:∀ b ys,H3 b=some (.lst ys)->b ≠ x:=λb ys e=>ne_of e (sm _ _ hx2) (by intro z; cases z)
  have gen:∀ H5:Hp,H5 x=some (.ins CT dx [("lanes",.ref l),("ways",.ref acc)])->H5 l=some (.lst xs)->H5 acc=some (.lst ys)->(∀ p w,H2 p=none->H3 p=some (.lst (natV w))->H5 p=some (.lst (natV w)))->(∀ b zs,H3 b=some (.tup zs)->H5 b=some (.tup zs))->TreeV CT H5 (.ref x) rs:=by
   intro H5 g1 g2 g3 g4 g5
   refine⟨x,dx,l,acc,xs,ys,rfl,g1,g2,(tk _ sm).keep g5,g3,by omega,λk y hy=>?_⟩
   obtain⟨p,w,e5,_,hpn,e6,e7⟩:=hE k y hy
   exact⟨p,w,e5,g4 _ _ hpn e6,e7⟩
  refine⟨CT,dx,_,sm _ _ hx2,cls_Tree,nf_ways,by show (1:Nat) < 1000; decide,q _ (λb o hb e=>by rw [upd_ne hb]; exact sm _ _ (k1 b o hb e)) ?_ (λl0 zs h0 H'' s'' us=>?_)⟩
  ·exact gen _ upd_same (by rw [upd_ne (nx _ _ (sm _ _ hl2))]; exact sm _ _ hl2) (by rw [upd_ne (nx _ _ e)]; exact e) (λp w _ h=>by rw [upd_ne (nx _ _ h)]; exact h) (λb zs h=>by rw [upd_ne (ne_of h (sm _ _ hx2) (by intro z; cases z))]; exact h)
  ·have n1:x ≠ l0:=ne_of hx h0 (by intro z; cases z)
   have h2:H2 l0=some (.lst zs):=k1 _ _ (λz=>n1 z.symm) h0
   have h3:H'' l0=some (.lst zs):=s'' _ _ (by rw [upd_ne (λz=>n1 z.symm)]; exact sm _ _ h2)
   have keepL:∀ b ws,b ≠ l0->H3 b=some (.lst ws)->upd H'' l0 (.lst us) b=some (.lst ws):=λb ws hb h=>by
    rw [upd_ne hb]; exact s'' _ _ (by rw [upd_ne (nx _ _ h)]; exact h)
   have n2:l ≠ l0:=λz=>by rw [z,h0] at hl1; cases hl1
   have n3:acc ≠ l0:=λz=>by rw [z,h2] at hn'; cases hn'
   exact gen _ (by rw [upd_ne n1]; exact s'' _ _ upd_same) (keepL _ _ n2 (sm _ _ hl2)) (keepL _ _ n3 e) (λp w hp h=>keepL _ _ (λz=>by rw [z,h2] at hp; cases hp) h)
    (λb zs' h=>by
     have hb:b ≠ l0:=ne_of h (sm _ _ h2) (by intro z; cases z)
     rw [upd_ne hb]; exact s'' _ _ (by rw [upd_ne (ne_of h (sm _ _ hx2) (by intro z; cases z))]; exact h))
def sp_many(C:Addr):Sp:=λvs H Q _=>∃ x rs,vs=[x]/\TreeV C H x rs/\Q (.int ((rs.length:Int) + 1)) H
def ok_many(F:Fun K "many" "Tree.many" s_Tree_many f fd)(n_len:mg "len"=none)(cls_Tree:Cls K CT)(nf_ways:NoAttr K CT "ways"):FnOk P w K mg base CX0 1 f fd ["self"] (sp_many CT):=by
 refine okR F sc_Tree_many λcdv A outer s H vs Q E hr h=>?_
 obtain⟨x,rs,rfl,⟨a,dx,la,wa,ls,ws,rfl,h1,h2,h3,h4,h5,h6⟩,q⟩:=h
 refine⟨_,(b_one (s_ret (q_len rfl n_len (a_c (q_fld (q_v 0)) a_nil)))),?_⟩
 rw [show start ["self"] [.ref a]=[some (.ref a)] from rfl]
 walk_at "rd"
 refine⟨CT,dx,_,h1,cls_Tree,nf_ways,.ref wa,rfl,wa,rfl,ws,.inl h4,?_⟩
 rw [show ((ws.length:Nat):Int)=(rs.length:Int) + 1 by omega]
 exact q
def inT(rs:List (Nat × Rat))(k:Int):Prop:=0<=k/\k<=rs.length
def sp_cross(C CNP:Addr):Sp:=λvs H Q E=>∃ x rs k,vs=[x,.int k]/\TreeV C H x rs/\(inT rs k->Q .non H)/\(¬ inT rs k->E (.ref CNP) none H)
def ok_cross(F:Fun K "look_crossing" "Tree.look_crossing" s_Tree_look_crossing f fd)(F_is_whole:Fn P w K mg base CX0 1 "is_whole" ["thing"] sp_whole)
  (M_many:Mth P w K mg base CX0 1 CT "many" ["self"] (sp_many CT)):FnOk P w K mg base CX0 2 f fd ["self","k"] (λvs H Q _=>sp_cross CT CNP vs H Q E0):=by
 refine okR F sc_Tree_look_crossing λcdv A outer s H vs Q E hr h=>?_
 obtain⟨x,rs,k,rfl,hT,q1,q2⟩:=h
 have hin:inT rs k:=Y4 λz=>q2 z
 refine⟨_,(b_one (s_if (t_w (w_or (t_not (t_val (qfn F_is_whole hr (a_c (q_v 1) a_nil)))) (w_or (t_lt (q_v 1) q_int) (w_or1 (t_ge (q_v 1) (q_meth0 M_many hr (by decide) (q_v 0))))))) (b_one s_never) b_nil)),?_⟩
 rw [show start ["self","k"] [x,.int k]=[some (x),some (.int k)] from rfl]
 walk_at "rd"
 simp only [sp_whole,sp_many]
 walk_at "rd"
 refine⟨th0_int k,?_⟩
 rw [if_neg (by simp [isW])]
 refine ite2 (λc=>absurd hin (by unfold inT; omega)) (λc=>?_)
 obtain⟨a,dx,la,wa,ls,ws,rfl,h1,_⟩:=id hT
 exact⟨a,rfl,dx,_,h1,rfl,rs,hT,ite2 (λc2=>absurd hin (by unfold inT; omega)) (λc2=>q1 hin)⟩
def sp_wayM(C CNP:Addr):Sp:=λvs H Q E=>∃ x rs k,vs=[x,.int k]/\TreeV C H x rs/\(∀ (p:Addr) (H':Hp) (k':Nat) (w:List Nat),k=(k':Int)->H p=none->Same H H'->H' p=some (.lst (natV w))->WayR rs k' w->w.length<=rs.length->Q (.ref p) H')/\(¬ inT rs k->E (.ref CNP) none H)
def ok_wayM(F:Fun K "way" "Tree.way" s_Tree_way f fd)(n_list:mg "list"=none)(cls_Tree:Cls K CT)(nf_ways:NoAttr K CT "ways")
  (M_look_crossing:Mth P w K mg base CX0 2 CT "look_crossing" ["self","k"] (λvs H Q _=>sp_cross CT CNP vs H Q E0)):FnOk P w K mg base CX0 3 f fd ["self","k"] (λvs H Q _=>sp_wayM CT CNP vs H Q E0):=by
 refine okR F sc_Tree_way λcdv A outer s H vs Q E hr h=>?_
 obtain⟨x,rs,k,rfl,hT,q1,q2⟩:=h
 have hin:inT rs k:=Y4 λz=>q2 z
 refine⟨_,(b_cons (s_expr (q_meth M_look_crossing hr (by decide) (q_v 0) (a_c (q_v 1) a_nil)))
   (b_one (s_ret (q_list rfl n_list (a_c (q_ixL (q_fld (q_v 0)) (q_v 1)) a_nil))))),?_⟩
 rw [show start ["self","k"] [x,.int k]=[some (x),some (.int k)] from rfl]
 walk_at "rd"
 simp only [rList]
 walk_at "rd"
 obtain⟨a,dx,la,wa,ls,ws,rfl,h1,h2,h3,h4,h5,h6⟩:=id hT
 refine⟨a,rfl,dx,_,h1,rfl,.ref a,rs,k,rfl,hT,λ_=>?_,λz=>z hin⟩
 obtain⟨k',hk'⟩:∃ k':Nat,k=(k':Int):=⟨k.toNat,by unfold inT at hin; omega⟩
 subst hk'
 have hlt:k' < ws.length:=by unfold inT at hin; omega
 obtain⟨p,w,e5,e6,e7,e8⟩:=h6 k' _ (Yb hlt)
 exact⟨a,rfl,CT,dx,_,h1,cls_Tree,nf_ways,.ref wa,rfl,wa,rfl,ws,h4,_,atI_nat (Yb hlt),p,e5,natV w,.inl (.of e6),λl H2 hl s e=>q1 l H2 k' w rfl hl s e e7 e8⟩
def WayR.le{w:List Nat}(h:WayR rs k w):k<=rs.length:=by
 cases h with
 | nil=>exact YD _
 | cons h hw=>exact (Yf.mp h).1
def inR(rs:List (Nat × Rat))(k:Int):Prop:=1<=k/\k<=rs.length
def sp_lookR(C CNP:Addr):Sp:=λvs H Q E=>∃ x rs k,vs=[x,.int k]/\TreeV C H x rs/\(inR rs k->Q .non H)/\(¬ inR rs k->E (.ref CNP) none H)
def ok_lookR(F:Fun K "look_road" "Tree.look_road" s_Tree_look_road f fd)
  (M_look_crossing:Mth P w K mg base CX0 2 CT "look_crossing" ["self","k"] (λvs H Q _=>sp_cross CT CNP vs H Q E0)):FnOk P w K mg base CX0 3 f fd ["self","k"] (λvs H Q _=>sp_lookR CT CNP vs H Q E0):=by
 refine okR F sc_Tree_look_road λcdv A outer s H vs Q E hr h=>?_
 obtain⟨x,rs,k,rfl,hT,q1,q2⟩:=h
 have hin:inR rs k:=Y4 λz=>q2 z
 refine⟨_,(b_cons (s_expr (q_meth M_look_crossing hr (by decide) (q_v 0) (a_c (q_v 1) a_nil)))
   (b_one (s_if (t_eq (q_v 1) q_int) (b_one s_never) b_nil))),?_⟩
 rw [show start ["self","k"] [x,.int k]=[some (x),some (.int k)] from rfl]
 walk_at "rd"
 obtain⟨a,dx,la,wa,ls,ws,rfl,h1,_⟩:=id hT
 refine⟨a,rfl,dx,_,h1,rfl,.ref a,rs,k,rfl,hT,λ_=>?_,λz=>z ⟨by unfold inR at hin; omega,by unfold inR at hin; omega⟩⟩
 exact ite2 (λc=>absurd hin (by unfold inR; omega)) (λc=>q1 hin)
open Classical in
noncomputable def wayL(rs:List (Nat × Rat))(k:Nat):List Nat:=if h:∃ w,WayR rs k w then h.choose else []
theorem wayL_at{w:List Nat}(h:WayR rs k w):wayL rs k=w:=by
 have hh:∃ w,WayR rs k w:=⟨w,h⟩
 unfold wayL
 rw [dif_pos hh]
 exact h.uniq hh.choose_spec
def sp_priceM(C CNP:Addr):Sp:=λvs H Q E=>∃ x rs k,vs=[x,.int k]/\TreeV C H x rs/\(∀ (k':Nat) r y,k=(k':Int) + 1->rs[k']?=some r->RatV H y r.2->Q y H)/\(¬ inR rs k->E (.ref CNP) none H)
def ok_priceM(F:Fun K "price" "Tree.price" s_Tree_price f fd)(cls_Tree:Cls K CT)(nf_lanes:NoAttr K CT "lanes")
  (M_look_road:Mth P w K mg base CX0 3 CT "look_road" ["self","k"] (λvs H Q _=>sp_lookR CT CNP vs H Q E0)):FnOk P w K mg base CX0 4 f fd ["self","k"] (λvs H Q _=>sp_priceM CT CNP vs H Q E0):=by
 refine okR F sc_Tree_price λcdv A outer s H vs Q E hr h=>?_
 obtain⟨x,rs,k,rfl,hT,q1,q2⟩:=h
 have hin:inR rs k:=Y4 λz=>q2 z
 refine⟨_,(b_cons (s_expr (q_meth M_look_road hr (by decide) (q_v 0) (a_c (q_v 1) a_nil)))
   (b_one (s_ret (q_ixT (q_ixL (q_fld (q_v 0)) (q_sub (q_v 1) q_int)) q_int)))),?_⟩
 rw [show start ["self","k"] [x,.int k]=[some (x),some (.int k)] from rfl]
 walk_at "rd"
 obtain⟨a,dx,la,wa,ls,ws,rfl,h1,h2,h3,_⟩:=id hT
 refine⟨a,rfl,dx,_,h1,rfl,.ref a,rs,k,rfl,hT,λ_=>?_,λz=>z hin⟩
 obtain⟨k',hk'⟩:∃ k':Nat,k=(k':Int) + 1:=⟨(k - 1).toNat,by unfold inR at hin; omega⟩
 subst hk'
 have hl:=h3.1
 have hlr:k' < rs.length:=by unfold inR at hin; omega
 have hls:k' < ls.length:=by omega
 obtain⟨p,y,e,e2,e3⟩:=h3.2 k' _ _ (Yb hls) (Yb hlr)
 refine⟨a,rfl,CT,dx,_,h1,cls_Tree,nf_lanes,.ref la,rfl,la,rfl,ls,h2,_,?_,p,e,_,e2,_,rfl,q1 k' _ y rfl (Yb hlr) e3⟩
 rw [show (k':Int) + 1 - 1=(k':Int) by omega]
 exact atI_nat (Yb hls)
def sp_leadsM(C CNP:Addr):Sp:=λvs H Q E=>∃ x rs k,vs=[x,.int k]/\TreeV C H x rs/\(∀ (k':Nat) r,k=(k':Int) + 1->rs[k']?=some r->Q (.int (r.1:Int)) H)/\(¬ inR rs k->E (.ref CNP) none H)
def ok_leadsM(F:Fun K "leads_to" "Tree.leads_to" s_Tree_leads_to f fd)(cls_Tree:Cls K CT)(nf_lanes:NoAttr K CT "lanes")
  (M_look_road:Mth P w K mg base CX0 3 CT "look_road" ["self","k"] (λvs H Q _=>sp_lookR CT CNP vs H Q E0)):FnOk P w K mg base CX0 4 f fd ["self","k"] (λvs H Q _=>sp_leadsM CT CNP vs H Q E0):=by
 refine okR F sc_Tree_leads_to λcdv A outer s H vs Q E hr h=>?_
 obtain⟨x,rs,k,rfl,hT,q1,q2⟩:=h
 have hin:inR rs k:=Y4 λz=>q2 z
 refine⟨_,(b_cons (s_expr (q_meth M_look_road hr (by decide) (q_v 0) (a_c (q_v 1) a_nil)))
   (b_one (s_ret (q_ixT (q_ixL (q_fld (q_v 0)) (q_sub (q_v 1) q_int)) q_int)))),?_⟩
 rw [show start ["self","k"] [x,.int k]=[some (x),some (.int k)] from rfl]
 walk_at "rd"
 obtain⟨a,dx,la,wa,ls,ws,rfl,h1,h2,h3,_⟩:=id hT
 refine⟨a,rfl,dx,_,h1,rfl,.ref a,rs,k,rfl,hT,λ_=>?_,λz=>z hin⟩
 obtain⟨k',hk'⟩:∃ k':Nat,k=(k':Int) + 1:=⟨(k - 1).toNat,by unfold inR at hin; omega⟩
 subst hk'
 have hl:=h3.1
 have hlr:k' < rs.length:=by unfold inR at hin; omega
 have hls:k' < ls.length:=by omega
 obtain⟨p,y,e,e2,e3⟩:=h3.2 k' _ _ (Yb hls) (Yb hlr)
 refine⟨a,rfl,CT,dx,_,h1,cls_Tree,nf_lanes,.ref la,rfl,la,rfl,ls,h2,_,?_,p,e,_,e2,_,rfl,q1 k' _ rfl (Yb hlr)⟩
 rw [show (k':Int) + 1 - 1=(k':Int) by omega]
 exact atI_nat (Yb hls)
def HomesV(kvs:List (Key × V))(n:Nat):Prop:=∀ kv∈kvs,∃ (z:Str) (h:Nat),kv=(Sum.inr z,.int (h:Int))/\h<=n
variable {kvs:List (Key × V)}
def HomesV.put(h:HomesV kvs n){z:Str}{k:Nat}(hk:k<=n):HomesV (putK kvs (Sum.inr z) (.int (k:Int))) n:=by
 unfold putK
 split
 ·intro kv hkv
  obtain⟨kv',h1,rfl⟩:=Yk.mp hkv
  split
  ·rename_i e
   exact⟨z,k,by rw [e],hk⟩
  ·exact h _ h1
 ·intro kv hkv
  rcases Yp.mp hkv with h1 | h1
  ·exact h _ h1
  ·rw [YB.mp h1]
   exact⟨z,k,rfl,hk⟩
def nodup_put(h:(kvs.map (·.1)).Nodup)(k:Key)(v:V):((putK kvs k v).map (·.1)).Nodup:=by
 unfold putK
 split
 ·rw [Vf]
  have:((λkv:Key × V=>kv.1) ∘ λkv=>if kv.1=k then (kv.1,v) else kv)=λkv=>kv.1:=by
   funext kv
   show (if kv.1=k then (kv.1,v) else kv).1=kv.1
   split <;> rfl
  rw [this]
  exact h
 ·rename_i c
  rw [YN]
  refine List.nodup_append.mpr ⟨h,by simp,λx hx y hy=>?_⟩
  simp only [List.map_cons,List.map_nil,List.mem_singleton] at hy
  subst hy
  intro e
  subst e
  obtain⟨kv,h1,h2⟩:=Yk.mp hx
  exact c (List.any_eq_true.mpr ⟨kv,h1,by rw [h2]; simp⟩)
def HomesAt(kvs:List (Key × V))(ss:List Str)(hs:List Nat)(n:Nat):Prop:=ss.length=hs.length/\∀ (i:Nat) z h,ss[i]?=some z->hs[i]?=some h->valV kvs (Sum.inr z)=some (.int (h:Int))/\h<=n
def Need(rs:List (Nat × Rat))(hs:List Nat)(k:Nat):Prop:=∃ h∈hs,∃ w,WayR rs h w/\k∈w
def rd_same{H H':Hp}{u:HO}(h:Rd H a u)(s:Same H H'):Rd H' a u:=h.elim (λe=>.inl (s _ _ e)) λ⟨o,e⟩=>.inr ⟨o,s _ _ e⟩
variable {hs:List Nat}
theorem need_take{i h:Nat}{w:List Nat}(hh:hs[i]?=some h)(hw:WayR rs h w)(k:Nat):Need rs (hs.take (i + 1)) k ↔ Need rs (hs.take i) k\/k∈w:=by
 unfold Need
 rw [Yy,hh]
 constructor
 ·rintro⟨h',hm,w',hw',hk⟩
  rcases Yp.mp hm with hm | hm
  ·exact .inl ⟨h',hm,w',hw',hk⟩
  ·have e:h'=h:=by simpa using hm
   subst e
   rw [hw.uniq hw'] at hk
   exact .inr hk
 ·rintro (⟨h',hm,w',hw',hk⟩ | hk)
  ·exact⟨h',Y0 _ hm,w',hw',hk⟩
  ·exact⟨h,List.mem_append_right _ (by simp),w,hw,hk⟩
def sp_needed(C:Addr):Sp:=λvs H Q _=>∃ (x:V) (rs:List (Nat × Rat)) (d g:Addr) (kvs:List (Key × V)) (ss:List Str) (hs:List Nat),vs=[x,.ref d,.ref g]/\TreeV C H x rs/\Rd H d (.dK kvs)/\H g=some (.lst (ss.map V.str))/\HomesAt kvs ss hs rs.length/\rs.length<=40/\ss.length < 50/\TreeOk rs /\
 ∀ p H' (ks:List Nat),H p=none->Same H H'->H' p=some (.lst (natV ks))->ks.Pairwise (· < ·)->(∀ k,k∈ks ↔ Need rs hs k)->Q (.ref p) H'
def Pnd(H0:Hp)(x:V)(d g l:Addr)(rs:List (Nat × Rat))(hs:List Nat)(i:Nat)(Z:St)(H:Hp):Prop:=∃ (o:Option V) (acc:List Nat),Z=[some x,some (.ref d),some (.ref g),some (.ref l),o]/\Same H0 H/\H l=some (.lst (natV acc))/\acc.length<=40 * i/\∀ k,k∈acc ↔ Need rs (hs.take i) k
def ok_needed(F:Fun K "needed" "needed" s_needed f fd)(n_sorted:mg "sorted"=none)(n_set:mg "set"=none)(M_way:Mth P w K mg base CX0 3 CT "way" ["self","k"] (λvs H Q _=>sp_wayM CT CNP vs H Q E0)):FnOk P w K mg base CX0 4 f fd ["tree","homes","group"] (sp_needed CT):=by
 refine okR F sc_needed λcdv A outer s H vs Q E hr h=>?_
 obtain⟨x,rs,d,g,kvs,ss,hs,rfl,hT,hd,hg,hH,hrl,hsl,hO,q⟩:=h
 refine⟨_,(b_cons (s_set 3 sc_needed.nd (q_lst a_nil))
   (b_cons (s_for Ys (i_list (q_v 2)) (g_name 4 sc_needed.nd) (b_one (s_expr (q_ext (q_v 3) (a_c (q_meth M_way hr (by decide) (q_v 0) (a_c (q_dget (hu_of hr) (q_v 1) (q_v 4)) a_nil)) a_nil)))))
   (b_one (s_ret (q_sortSet rfl n_sorted rfl n_set (a_c (q_v 3) a_nil)))))),?_⟩
 rw [show start ["tree","homes","group","roads","name"] [x,.ref d,.ref g]=[some (x),some (.ref d),some (.ref g),none,none] from rfl]
 walk_at "rd"
 simp only [tFor_list]
 walk_at "rd"
 intro l H1 hl s1 e1
 refine listK_of (Pnd H x d g l rs hs) ⟨_,[],rfl,s1,e1,Nat.zero_le _,λk=>⟨(λz=>by cases z),(λ⟨h,hm,_⟩=>by simp at hm)⟩⟩ (λi Z H' _ ⟨_,_,_,sm,_⟩=>.of (sm _ _ hg)) (λi y Z H' hi hP=>?_) (λZ H' hP=>?_)
 ·obtain⟨o,acc,rfl,sm,e2,hal,hm⟩:=hP
  rw [Yj] at hi
  obtain⟨z,hz,rfl⟩:∃ z,ss[i]?=some z/\y=V.str z:=by cases h:ss[i]? with | none=>rw [h] at hi; cases hi | some z=>rw [h] at hi; cases hi; exact⟨z,rfl,rfl⟩
  have hi':i < ss.length:=(Yf.mp hz).1
  have hih:i < hs.length:=by rw [<- hH.1]; exact hi'
  have hh:=Yb hih
  obtain⟨hv,hle⟩:=hH.2 i z _ hz hh
  obtain⟨w0,hw0,hwl0⟩:=way_some hO hle
  walk_at "rd"
  obtain⟨xa,dx,la,wa,ls,ws,rfl,h1,_⟩:=id (hT.same sm)
  refine⟨⟨_,e2⟩,xa,rfl,dx,_,h1,rfl,kvs,rd_same hd sm,.inr z,rfl,_,hv,.ref xa,rs,_,rfl,hT.same sm,λp H2 k' w1 ek hp s2 e3 hw1 hwl1=>?_,λzz=>absurd ⟨by omega,by omega⟩ zz⟩
  have ek':hs[i]=k':=by omega
  subst ek'
  have ew:=hw0.uniq hw1
  subst ew
  refine⟨p,rfl,_,s2 _ _ e2,_,e3,?_,_,acc ++ w1,rfl,same_upd hl (sm.trans s2),by rw [upd_same]; simp [natV],by simp; omega,λk=>?_⟩
  ·exact Nat.le_trans (show _<=10000 by simp [natV]; omega) (by decide)
  ·rw [need_take hh hw0 k,Yp,hm k]
 ·obtain⟨o,acc,rfl,sm,e2,hal,hm⟩:=hP
  walk_at "rd"
  have hss:ss.length=hs.length:=hH.1
  rw [Yg,hss,YJ] at hm
  have hbd:∀ k∈acc,1<=k/\k<=rs.length:=λk hk=>by
   obtain⟨h,_,w0,hw,hk2⟩:=(hm k).mp hk
   exact hw.mem k hk2
  refine⟨acc.map Int.ofNat,by rw [e2]; simp [natV],by simp at hal ⊢; omega,λk hk=>?_,λp H2 ks hp s2 e3 hpw hmem=>?_⟩
  ·obtain⟨k',hk',rfl⟩:=Yk.mp hk
   have:=hbd k' hk'
   show 0<=(k':Int)/\(k':Int) < 60
   omega
  ·have hnat:∀ k∈ks,0<=k:=λk hk=>by
    obtain⟨k',_,rfl⟩:=Yk.mp ((hmem k).mp hk)
    exact Int.natCast_nonneg k'
   have eks:(ks.map Int.toNat).map Int.ofNat=ks:=by
    rw [Vf]
    conv=>rhs; rw [<- List.map_id ks]
    exact Y6 λk hk=>V9 (hnat k hk)
   refine q p H2 (ks.map Int.toNat) (sm.free hp) (sm.trans s2) ?_ ?_ λk=>?_
   ·rw [e3]
    conv=>lhs; rw [<- eks]
    simp [natV]
   ·rw [List.pairwise_map]
    exact hpw.imp_of_mem λha hb h=>by have:=hnat _ ha; have:=hnat _ hb; omega
   ·rw [<- hm k]
    constructor
    ·intro h
     obtain⟨k',hk',rfl⟩:=Yk.mp h
     obtain⟨k2,hk2,e⟩:=Yk.mp ((hmem k').mp hk')
     have:k'.toNat=k2:=by rw [<- e]; rfl
     rw [this]
     exact hk2
    ·intro h
     exact Yk.mpr ⟨(k:Int),(hmem _).mpr (Yk.mpr ⟨k,h,rfl⟩),rfl⟩
def priceAt(rs:List (Nat × Rat))(k:Nat):Rat:=((rs[k - 1]?).map (·.2)).getD 0
theorem RatsV.keep{H H':Hp}(h:RatsV H xs qs)(s:∀ b ys,H b=some (.tup ys)->H' b=some (.tup ys)):RatsV H' xs qs:=⟨h.1,λi x q h1 h2=>(h.2 i x q h1 h2).keep s⟩
theorem RatsV.snoc(h:RatsV H xs qs)(hx:RatV H x q):RatsV H (xs ++ [x]) (qs ++ [q]):=⟨by simp [h.1],λi y r h1 h2=>by
 by_cases c:i < xs.length
 ·rw [YC c] at h1
  rw [YC (by rw [<- h.1]; exact c)] at h2
  exact h.2 i y r h1 h2
 ·have hi:i=xs.length:=by have:=(List.getElem?_eq_some_iff.mp h1).1; simp at this; omega
  subst hi
  rw [YA (Yd _)] at h1
  rw [h.1,YA (Yd _)] at h2
  simp at h1 h2
  subst h1
  subst h2
  exact hx⟩
variable {ks:List Nat}
def few_of(h:ks.Pairwise (· < ·))(hb:∀ k∈ks,1<=k/\k<=n):ks.length<=n:=by
 have hs:ks ⊆ List.range' 1 n:=λk hk=>by
  obtain⟨h1,h2⟩:=hb k hk
  exact List.mem_range'_1.mpr ⟨h1,by omega⟩
 have hn:ks.Nodup:=h.imp λh e=>by rw [e] at h; exact YR _ h
 have:=YH hn hs
 simpa using this
def sorted_eq{ks ls:List Nat}(h1:ks.Pairwise (· < ·))(h2:ls.Pairwise (· < ·))(h:∀ k,k∈ks ↔ k∈ls):ks=ls:=by
 have n1:ks.Nodup:=h1.imp λh e=>by rw [e] at h; exact YR _ h
 have n2:ls.Nodup:=h2.imp λh e=>by rw [e] at h; exact YR _ h
 have p:ks.Perm ls:=(List.perm_ext_iff_of_nodup n1 n2).mpr h
 exact List.Perm.eq_of_pairwise (λa b _ _ h1 h2=>absurd h2 (Nat.lt_asymm h1)) h1 h2 p
def need_bd(h:Need rs hs k):1<=k/\k<=rs.length:=by
 obtain⟨_,_,_,hw,hk⟩:=h
 exact hw.mem k hk
variable {ss:List Str}
def inV_str{z:Str}:inV (V.str z) (ss.map V.str)=decide (z∈ss):=by
 unfold inV
 rw [List.any_map]
 induction ss with
 | nil=>simp
 | cons y ss ih =>
  rw [VA,ih]
  show ((y == z) || _)=_
  by_cases c:y=z
  ·subst c; simp
  ·have:(y == z)=false:=by simpa using c
   rw [this,Bool.false_or]
   simp [Ne.symm c]
def flat_strs(ss:List Str):(ss.map V.str).all flatV=true:=by
 rw [List.all_eq_true]
 intro x hx
 obtain⟨z,_,rfl⟩:=Yk.mp hx
 rfl
def blk_pick{cp:St}{tt:TT}{H1:Hp}{Q:VK}(r:Str->Bool)(ha:H1 a=some (.lst (ss.map V.str)))(hl:ss.length < 1000)(ht:∀ z H' (k:Bool->Hp->Prop),Same H1 H'->k (r z) H'->tt (some (V.str z) :: cp) H' k)
  (q:∀ p H',H1 p=none->Same H1 H'->H' p=some (.lst ((ss.filter r).map V.str))->Q (.ref p) H'):tBlkT 1 cp (Itl K a) (gName 0) tt (tVar 0) H1 Q:=by
 refine blk_list (xs:=ss.map V.str) (λacc i ys H'=>Same H1 H'/\H' acc=some (.lst ys)/\ys=((ss.take i).filter r).map V.str/\i<=ss.length)
  (λacc H2 hn sm e=>⟨sm,e,by simp,Nat.zero_le _⟩) (λacc i ys H2 hn ⟨sm,e,e2,hi⟩=>⟨e,?_,.of (sm _ _ ha)⟩) (λacc i y ys H2 os hn hi hP ol=>?_) (λacc ys H2 hn hP=>?_)
 ·rw [e2,Yg]
  exact Yx (Vi _ _) (by rw [YG]; omega)
 ·obtain⟨sm,e,e2,_⟩:=hP
  obtain⟨o,rfl⟩:∃ o,os=[o]:=by match os,ol with | [o],_=>exact⟨o,rfl⟩
  rw [Yj] at hi
  obtain⟨z,hz,rfl⟩:∃ z,ss[i]?=some z/\y=V.str z:=by cases h:ss[i]? with | none=>rw [h] at hi; cases hi | some z=>rw [h] at hi; cases hi; exact⟨z,rfl,rfl⟩
  have hil:=(Yf.mp hz).1
  refine⟨[some (V.str z)],rfl,rfl,ht z H2 _ sm ?_⟩
  have tk:(ss.take (i + 1)).filter r=(ss.take i).filter r ++ (if r z=true then [z] else []):=by
   rw [Yy,hz,List.filter_append]
   congr 1
   show [z].filter r=_
   by_cases c:r z=true
   ·rw [V5 c,if_pos c]; rfl
   ·rw [VT c,if_neg c]; rfl
  refine ite2 (λc=>⟨V.str z,rfl,e,same_upd hn sm,upd_same,?_,hil⟩) (λc=>⟨sm,e,?_,hil⟩)
  ·rw [tk,if_pos c,e2,YN]; rfl
  ·rw [tk,if_neg c,Vb,e2]
 ·obtain⟨sm,e,e2,_⟩:=hP
  rw [Yg,YJ] at e2
  subst e2
  exact q acc H2 hn sm e
variable {hf:Str->Nat}
def need_map{gs:List Str}:Need rs (gs.map hf) k ↔ ∃ z∈gs,∃ w,WayR rs (hf z) w/\k∈w:=by
 unfold Need
 constructor
 ·rintro⟨h,hm,w⟩
  obtain⟨z,hz,rfl⟩:=Yk.mp hm
  exact⟨z,hz,w⟩
 ·rintro⟨z,hz,w⟩
  exact⟨_,Yk.mpr ⟨z,hz,rfl⟩,w⟩
def addAll(qs:List Rat):Rat:=qs.foldl (· + ·) 0
def foldl_add(qs:List Rat):∀ a:Rat,qs.foldl (· + ·) a=a + qs.foldl (· + ·) 0:=by
 induction qs with
 | nil=>intro a; exact (Rat.add_zero a).symm
 | cons q qs ih =>
  intro a
  show qs.foldl (· + ·) (a + q)=a + qs.foldl (· + ·) (0 + q)
  rw [ih (a + q),ih (0 + q),Rat.zero_add,Rat.add_assoc]
def addAll_cons(q:Rat)(qs:List Rat):addAll (q :: qs)=q + addAll qs:=by
 show qs.foldl (· + ·) (0 + q)=_
 rw [Rat.zero_add,foldl_add]
 rfl
def knownL(acc:List Nat):List (Key × V):=acc.map λk:Nat=>(Sum.inl (k:Int),V.bl true)
def known_in{acc:List Nat}:(valV (knownL acc) (Sum.inl (k:Int))).isSome=decide (k∈acc):=by
 induction acc with
 | nil=>rfl
 | cons a acc ih =>
  by_cases c:a=k
  ·subst c
   unfold knownL
   rw [Yr,valV_pos rfl]
   simp
  ·unfold knownL at ih ⊢
   rw [Yr,valV_neg (by intro e; injection e with e; exact c (by omega)),ih]
   simp [Ne.symm c]
def known_put{acc:List Nat}(h:k ∉ acc):putK (knownL acc) (Sum.inl (k:Int)) (V.bl true)=knownL (acc ++ [k]):=by
 rw [putK_new _ (by
  have:=known_in (acc:=acc) (k:=k)
  rw [YQ h] at this
  simpa using this)]
 unfold knownL
 rw [YN]
 rfl
def few_nodup{acc:List Nat}(h:acc.Nodup)(hb:∀ k∈acc,1<=k/\k<=n):acc.length<=n:=by
 have hs:acc ⊆ List.range' 1 n:=λk hk=>by
  obtain⟨h1,h2⟩:=hb k hk
  exact List.mem_range'_1.mpr ⟨h1,by omega⟩
 have:=YH h hs
 simpa using this
def price_size(hz:∀ r∈rs,SzQ 110 r.2)(k:Nat):SzQ 110 (priceAt rs k):=by
 unfold priceAt
 cases h:rs[k - 1]? with
 | none=>exact sz_zero (by decide)
 | some r=>exact hz r (Yo h)
def addAll_size(hz:∀ r∈rs,SzQ 110 r.2):∀ acc:List Nat,SzQ (111 * acc.length + 1) (addAll (acc.map (priceAt rs)))
 | []=>sz_zero (by decide)
 | k :: acc=>by
  rw [Yr,addAll_cons,YO]
  exact (price_size hz k).add (addAll_size hz acc) (by omega)
def sp_ladd:Sp:=λvs H Q _=>∃ (x y:V) (p q:Rat),vs=[x,y]/\RatV H x p/\RatV H y q/\SzQ 3000 p/\SzQ 3000 q/\∀ r H',Same H H'->RatV H' r (p + q)->Q r H'
def ok_ladd(F:Fun K "_law_plus" "_law_plus" s_law_plus f fd)(F_law_low:Fn P w K mg base CX0 1 "_law_low" ["_law_top","_law_bottom"] sp_lowQ):FnOk P w K mg base CX0 2 f fd ["_law_one","_law_other"] sp_ladd:=by
 refine okR F sc_law_plus λcdv A outer s H vs Q E hr h=>?_
 obtain⟨x,y,p,t,rfl,⟨a,rfl,ha⟩,⟨b,rfl,hb⟩,z1,z2,q⟩:=h
 refine⟨_,(b_one (s_ret (qfn F_law_low hr (a_c (q_add (q_mulL (q_ixT (q_v 0) q_int) (q_ixT (q_v 1) q_int)) (q_mulL (q_ixT (q_v 1) q_int) (q_ixT (q_v 0) q_int))) (a_c (q_mulL (q_ixT (q_v 0) q_int) (q_ixT (q_v 1) q_int)) a_nil))))),?_⟩
 rw [show start ["_law_one","_law_other"] [.ref a,.ref b]=[some (.ref a),some (.ref b)] from rfl]
 walk_at "rd"
 simp only [ha,hb,sp_lowQ]
 walk_at "rd"
 have hp:=p.den_pos
 have ht:=t.den_pos
 refine⟨mulOk z1.1 (den_lt z2) (by decide),mulOk z2.1 (den_lt z1) (by decide),mulOk (den_lt z1) (den_lt z2) (by decide),Big.of (mul_lt_pow (den_lt z1) (den_lt z2)) (by decide),Int.mul_pos (by omega) (by omega),λr H' hs v=>q r H' hs ?_⟩
 rw [add_divInt]
 exact v
def blk_pickD{o:Obj}{cp:St}{tt:TT}{H1:Hp}{Q:VK}(r:Str->Bool)(ha:H1 a=some (.frz o (.dK kvs)))(he:(kvs.map λkv=>kV kv.1)=ss.map V.str)(hl:ss.length < 1000)(ht:∀ z∈ss,∀ H' (k:Bool->Hp->Prop),Same H1 H'->(∀ H2,Same H' H2->k (r z) H2)->tt (some (V.str z) :: cp) H' k)
  (q:∀ p H',H1 p=none->Same H1 H'->H' p=some (.lst ((ss.filter r).map V.str))->Q (.ref p) H'):tBlkT 1 cp (Itd a o kvs) (gName 0) tt (tVar 0) H1 Q:=by
 have hlen:kvs.length=ss.length:=by have:=congrArg List.length he; simpa using this
 refine blk_dict (λacc i ys H'=>Same H1 H'/\H' acc=some (.lst ys)/\ys=((ss.take i).filter r).map V.str/\i<=ss.length)
  (λacc H2 hn sm e=>⟨sm,e,by simp,Nat.zero_le _⟩) (λacc i ys H2 ⟨sm,e,e2,hi⟩=>⟨e,?_,sm _ _ ha⟩) (λacc i kv ys H2 os hn hi hP ol=>?_) (λacc ys H2 hn hP=>?_)
 ·rw [e2,Yg]
  exact Yx (Vi _ _) (by rw [YG]; omega)
 ·obtain⟨sm,e,e2,_⟩:=hP
  obtain⟨o',rfl⟩:∃ o',os=[o']:=by match os,ol with | [o'],_=>exact⟨o',rfl⟩
  obtain⟨z,hz,ek⟩:∃ z,ss[i]?=some z/\kV kv.1=V.str z:=by
   have h1:=congrArg (·[i]?) he
   simp only [List.getElem?_map,hi,Option.map_some] at h1
   cases h:ss[i]? with
   | none=>rw [h] at h1; cases h1
   | some z=>rw [h] at h1; exact⟨z,rfl,by simpa using h1⟩
  rw [ek]
  have hil:=(Yf.mp hz).1
  refine⟨[some (V.str z)],rfl,rfl,ht z (Yo hz) H2 _ sm λH3 s3=>?_⟩
  replace sm:=sm.trans s3
  replace e:=s3 _ _ e
  have tk:(ss.take (i + 1)).filter r=(ss.take i).filter r ++ (if r z=true then [z] else []):=by
   rw [Yy,hz,List.filter_append]
   congr 1
   show [z].filter r=_
   by_cases c:r z=true
   ·rw [V5 c,if_pos c]; rfl
   ·rw [VT c,if_neg c]; rfl
  refine ite2 (λc=>⟨V.str z,rfl,e,same_upd hn sm,upd_same,?_,hil⟩) (λc=>⟨sm,e,?_,hil⟩)
  ·rw [tk,if_pos c,e2,YN]; rfl
  ·rw [tk,if_neg c,Vb,e2]
 ·obtain⟨sm,e,e2,_⟩:=hP
  rw [hlen,YJ] at e2
  subst e2
  exact q acc H2 hn sm e
def Vil(kvs:List (Key × V))(ss:List Str)(hf:Str->Nat)(n:Nat):Prop:=(kvs.map λkv=>kV kv.1)=ss.map V.str/\ss.length < 50/\∀ z∈ss,valV kvs (Sum.inr z)=some (.int (hf z:Int))/\hf z<=n
theorem Vil.of(h1:(kvs.map λkv=>kV kv.1)=ss.map V.str)(hl:ss.length < 50)(h2:∀ gs:List Str,(∀ z∈gs,z∈ss)->HomesAt kvs gs (gs.map hf) n):Vil kvs ss hf n :=
 ⟨h1,hl,λz hz=>(h2 [z] (λy hy=>by rw [YB.mp hy]; exact hz)).2 0 z (hf z) rfl rfl⟩
section
variable {P:Program}{w:World}{K:PySem.W.Frag}{mg:Str->Option Value}{base:Heap}{f:Addr}{fd:FuncData}{CT CNP CNT CSE:Addr}
end
def ListV(R:Hp->V->α->Prop)(H:Hp)(xs:List V)(as:List α):Prop:=xs.length=as.length/\∀ (i:Nat) x a,xs[i]?=some x->as[i]?=some a->R H x a
def Keeps(R:Hp->V->α->Prop):Prop:=∀ H H' v a,R H v a->(∀ b ys,H b=some (.tup ys)->H' b=some (.tup ys))->R H' v a
theorem ListV.keep{R:Hp->V->α->Prop}(kR:Keeps R){H H':Hp}{xs:List V}{as:List α}(h:ListV R H xs as)(s:∀ b ys,H b=some (.tup ys)->H' b=some (.tup ys)):ListV R H' xs as:=⟨h.1,λi x a h1 h2=>kR _ _ _ _ (h.2 i x a h1 h2) s⟩
theorem ListV.snoc{R:Hp->V->α->Prop}{as:List α}{a:α}(h:ListV R H xs as)(hx:R H x a):ListV R H (xs ++ [x]) (as ++ [a]):=⟨by simp [h.1],λi y r h1 h2=>by
 by_cases c:i < xs.length
 ·rw [YC c] at h1
  rw [YC (by rw [<- h.1]; exact c)] at h2
  exact h.2 i y r h1 h2
 ·have hi:i=xs.length:=by have:=(List.getElem?_eq_some_iff.mp h1).1; simp at this; omega
  subst hi
  rw [YA (Yd _)] at h1
  rw [h.1,YA (Yd _)] at h2
  simp at h1 h2
  subst h1
  subst h2
  exact hx⟩
theorem blk_gen{nt:Nat}{cp:St}{g:TG}{te:TE}{H1:Hp}{Q:VK}(R:Hp->V->α->Prop)(kR:Keeps R){xs:List V}{as:List α}(ha:H1 a=some (.lst xs))(hlen:xs.length=as.length)(hl:xs.length < 1000)
  (ht:∀ (i:Nat) x b,xs[i]?=some x->as[i]?=some b->∀ H' (k:VK) os,Same H1 H'->os.length=nt->(∀ v H2,Same H' H2->R H2 v b->k v H2)->g x (os ++ cp) H' λτ H3=>∃ os',os'.length=nt/\τ=os' ++ cp/\te τ H3 k)
  (q:∀ p H' ys,H1 p=none->Same H1 H'->H' p=some (.lst ys)->ListV R H' ys as->Q (.ref p) H'):tBlk nt cp (Itl K a) g te H1 Q:=by
 unfold tBlk
 refine blk_list (xs:=xs) (λacc i ys H'=>Same H1 H'/\H' acc=some (.lst ys)/\ListV R H' ys (as.take i)/\i<=as.length)
  (λacc H2 hn sm e=>⟨sm,e,⟨by simp,λi v r h1 h2=>by simp at h1⟩,Nat.zero_le _⟩) (λacc i ys H2 hn ⟨sm,e,e2,hi⟩=>⟨e,?_,.of (sm _ _ ha)⟩) (λacc i y ys H2 os hn hi hP ol=>?_) (λacc ys H2 hn hP=>?_)
 ·rw [e2.1,YG]; omega
 ·obtain⟨sm,e,e2,_⟩:=hP
  have hil:i < as.length:=by rw [<- hlen]; exact (Yf.mp hi).1
  have hb:=Yb hil
  refine ht i y _ hi hb H2 (λv H5=>H5 acc=some (.lst ys)/\(Same H1 (upd H5 acc (.lst (ys ++ [v])))/\upd H5 acc (.lst (ys ++ [v])) acc=some (.lst (ys ++ [v]))/\ListV R (upd H5 acc (.lst (ys ++ [v]))) (ys ++ [v]) (as.take (i + 1))/\i + 1<=as.length)) os sm ol λv H3 s3 hv=>⟨s3 _ _ e,same_upd hn (sm.trans s3),upd_same,?_,hil⟩
  have kp:∀ b ys',H3 b=some (.tup ys')->upd H3 acc (.lst (ys ++ [v])) b=some (.tup ys'):=λb ys' eb=>by rw [upd_ne (ne_of eb (s3 _ _ e) (by intro z; cases z))]; exact eb
  rw [Yy,hb]
  exact ((e2.keep kR λb ys' eb=>s3 _ _ eb).keep kR kp).snoc (kR _ _ _ _ hv kp)
 ·obtain⟨sm,e,e2,_⟩:=hP
  rw [hlen,YJ] at e2
  exact q acc H2 ys hn sm e e2
def blk_genD{o:Obj}{nt:Nat}{cp:St}{g:TG}{te:TE}{H1:Hp}{Q:VK}(R:Hp->V->α->Prop)(kR:Keeps R){as:List α}(ha:H1 a=some (.frz o (.dK kvs)))(hlen:kvs.length=as.length)(hl:kvs.length < 1000)
  (ht:∀ (i:Nat) kv b,kvs[i]?=some kv->as[i]?=some b->∀ H' (k:VK) os,Same H1 H'->os.length=nt->(∀ v H2,Same H' H2->R H2 v b->k v H2)->g (kV kv.1) (os ++ cp) H' λτ H3=>∃ os',os'.length=nt/\τ=os' ++ cp/\te τ H3 k)
  (q:∀ p H' ys,H1 p=none->Same H1 H'->H' p=some (.lst ys)->ListV R H' ys as->Q (.ref p) H'):tBlk nt cp (Itd a o kvs) g te H1 Q:=by
 unfold tBlk
 refine blk_dict (λacc i ys H'=>Same H1 H'/\H' acc=some (.lst ys)/\ListV R H' ys (as.take i)/\i<=as.length)
  (λacc H2 hn sm e=>⟨sm,e,⟨by simp,λi v r h1 h2=>by simp at h1⟩,Nat.zero_le _⟩) (λacc i ys H2 ⟨sm,e,e2,hi⟩=>⟨e,?_,sm _ _ ha⟩) (λacc i y ys H2 os hn hi hP ol=>?_) (λacc ys H2 hn hP=>?_)
 ·rw [e2.1,YG]; omega
 ·obtain⟨sm,e,e2,_⟩:=hP
  have hil:i < as.length:=by rw [<- hlen]; exact (Yf.mp hi).1
  have hb:=Yb hil
  refine ht i y _ hi hb H2 (λv H5=>H5 acc=some (.lst ys)/\(Same H1 (upd H5 acc (.lst (ys ++ [v])))/\upd H5 acc (.lst (ys ++ [v])) acc=some (.lst (ys ++ [v]))/\ListV R (upd H5 acc (.lst (ys ++ [v]))) (ys ++ [v]) (as.take (i + 1))/\i + 1<=as.length)) os sm ol λv H3 s3 hv=>⟨s3 _ _ e,same_upd hn (sm.trans s3),upd_same,?_,hil⟩
  have kp:∀ b ys',H3 b=some (.tup ys')->upd H3 acc (.lst (ys ++ [v])) b=some (.tup ys'):=λb ys' eb=>by rw [upd_ne (ne_of eb (s3 _ _ e) (by intro z; cases z))]; exact eb
  rw [Yy,hb]
  exact ((e2.keep kR λb ys' eb=>s3 _ _ eb).keep kR kp).snoc (kR _ _ _ _ hv kp)
 ·obtain⟨sm,e,e2,_⟩:=hP
  rw [hlen,YJ] at e2
  exact q acc H2 ys hn sm e e2
def IntR(_:Hp)(v:V)(n:Int):Prop:=v=.int n
theorem int_keeps:Keeps IntR:=λ_ _ _ _ h _=>h
def int_list{ys:List V}{ns:List Int}(h:ListV IntR H ys ns):ys=ns.map V.int:=by
 refine Vw λi=>?_
 rw [Yj]
 by_cases c:i < ys.length
 ·have c2:i < ns.length:=by rw [<- h.1]; exact c
  rw [Yb c,Yb c2]
  exact congrArg some (h.2 i _ _ (Yb c) (Yb c2))
 ·rw [YU (by omega),YU (by rw [<- h.1]; omega)]
  rfl
def sub_divI(p q:Rat):p - q=Rat.divInt (p.num * (q.den:Int) - q.num * (p.den:Int)) ((p.den:Int) * (q.den:Int)):=by
 have hp:=p.den_pos
 have hq:=q.den_pos
 conv=>lhs; rw [<- Vv p,<- Vv q]
 rw [Rat.divInt_sub_divInt _ _ (by omega) (by omega)]
theorem SzQ.sub{n m k:Nat}{p q:Rat}(hp:SzQ n p)(hq:SzQ m q)(h:n + m + 1<=k):SzQ k (p - q):=by
 have hq':SzQ m (-q):=⟨by rw [Rat.neg_num,Int.natAbs_neg]; exact hq.1,by rw [Rat.neg_den]; exact hq.2⟩
 rw [Rat.sub_eq_add_neg]
 exact hp.add hq' h
def sp_restL:Sp:=λvs H Q _=>∃ (x y:V) (p q:Rat),vs=[x,y]/\RatV H x p/\RatV H y q/\SzQ 3000 p/\SzQ 3000 q/\∀ r H',Same H H'->RatV H' r (p - q)->Q r H'
def RatsSz(qs:List Rat):Prop:=(∀ i,i<=qs.length->SzQ 3000 (psum qs i))/\∀ (i:Nat) q,qs[i]?=some q->SzQ 3000 q
def sp_ltotal:Sp:=λvs H Q _=>∃ (a:Addr) (xs:List V) (qs:List Rat),vs=[.ref a]/\H a=some (.lst xs)/\RatsV H xs qs/\RatsSz qs/\∀ r H',Same H H'->RatV H' r (psum qs qs.length)->Q r H'
def sp_lcost:Sp:=λvs H Q _=>∃ (p d g:Addr) (xs:List V) (rs:List (Nat × Rat)) (kvs:List (Key × V)) (ss:List Str) (hs:List Nat),vs=[.ref p,.ref d,.ref g]/\H p=some (.lst xs)/\RoadsV H xs rs/\Rd H d (.dK kvs)/\H g=some (.lst (ss.map V.str))/\HomesAt kvs ss hs rs.length/\rs.length<=20/\ss.length < 50/\TreeOk rs/\(∀ r∈rs,SzQ 110 r.2) /\
 ∀ r H' (acc:List Nat),Same H H'->acc.Nodup->(∀ k,k∈acc ↔ Need rs hs k)->RatV H' r (addAll (acc.map (priceAt rs)))->Q r H'
def known_put2{acc:List Nat}(h:k∈acc):putK (knownL acc) (Sum.inl (k:Int)) (V.bl true)=knownL acc:=by
 unfold putK
 split
 ·rw [show (knownL acc).map (λkv=>if kv.1=Sum.inl (k:Int) then (kv.1,V.bl true) else kv)=(knownL acc).map id from Y6 λkv hkv=>?_,List.map_id]
  unfold knownL at hkv
  obtain⟨j,_,rfl⟩:=Yk.mp hkv
  show (if _ then _ else _)=_
  split <;> rfl
 ·rename_i c
  exact absurd (List.any_eq_true.mpr ⟨(Sum.inl (k:Int),V.bl true),List.mem_map.mpr ⟨k,h,rfl⟩,by simp⟩) c
def rats_list{ys:List V}(h:ListV RatV H ys qs):RatsV H ys qs:=h
theorem rat_keeps:Keeps RatV:=λ_ _ _ _ h s=>h.keep s
def ok_lless(F:Fun K "_law_less" "_law_less" s_law_less f fd)(F_law_low:Fn P w K mg base CX0 1 "_law_low" ["_law_top","_law_bottom"] sp_lowQ):FnOk P w K mg base CX0 2 f fd ["_law_one","_law_other"] sp_restL:=by
 refine okR F sc_law_less λcdv A outer s H vs Q E hr h=>?_
 obtain⟨x,y,p,t,rfl,⟨a,rfl,ha⟩,⟨b,rfl,hb⟩,z1,z2,q⟩:=h
 refine⟨_,(b_one (s_ret (qfn F_law_low hr (a_c (q_sub (q_mulL (q_ixT (q_v 0) q_int) (q_ixT (q_v 1) q_int)) (q_mulL (q_ixT (q_v 1) q_int) (q_ixT (q_v 0) q_int))) (a_c (q_mulL (q_ixT (q_v 0) q_int) (q_ixT (q_v 1) q_int)) a_nil))))),?_⟩
 rw [show start ["_law_one","_law_other"] [.ref a,.ref b]=[some (.ref a),some (.ref b)] from rfl]
 walk_at "rd"
 simp only [ha,hb,sp_lowQ]
 walk_at "rd"
 have hp:=p.den_pos
 have ht:=t.den_pos
 refine⟨mulOk z1.1 (den_lt z2) (by decide),mulOk z2.1 (den_lt z1) (by decide),mulOk (den_lt z1) (den_lt z2) (by decide),Big.of (mul_lt_pow (den_lt z1) (den_lt z2)) (by decide),Int.mul_pos (by omega) (by omega),λr H' hs v=>q r H' hs ?_⟩
 rw [sub_divI]
 exact v
def Plt(H1:Hp)(a:Addr)(qs:List Rat)(i:Nat)(Z:St)(H':Hp):Prop:=∃ r o,Z=[some (V.ref a),some r,o]/\Same H1 H'/\RatV H' r (psum qs i)
def ok_ltotal(F:Fun K "_law_total" "_law_total" s_law_total f fd)(F_law_plus:Fn P w K mg base CX0 2 "_law_plus" ["_law_one","_law_other"] sp_ladd):FnOk P w K mg base CX0 3 f fd ["_law_some"] sp_ltotal:=by
 refine okR F sc_law_total λcdv A outer s H vs Q E hr h=>?_
 obtain⟨a,xs,qs,rfl,ha,hR,hz,q⟩:=h
 refine⟨_,(b_cons (s_set 1 sc_law_total.nd (q_tup (a_c q_int (a_c q_int a_nil))))
   (b_cons (s_for Ys (i_list (q_v 0)) (g_name 2 sc_law_total.nd) (b_one (s_set 1 sc_law_total.nd (qfn F_law_plus hr (a_c (q_v 1) (a_c (q_v 2) a_nil))))))
   (b_one (s_ret (q_v 1))))),?_⟩
 rw [show start ["_law_some","_law_total_here","_law_one"] [.ref a]=[some (.ref a),none,none] from rfl]
 walk_at "rd"
 intro pt H1 hpt s1 e1
 simp only [tFor_list]
 walk_at "rd"
 refine listK_of (Plt H1 a qs) ⟨.ref pt,_,rfl,λ_ _ z=>z,pt,rfl,e1⟩ (λi Z H' _ ⟨_,_,_,sm,_⟩=>.of ((s1.trans sm) _ _ ha)) (λi x Z H' hx hP=>?_) (λZ H' hP=>?_)
 ·obtain⟨r,o,rfl,sm,hv⟩:=hP
  have hi:i < qs.length:=by rw [<- hR.1]; exact (Yf.mp hx).1
  have hq:=Yb hi
  walk_at "rd"
  refine⟨r,x,psum qs i,qs[i],rfl,hv,(hR.2 i _ _ hx hq).same (s1.trans sm),hz.1 i (Yt hi),hz.2 i _ hq,λr2 H2 s2 v2=>⟨_,_,rfl,sm.trans s2,?_⟩⟩
  rw [psum_succ hq]
  exact v2
 ·obtain⟨r,o,rfl,sm,hv⟩:=hP
  walk_at "rd"
  rw [hR.1] at hv
  exact q r H' (s1.trans sm) hv
def Plc(H0:Hp)(p d g kd:Addr)(Pm:Nat->Prop)(Z:St)(H:Hp):Prop:=∃ (o1 o2:Option V) (acc:List Nat),Z=[some (.ref p),some (.ref d),some (.ref g),some (.ref kd),o1,o2]/\Same H0 H/\H kd=some (.dK (knownL acc))/\acc.Nodup/\(∀ k,k∈acc ↔ Pm k)
def ok_lcost(F:Fun K "_law_cost" "_law_cost" s_law_cost f fd)(F_law_way:Fn P w K mg base CX0 1 "_law_way" ["_law_roads_here","_law_k"] sp_way)(F_law_total:Fn P w K mg base CX0 3 "_law_total" ["_law_some"] sp_ltotal):FnOk P w K mg base CX0 4 f fd ["_law_roads_here","_law_homes_here","_law_group"] sp_lcost:=by
 refine okR F sc_law_cost λcdv A outer s H vs Q E hr h=>?_
 obtain⟨p,d,g,xs,rs,kvs,ss,hs,rfl,hp,hR,hd,hg,hH,hrl,hsl,hO,hz,q⟩:=h
 refine⟨_,(b_cons (s_set 3 sc_law_cost.nd q_dnew)
   (b_cons (s_for Ys (i_list (q_v 2)) (g_name 4 sc_law_cost.nd) (b_one (s_for Ys (i_list (qfn F_law_way hr (a_c (q_v 0) (a_c (q_dget (hu_of hr) (q_v 1) (q_v 4)) a_nil)))) (g_name 5 sc_law_cost.nd) (b_one (s_dput (hu_of hr) (q_v 3) (q_v 5) q_bl)))))
   (b_frz 3 (b_one (s_ret (qfn F_law_total hr (a_c (q_comp (blkC ["_law_road"] [0] ["_law_roads_here"]) (i_dict (q_v 3)) (by exact λs H fp=>(g_name 0 (show List.Nodup (["_law_road","_law_roads_here"]:List Str) from by decide +kernel))) (by exact λs H fp=>(q_ixT (q_ixL (q_v 1) (q_sub (q_v 0) q_int)) q_int))) a_nil))))))),?_⟩
 rw [show start ["_law_roads_here","_law_homes_here","_law_group","_law_used","_law_name","_law_road"] [.ref p,.ref d,.ref g]=[some (.ref p),some (.ref d),some (.ref g),none,none,none] from rfl]
 walk_at "rd"
 intro kd H1 hkd s1 e1
 simp only [tFor_list]
 walk_at "rd"
 refine listK_of (λi=>Plc H p d g kd (Need rs (hs.take i))) ⟨_,_,[],rfl,s1,e1,List.nodup_nil,λk=>⟨(λz=>by cases z),(λ⟨h,hm,_⟩=>by simp at hm)⟩⟩ (λi Z H' _ ⟨_,_,_,_,sm,_⟩=>.of (sm _ _ hg)) (λi y Z H' hi hP=>?_) (λZ H' hP=>?_)
 ·obtain⟨o1,o2,acc,rfl,sm,e3,hnd,hm⟩:=hP
  rw [Yj] at hi
  obtain⟨z,hz',rfl⟩:∃ z,ss[i]?=some z/\y=V.str z:=by cases h:ss[i]? with | none=>rw [h] at hi; cases hi | some z=>rw [h] at hi; cases hi; exact⟨z,rfl,rfl⟩
  have hi':i < ss.length:=(Yf.mp hz').1
  have hih:i < hs.length:=by rw [<- hH.1]; exact hi'
  have hh:=Yb hih
  obtain⟨hvl,hle⟩:=hH.2 i z _ hz' hh
  obtain⟨w0,hw0,hwl0⟩:=way_some hO hle
  walk_at "rd"
  rw [tFor_list]
  walk_at "rd"
  refine⟨kvs,rd_same hd sm,.inr z,rfl,_,hvl,p,xs,rs,hs[i],w0,rfl,sm _ _ hp,hR.same sm,hw0,by omega,λpw H4 hpw s4 e4=>?_⟩
  have hpk:pw ≠ kd:=λzz=>by rw [zz,e3] at hpw; cases hpw
  refine listK_of (λj Z H5=>Plc H p d g kd (λk=>Need rs (hs.take i) k\/k∈w0.take j) Z H5/\H5 pw=some (.lst (natV w0))) ⟨⟨_,_,acc,rfl,sm.trans s4,s4 _ _ e3,hnd,λk=>by rw [hm k]; simp⟩,e4⟩ (λj Z H5 _ hP=>.of hP.2) (λj y Z H5 hj hP=>?_) (λZ H5 hP=>?_)
  ·obtain⟨⟨q1,q2,acc5,rfl,s5,e5,hnd5,hm5⟩,e6⟩:=hP
   have hjl:j < w0.length:=by have:=(List.getElem?_eq_some_iff.mp hj).1; simpa [natV] using this
   have hk:=Yb hjl
   have hy:y=V.int (w0[j]:Int):=by
    unfold natV at hj
    rw [Yj,hk] at hj
    cases hj
    rfl
   subst hy
   have tk:∀ k,k∈w0.take (j + 1) ↔ k∈w0.take j\/k=w0[j]:=λk=>by rw [List.take_add_one,hk,List.mem_append]; simp
   have hbd:∀ k∈acc5,1<=k/\k<=rs.length:=λk hk=>by
    rcases (hm5 k).mp hk with h | h
    ·exact need_bd h
    ·exact hw0.mem k (List.mem_of_mem_take h)
   have hal:=few_nodup hnd5 hbd
   walk_at "rd"
   refine⟨_,e5,.inl (w0[j]:Int),rfl,by unfold knownL; rw [List.length_map]; omega,?_⟩
   by_cases c:w0[j]∈acc5
   ·rw [known_put2 c]
    refine⟨⟨_,_,acc5,rfl,same_upd hkd s5,upd_same,hnd5,λk=>?_⟩,by rw [upd_ne hpk]; exact e6⟩
    show k∈acc5 ↔ (Need rs (hs.take i) k\/k∈w0.take (j + 1))
    rw [tk k,hm5 k]
    constructor
    ·rintro (h | h)
     ·exact .inl h
     ·exact .inr (.inl h)
    ·rintro (h | h | h)
     ·exact .inl h
     ·exact .inr h
     ·subst h; exact (hm5 _).mp c
   ·rw [known_put c]
    refine⟨⟨_,_,acc5 ++ [w0[j]],rfl,same_upd hkd s5,upd_same,?_,λk=>?_⟩,by rw [upd_ne hpk]; exact e6⟩
    ·exact List.nodup_append.mpr ⟨hnd5,by simp,λx hx y hy=>by rw [List.mem_singleton.mp hy]; intro e; exact c (e ▸ hx)⟩
    ·show k∈acc5 ++ [w0[j]] ↔ (Need rs (hs.take i) k\/k∈w0.take (j + 1))
     rw [Yp,YB,tk k,hm5 k,or_assoc]
  ·obtain⟨⟨q1,q2,acc5,rfl,s5,e5,hnd5,hm5⟩,e6⟩:=hP
   refine⟨_,_,acc5,rfl,s5,e5,hnd5,λk=>?_⟩
   rw [hm5 k,need_take hh hw0 k,show (natV w0).length=w0.length by simp [natV],List.take_length]
 ·obtain⟨o1,o2,acc,rfl,sm,e3,hnd,hm⟩:=hP
  rw [Yg,hH.1,YJ] at hm
  have hbd:∀ k∈acc,1<=k/\k<=rs.length:=λk hk=>need_bd ((hm k).mp hk)
  have hal:=few_nodup hnd hbd
  refine⟨kd,_,rfl,e3,λob=>?_⟩
  have sm2:Same H (upd H' kd (.frz ob (.dK (knownL acc)))):=same_upd hkd sm
  walk_at "rd"
  simp only [tComp,iDict,cxK]
  walk_at "rd"
  refine⟨ob,_,upd_same,?_⟩
  rw [show capOf [some (V.ref p),some (V.ref d),some (V.ref g),some (V.ref kd),o1,o2] [0]=[some (V.ref p)] from rfl]
  have kl:(knownL acc).length=acc.length:=by unfold knownL; rw [List.length_map]
  refine blk_genD RatV rat_keeps (as:=acc.map (priceAt rs)) upd_same (by rw [Yg,kl]) (by omega) (λi' kv' b' hi' hb' H3 kk os s6 ol hkk=>?_) (λpq H6 ys hpq s6 e7 hL=>?_)
  ·obtain⟨o',rfl⟩:∃ o',os=[o']:=by match os,ol with | [o'],_=>exact⟨o',rfl⟩
   rw [Yj] at hb'
   obtain⟨k',hk',rfl⟩:∃ k',acc[i']?=some k'/\b'=priceAt rs k':=by cases h:acc[i']? with | none=>rw [h] at hb'; cases hb' | some k'=>rw [h] at hb'; cases hb'; exact⟨k',rfl,rfl⟩
   have ekv:kV kv'.1=V.int (k':Int):=by
    unfold knownL at hi'
    rw [Yj,hk'] at hi'
    cases hi'
    rfl
   rw [ekv]
   obtain⟨b1,b2⟩:=hbd k' (Yo hk')
   walk_at "rd"
   refine⟨[some (.int (k':Int))],rfl,rfl,?_⟩
   walk_at "rd"
   have hlt:k' - 1 < rs.length:=by omega
   have hltx:k' - 1 < xs.length:=by rw [hR.1]; exact hlt
   have sm3:=sm2.trans s6
   obtain⟨pr,yr,exr,hpr,hyr⟩:=(hR.same sm3).2 (k' - 1) _ _ (Yb hltx) (Yb hlt)
   have hpa:priceAt rs k'=rs[k' - 1].2:=by unfold priceAt; rw [List.getElem?_eq_getElem hlt]; rfl
   refine⟨xs,sm3 _ _ hp,.ref pr,?_,pr,rfl,_,hpr,yr,rfl,hkk _ _ (λ_ _ z=>z) (by rw [hpa]; exact hyr)⟩
   rw [show ((k':Nat):Int) - 1=((k' - 1:Nat):Int) by omega,<- exr]
   exact atI_nat (Yb hltx)
  ·refine⟨pq,ys,acc.map (priceAt rs),rfl,e7,hL,⟨λi hi=>?_,λi q h=>?_⟩,λr H7 s7 v7=>q r H7 acc (sm2.trans (s6.trans s7)) hnd hm ?_⟩
   ·have e:psum (acc.map (priceAt rs)) i=addAll ((acc.take i).map (priceAt rs)):=by unfold psum addAll; rw [List.map_take]
    rw [e]
    rw [Yg] at hi
    exact (addAll_size hz (acc.take i)).mono (by rw [YG]; omega)
   ·rw [Yj] at h
    obtain⟨k',_,rfl⟩:=Vh.mp h
    exact (price_size hz k').mono (by decide)
   ·unfold psum at v7
    rw [YJ] at v7
    exact v7
def sp_far(pt C:Addr):Sp:=λvs H Q _=>∃ (x:V) (rs:List (Nat × Rat)) (d:Addr) (kvs:List (Key × V)) (ss:List Str) (hf:Str->Nat),vs=[x,.ref d]/\TreeV C H x rs/\Rd H d (.dK kvs)/\(kvs.map λkv=>kV kv.1)=ss.map V.str/\(∀ gs:List Str,(∀ z∈gs,z∈ss)->HomesAt kvs gs (gs.map hf) rs.length)/\rs.length<=20/\ss.length < 50/\TreeOk rs/\TabAt H pt "far_roads_first.<locals>.<lambda>" /\
 ∀ p H' (fr:List Nat),H p=none->Same H H'->H' p=some (.lst (natV fr))->fr.Nodup->(∀ k,k∈fr ↔ Need rs (ss.map hf) k)->fr.Pairwise (λa b=>(wayL rs b).length<=(wayL rs a).length)->Q (.ref p) H'
noncomputable def kyW(rs:List (Nat × Rat))(v:V):Int:=match v with | .int i=>((wayL rs i.toNat).length:Nat) | _=>0
def natOf(v:V):Nat:=match v with | .int i=>i.toNat | _=>0
def far_sorted{ys:List V}(h:SortedK true ((natV ks).map (kyW rs)) (natV ks) ys):∃ fr:List Nat,ys=natV fr/\fr.Perm ks/\fr.Pairwise (λa b=>(wayL rs b).length<=(wayL rs a).length):=by
 obtain⟨ps,hp,rfl,hw⟩:=h
 have ez:((natV ks).map (kyW rs)).zip (natV ks)=ks.map λk:Nat=>((((wayL rs k).length:Nat):Int),V.int (k:Int)):=by
  unfold natV
  rw [Vf,List.zip_map']
  exact List.map_congr_left λk _=>by simp [kyW]
 rw [ez] at hp
 have hm:∀ p∈ps,∃ k:Nat,p=((((wayL rs k).length:Nat):Int),V.int (k:Int)):=λp hpm=>by
  obtain⟨k,_,e⟩:=Yk.mp (hp.mem_iff.mp hpm)
  exact⟨k,e.symm⟩
 refine⟨ps.map λp=>natOf p.2,?_,?_,?_⟩
 ·unfold natV
  rw [Vf]
  refine Y6 λp hpm=>?_
  obtain⟨k,rfl⟩:=hm p hpm
  simp [natOf]
 ·have:=hp.map λp:Int × V=>natOf p.2
  rw [Vf] at this
  refine this.trans (List.Perm.of_eq ?_)
  rw [show ((λp:Int × V=>natOf p.2) ∘ λk:Nat=>((((wayL rs k).length:Nat):Int),V.int (k:Int)))=id from funext λk=>by simp [natOf],List.map_id]
 ·rw [List.pairwise_map]
  refine List.Pairwise.imp_of_mem (λ{a b} ha hb hab=>?_) hw
  obtain⟨k,rfl⟩:=hm a ha
  obtain⟨j,rfl⟩:=hm b hb
  simp [natOf] at hab ⊢
  omega
def ok_far(F:Fun K "far_roads_first" "far_roads_first" s_far_roads_first f fd)(hc:fd.code=.ref c)(hC:codeHdIn K c pt=true)(hB:BltMod mg base)(n_len:mg "len"=none)(n_sorted:mg "sorted"=none)(n_list:mg "list"=none)(F_needed:Fn P w K mg base CX0 4 "needed" ["tree","homes","group"] (sp_needed CT))
  (M_way:Mth P w K mg base CX0 3 CT "way" ["self","k"] (λvs H Q _=>sp_wayM CT CNP vs H Q E0)):FnOk P w K mg base CX0 8 f fd ["tree","homes"] (sp_far pt CT):=by
 refine okQc F hc sc_far_roads_first (λvs H Q E h=>?_) (λA outer s H vs Q E hr h=>?_)
 ·obtain⟨x,rs,d,kvs,ss,hf,rfl,_⟩:=h; rfl
 obtain⟨x,rs,d,kvs,ss,hf,rfl,hT,hd,hkv,hat,hrl,hsl,hO,hB2,q⟩:=h
 refine⟨_,(b_one (s_ret (q_sortW rfl n_sorted (qfn F_needed hr (a_c (q_v 0) (a_c (q_v 1) (a_c (q_listD rfl n_list (a_c (q_v 1) a_nil)) a_nil)))) (QE.mk (pe_keyLamW (z:="tree") (y:="road") (i:=0) (k:=4) rfl rfl rfl rfl hC hB rfl hr ⟨rfl,rfl,rfl,by decide +kernel,by decide +kernel,by decide +kernel,by decide +kernel,λy e=>by have h:=PySem.mem_of_lookup e; simp at h; subst h; exact⟨_,rfl⟩⟩ rfl (Or.inr (Or.inl rfl)) (λz=>absurd ((show _=some NameKind.cell from rfl).symm.trans z) (by decide)) (λ_ _ _ _=>rfl) (λ_ _ _ _=>q_len rfl n_len (a_c (q_meth M_way (hr.in1.in1.deeper _) (by decide) (q_v 1) (a_c (q_v 0) a_nil)) a_nil)))) q_bl))),?_⟩
 rw [show start ["tree","homes"] [x,.ref d]=[some (x),some (.ref d)] from rfl]
 walk_at "rd"
 show tCall _ _ _ _ _ _ _
 walk_at "rd"
 refine⟨d,kvs,rfl,hd,λl H1 hl s1 e1=>?_⟩
 rw [hkv] at e1
 refine⟨x,rs,d,l,kvs,ss,ss.map hf,rfl,hT.same s1,rd_same hd s1,e1,hat ss λ_ hz=>hz,by omega,hsl,hO,λp H2 ks hp s2 e2 hpw hmem=>?_⟩
 have s12:=s1.trans s2
 have hbd:∀ k∈ks,1<=k/\k<=rs.length:=λk hk=>need_bd ((hmem k).mp hk)
 have hkl:=few_of hpw hbd
 refine⟨let ⟨t,ht⟩:=hB2; ⟨t,s12 _ _ ht⟩,x,rfl,λfv H3 s3 hfv=>⟨p,natV ks,kyW rs,rfl,s3 _ _ e2,by simp [natV]; omega,hfv _ _ λy hy H' k sm hk=>?_,λD H4 ys hD s4 e4 hs=>?_⟩⟩
 ·obtain⟨k0,hk0,rfl⟩:=Yk.mp hy
  obtain⟨b1,b2⟩:=hbd k0 hk0
  have hT2:=hT.same (s12.trans (s3.trans sm))
  obtain⟨xa,dx,la,wa,ls,ws,rfl,h1,_⟩:=id hT2
  walk_at "rd"
  refine⟨dx,_,h1,rfl,.ref xa,rs,k0,rfl,hT2,λp5 H5 k' w0 ek hp5 s5 e5 hw hwl=>⟨p5,rfl,_,.inl e5,?_⟩,λzz=>absurd ⟨by omega,by omega⟩ zz⟩
  have e:k'=k0:=by omega
  subst e
  have e2:kyW rs (.int (k':Int))=((natV w0).length:Nat):=by simp [kyW,natV,wayL_at hw]
  rw [<- e2]
  exact hk H5 s5
 ·obtain⟨fr,rfl,hfp,hfw⟩:=far_sorted hs
  have hkn:ks.Nodup:=hpw.imp λh e=>by rw [e] at h; exact YR _ h
  exact q D H4 fr ((s12.trans s3).free hD) (s12.trans (s3.trans s4)) e4 (hfp.symm.nodup hkn) (λk=>(hfp.mem_iff).trans (hmem k)) hfw
def sp_drawn:Sp:=λvs H Q _=>∃ (c:Int) (a:Addr) (bs:List Int),vs=[.int c,.ref a]/\H a=some (.lst (bs.map V.int))/\bs.length < 1000/\(∀ b∈bs,0 < b/\b.natAbs < 2 ^ 110) /\
 ∀ p H' (xs:List Int),H p=none->Same H H'->H' p=some (.lst (xs.map V.int))->xs.length=bs.length->(∀ (i:Nat) x b,xs[i]?=some x->bs[i]?=some b->0<=x/\x < b)->Q (.ref p) H'
def Pdr(H0:Hp)(c:Int)(a p:Addr)(bs:List Int)(i:Nat)(Z:St)(H:Hp):Prop:=∃ (r:Int) (o1 o2 o3:Option V) (xs:List Int),Z=[some (.int c),some (.ref a),some (.ref p),some (.int r),o1,o2,o3]/\Same H0 H/\H p=some (.lst (xs.map V.int))/\xs.length=i /\
 ∀ (i:Nat) x b,xs[i]?=some x->bs[i]?=some b->0<=x/\x < b
def ok_drawn(F:Fun K "_law_drawn" "_law_drawn" s_law_drawn f fd)(n_enumerate:mg "enumerate"=none):FnOk P w K mg base CX0 1 f fd ["_law_cell","_law_bases"] sp_drawn:=by
 refine okR F sc_law_drawn λcdv A outer s H vs Q E hr h=>?_
 obtain⟨c,a,bs,rfl,ha,hbl,hb,q⟩:=h
 refine⟨_,(b_cons (s_set 2 sc_law_drawn.nd (q_lst a_nil))
   (b_cons (s_set 3 sc_law_drawn.nd (q_v 0))
   (b_cons (s_for Ys (i_enum rfl n_enumerate (a_c (q_v 1) a_nil)) (g_tup (n:=2) (gs_cons (g_name 4 sc_law_drawn.nd) (gs_cons (g_name 5 sc_law_drawn.nd) gs_nil))) (b_one (s_if (t_ge (q_v 0) (q_pow q_int q_int)) (b_cons (s_expr (q_app (q_v 2) (a_c (q_mod (q_v 3) (q_v 5)) a_nil)))
   (b_one (s_set 3 sc_law_drawn.nd (q_fdivP (q_v 3) (q_v 5))))) (b_cons (s_set 6 sc_law_drawn.nd (q_mod (q_add (q_add (q_add (q_mul (q_v 0) q_int) (q_mul (q_mulL (q_v 4) (q_v 4)) q_int)) (q_mul q_int (q_v 4))) q_int) q_int))
   (b_one (s_expr (q_app (q_v 2) (a_c (q_mod (q_fdiv (q_mod (q_add (q_mul (q_v 6) q_int) (q_mulL (q_fdiv (q_v 6) q_int) (q_add (q_v 4) q_int))) q_int) q_int) (q_v 5)) a_nil))))))))
   (b_one (s_ret (q_v 2)))))),?_⟩
 rw [show start ["_law_cell","_law_bases","_law_row","_law_rest","_law_k","_law_base","_law_one"] [.int c,.ref a]=[some (.int c),some (.ref a),none,none,none,none,none] from rfl]
 walk_at "rd"
 intro p H1 hp s1 e1
 simp only [tFor_enum]
 walk_at "rd"
 have hap:a ≠ p:=λz=>by rw [z,hp] at ha; cases ha
 refine enumK_of (xs:=bs.map V.int) (Pdr H c a p bs) ⟨_,_,_,_,[],rfl,s1,e1,rfl,λi x b h=>by simp at h⟩ (λi Z H' _ ⟨_,_,_,_,_,_,sm,_⟩=>.of (sm _ _ ha)) (λi y Z H2 pb H' hi hP hpb s3 e3=>?_) (λZ H' hP=>?_)
 ·obtain⟨r,o1,o2,o3,xs,rfl,sm,e2,hl,hx⟩:=hP
  replace sm:=sm.trans s3
  replace e2:=s3 _ _ e2
  rw [Yj] at hi
  obtain⟨b,hb',rfl⟩:∃ b,bs[i]?=some b/\y=V.int b:=by cases h:bs[i]? with | none=>rw [h] at hi; cases hi | some z=>rw [h] at hi; cases hi; exact⟨z,rfl,rfl⟩
  obtain⟨b0,b1⟩:=hb b (Yo hb')
  have hib:=(Yf.mp hb').1
  walk_at "rd"
  simp only [e3]
  walk_at "rd"
  have step:∀ (r v:Int) (o3:Option V),0<=v->v < b->Pdr H c a p bs (i + 1) [some (V.int c),some (V.ref a),some (V.ref p),some (V.int r),some (V.int (i:Int)),some (V.int b),o3] (upd H' p (.lst (xs.map V.int ++ [.int v]))):=λr v o3 v0 v1 =>
   ⟨r,_,_,_,xs ++ [v],rfl,same_upd hp sm,by rw [upd_same,List.map_append]; rfl,by simp [hl],λj x b' h1 h2=>by
    by_cases cj:j < xs.length
    ·rw [YC cj] at h1
     exact hx j x b' h1 h2
    ·have hj:j=i:=by have:=(List.getElem?_eq_some_iff.mp h1).1; simp at this; omega
     subst hj
     rw [YA (by omega),hl] at h1
     rw [hb'] at h2
     simp at h1 h2
     rw [<- h1,<- h2]
     exact⟨v0,v1⟩⟩
  have hlen:(xs.map V.int).length < 1000000:=by rw [Yg]; omega
  refine ite2 (λ_=>⟨⟨_,e2⟩,b0,_,e2,hlen,b0,log2_lt_of (pow_mono b1 (by decide)) (by decide),step _ _ _ (Vy _ (by omega)) (VX _ b0)⟩) (λ_=>⟨mulOk (a:=30) (b:=30) (by omega) (by omega) (by decide),⟨_,e2⟩,mulOk (a:=40) (b:=40) ?_ (by omega) (by decide),b0,_,e2,hlen,step _ _ _ (Vy _ (by omega)) (VX _ b0)⟩)
  generalize c * 48271 + (i:Int) * (i:Int) * 69621 + 7 * (i:Int) + 11=u
  omega
 ·obtain⟨r,o1,o2,o3,xs,rfl,sm,e2,hl,hx⟩:=hP
  walk_at "rd"
  exact q p H' xs hp sm e2 (by rw [Yg] at hl; exact hl) hx
def sp_priceG:Sp:=λvs H Q _=>∃ (v c:Int) (b:Bool),vs=[.int v,.int c,.bl b]/\0<=v/\v < 1000000000000000000000000000000/\0<=c/\c < 1000000000000000000000000000000/\∀ r H' q,Same H H'->SzQ 110 q->0<=q.num->RatV H' r q->Q r H'
def ok_priceG(F:Fun K "_law_price" "_law_price" s_law_price f fd)(F_law_low:Fn P w K mg base CX0 1 "_law_low" ["_law_top","_law_bottom"] sp_lowQ):FnOk P w K mg base CX0 2 f fd ["_law_one","_law_other","_law_wide"] sp_priceG:=by
 refine okR F sc_law_price λcdv A outer s H vs Q E hr h=>?_
 obtain⟨v,c,b,rfl,hv0,hv1,hc0,hc1,q⟩:=h
 refine⟨_,(b_cons (s_if (t_val (q_v 2)) (b_one (s_ret (qfn F_law_low hr (a_c (q_v 0) (a_c (q_add q_int (q_v 1)) a_nil))))) b_nil)
   (b_one (s_ret (qfn F_law_low hr (a_c (q_mod (q_v 0) q_int) (a_c (q_add q_int (q_mod (q_v 1) q_int)) a_nil)))))),?_⟩
 rw [show start ["_law_one","_law_other","_law_wide"] [.int v,.int c,.bl b]=[some (.int v),some (.int c),some (.bl b)] from rfl]
 walk_at "rd"
 simp only [sp_lowQ]
 walk_at "rd"
 have fin:∀ t d:Int,0<=t->t.natAbs < 2 ^ 110->0 < d->d.natAbs < 2 ^ 110->Big d/\0 < d/\∀ (r:V) (H':Hp),Same H H'->RatV H' r (Rat.divInt t d)->Q r H':=λt d h1 h2 h3 h4 =>
  ⟨Big.of h4 (by decide),h3,λr H' s v=>q r H' _ s (SzQ.of (by omega) h2 h4) (num_nonneg h1 h3) v⟩
 exact ite2 (λ_=>fin _ _ hv0 (by omega) (by omega) (by omega)) (λ_=>fin _ _ (by omega) (by omega) (by omega) (by omega))
def tsE(n t:Nat):List Int:=(List.range n).map λj=>(((j + t) % n:Nat):Int) + 1
def tsE_at{n t j:Nat}(h:j < n):(tsE n t)[j]?=some ((((j + t) % n:Nat):Int) + 1):=by
 unfold tsE
 rw [Yj,V7 h]
 rfl
def mod_two{n t j:Nat}(ht:t < n)(hj:j < n):(j + t) % n=if j + t < n then j + t else j + t - n:=by
 split
 ·rename_i h; exact Nat.mod_eq_of_lt h
 ·rename_i h
  rw [Nat.mod_eq_sub_mod (by omega),Nat.mod_eq_of_lt (by omega)]
def mod_inj{n t a b:Nat}(ht:t < n)(ha:a < n)(hb:b < n)(e:(a + t) % n=(b + t) % n):a=b:=by
 rw [mod_two ht ha,mod_two ht hb] at e
 split at e <;> split at e <;> omega
def tsE_perm{n t:Nat}(ht:t < n\/n=0):(tsE n t).Perm (intL 1 n):=by
 rcases ht with ht | rfl
 ·refine (List.perm_ext_iff_of_nodup ?_ ints_nodup).mpr λx=>?_
  ·unfold tsE
   refine List.Pairwise.map _ (R:=λa b=>a < n/\b < n/\a ≠ b) (λa b h=>?_) ?_
   ·obtain⟨ha,hb,hne⟩:=h
    intro e
    exact hne (mod_inj ht ha hb (Int.ofNat_inj.mp ((Int.add_left_inj 1).mp e)))
   ·exact List.pairwise_lt_range.imp_of_mem λha hb h=>⟨YL.mp ha,YL.mp hb,by omega⟩
  ·constructor
   ·intro h
    obtain⟨j,hj,rfl⟩:=Yk.mp h
    have h1:=Nat.mod_lt (j + t) (show n > 0 by omega)
    have:=mem_ints (lo:=1) (n:=n) h1
    rw [Int.add_comm] at this
    exact this
   ·intro h
    have:=ints_mem h
    obtain⟨k,rfl⟩:∃ k:Nat,x=(k:Int) + 1:=⟨(x - 1).toNat,by omega⟩
    refine Yk.mpr ⟨if t<=k then k - t else k + n - t,YL.mpr (by split <;> omega),?_⟩
    have hj:(if t<=k then k - t else k + n - t) < n:=by split <;> omega
    rw [mod_two ht hj]
    split <;> split <;> omega
 ·exact .refl _
def mod_nat(x:Int)(i:Nat):∃ k:Nat,x % (1 + (i:Int))=(k:Int)/\k<=i:=by
 have h:(0:Int) < 1 + (i:Int):=by omega
 have a0:=Vy x (Int.ne_of_gt h)
 have a1:=VX x h
 exact⟨(x % (1 + (i:Int))).toNat,(V9 a0).symm,by omega⟩
def far_to{n t k i:Nat}(k0:0 < k)(k1:k<=i)(hi:i < n):∃ to:Nat,1 + ((k:Int) - 1 + (t:Int)) % (n:Int)=(to:Int)/\(to=0\/∃ j',j' < i/\(tsE n t)[j']?=some (to:Int)):=by
 rw [show (k:Int) - 1 + (t:Int)=((k - 1 + t:Nat):Int) by omega,<- Int.natCast_emod]
 refine⟨(k - 1 + t) % n + 1,by omega,.inr ⟨k - 1,by omega,?_⟩⟩
 rw [tsE_at (by omega)]
 congr 1
def road_updD{r:Nat × Rat}{l:Addr}{ys:List (Key × V)}{o:HO}(h:RoadV H x r)(hl:H l=some (.dK ys)):RoadV (upd H l o) x r:=by
 refine h.keep λb zs hb=>?_
 rw [upd_ne (λz=>by rw [z,hl] at hb; cases hb)]
 exact hb
def LaidD(H:Hp)(n t:Nat)(kvs:List (Key × V))(j:Nat):Prop:=∃ (x:V) (r:Nat × Rat),valV kvs (Sum.inl ((((j + t) % n:Nat):Int) + 1))=some x/\RoadV H x r/\SzQ 110 r.2/\0<=r.2.num/\(r.1=0\/∃ j',j' < j/\(tsE n t)[j']?=some (r.1:Int))
def sp_roadsG(K:PySem.W.Frag):Sp:=λvs H Q _=>∃ (a:Addr) (ns:List Int) (m:Int),vs=[.ref a,.int m]/\SqL K H a (ns.map V.int)/\0<=m/\m < 20/\∀ p H' xs rs,H p=none->Same H H'->H' p=some (.lst xs)->RoadsV H' xs rs->TreeOk rs->rs.length<=20->(∀ r∈rs,SzQ 110 r.2/\0<=r.2.num)->Q (.ref p) H'
def PrG(H0:Hp)(a ph pr acc:Addr)(m bb:Int)(n t:Nat)(xs hs:List Int)(i:Nat)(Z:St)(H:Hp):Prop:=∃ (o1 o2 o3 o4:Option V) (kvs:List (Key × V)),Z=[some (.ref a),some (.int m),some (.ref ph),some (.int (n:Int)),some (.int bb),some (.ref pr),some (.ref acc),o1,o2,o3,o4] /\
 Same H0 H/\H ph=some (.lst (hs.map V.int))/\H pr=some (.lst (xs.map V.int))/\H acc=some (.dK kvs)/\kvs.length<=i/\∀ j,j < i->LaidD H n t kvs j
def ok_roadsG(F:Fun K "_law_roads" "_law_roads" s_law_roads f fd)(n_range:mg "range"=none)(n_min:mg "min"=none)(n_int:mg "int"=none)(F_law_cell_at:Fn P w K mg base CX0 1 "_law_cell_at" ["_law_script","_law_k"] (sp_cell K))
  (F_law_drawn:Fn P w K mg base CX0 1 "_law_drawn" ["_law_cell","_law_bases"] sp_drawn) (F_law_price:Fn P w K mg base CX0 2 "_law_price" ["_law_one","_law_other","_law_wide"] sp_priceG):FnOk P w K mg base CX0 3 f fd ["_law_script","_law_most"] (sp_roadsG K):=by
 refine okR F sc_law_roads λcdv A outer s H vs Q E hr h=>?_
 obtain⟨a,ns,m,rfl,hS,hm0,hm1,q⟩:=h
 obtain⟨t1,ht1,hr1⟩:∃ t,QB (cxOf CX0 P w K mg base ["_law_script","_law_most","_law_head","_law_many","_law_base","_law_row","_law_roads_here","_law_k","_law_to","_law_place","_law_ahead"] "_law_roads" (defScope s_law_roads) f cdv A outer s H E).nox ((defBody s_law_roads).drop 4) t/\∀ (n:Nat) (hs:List Int) (ph:Addr) (H1:Hp),n < 20->H ph=none->Same H H1->H1 ph=some (.lst (hs.map V.int))->hs.length=4->(∀ x∈hs,0<=x) ->
   t { nx:=λ_ H'=>Q .non H',rt:=Q } [some (.ref a),some (.int m),some (.ref ph),some (.int (n:Int)),none,none,none,none,none,none,none] H1:=by
  refine⟨_,(b_cons (s_set 4 sc_law_roads.nd (q_ixL (q_lst (a_c q_int (a_c (q_sub (q_pow q_int q_int) q_int) a_nil))) (q_int1 rfl n_int (a_c (q_eq (q_ixL (q_v 2) q_int) q_int) a_nil))))
   (b_cons (s_set 5 sc_law_roads.nd (qfn F_law_drawn hr (a_c (qfn F_law_cell_at hr (a_c (q_v 0) (a_c q_int a_nil))) (a_c (q_rep (q_lst (a_c (q_v 4) (a_c (q_v 4) (a_c q_int a_nil)))) (q_v 3)) a_nil))))
   (b_cons (s_set 6 sc_law_roads.nd q_dnew)
   (b_cons (s_for Ys (i_rng1 rfl n_range (a_c (q_v 3) a_nil)) (g_name 7 sc_law_roads.nd) (b_cons (s_set 8 sc_law_roads.nd (q_mod (q_ixL (q_v 5) (q_add (q_mul q_int (q_v 7)) q_int)) (q_add (q_v 7) q_int)))
   (b_cons (s_set 9 sc_law_roads.nd (q_add q_int (q_mod (q_add (q_v 7) (q_ixL (q_v 2) q_int)) (q_v 3))))
   (b_cons (s_set 10 sc_law_roads.nd q_int)
   (b_cons (s_if (t_gt (q_v 8) q_int) (b_one (s_set 10 sc_law_roads.nd (q_add q_int (q_mod (q_add (q_sub (q_v 8) q_int) (q_ixL (q_v 2) q_int)) (q_v 3))))) b_nil)
   (b_one (s_dput (hu_of hr) (q_v 6) (q_v 9) (q_tup (a_c (q_v 10) (a_c (qfn F_law_price hr (a_c (q_ixL (q_v 5) (q_mul q_int (q_v 7))) (a_c (q_ixL (q_v 5) (q_add (q_mul q_int (q_v 7)) q_int)) (a_c (q_eq (q_ixL (q_v 2) q_int) q_int) a_nil)))) a_nil))))))))))
   (b_one (s_ret (q_comp (blkC ["_law_k"] [6] ["_law_roads_here"]) (i_rng2 rfl n_range (a_c q_int (a_c (q_add (q_v 3) q_int) a_nil))) (by exact λs H fp=>(g_name 0 (show List.Nodup (["_law_k","_law_roads_here"]:List Str) from by decide +kernel))) (by exact λs H fp=>(q_dget (hu_of hr) (q_v 1) (q_v 0)))))))))),λn hs ph H1 hn hph s1 e1 hhl hh0=>?_⟩
  walk_at "rd"
  simp only [sp_cell,sp_drawn]
  walk_at "rd"
  intro p2 H2 hp2 s2 e2
  have at_:∀ {l:List Int}{j:Nat}(h:j < l.length),atI (l.map V.int) (j:Int)=some (.int l[j]):=λ{l j} h=>atI_nat (by rw [Yj,Yb h]; rfl)
  obtain⟨bb,hbb0,hbb1,hbe⟩:∃ bb:Int,0 < bb/\bb < 1000000000000000000000000000000/\atI [V.int 78,V.int 999999999999999999999999999999] (if V.int hs[1]=V.int 3 then 1 else 0)=some (.int bb):=by
   split
   ·exact⟨_,by decide,by decide,rfl⟩
   ·exact⟨_,by decide,by decide,rfl⟩
  refine⟨_,s2 _ _ e1,_,at_ (j:=1) (by omega),rfl,_,e2,.int bb,hbe,⟨1,rfl⟩,⟨ns,(s1.trans s2).seq hS⟩,λc p3 H3 hp3 s3 e3=>⟨_,e3,by omega,by omega,?_,λp4 hp4=>?_⟩⟩
  ·exact Yi (show 3 * (n:Int).toNat<=60 by omega) (by decide)
  have er:(List.replicate (n:Int).toNat [V.int bb,V.int bb,V.int 840]).flatten=((List.replicate n [bb,bb,840]).flatten).map V.int:=by
   rw [Y9,List.map_flatten,List.map_replicate]; rfl
  have hrl:((List.replicate n [bb,bb,840]).flatten).length=3 * n:=by rw [len_rep]; simp; omega
  have hrm:∀ b∈(List.replicate n [bb,bb,840]).flatten,0 < b/\b < 1000000000000000000000000000000:=λb hb=>by
   obtain⟨l,hl,hb⟩:=List.mem_flatten.mp hb
   rw [(List.mem_replicate.mp hl).2] at hb
   simp at hb
   omega
  rw [er]
  refine⟨_,upd_same,by omega,λb hb=>⟨(hrm b hb).1,by have:=hrm b hb; omega⟩,λpr H5 xs hpr s5 e5 hxl hxb acc H6 hacc s6 e6=>?_⟩
  rw [hrl] at hxl
  have hxx:∀ x∈xs,0<=x/\x < 1000000000000000000000000000000:=λx hx=>by
   obtain⟨i,hi,e⟩:=V6 hx
   have h2:i < ((List.replicate n [bb,bb,840]).flatten).length:=by omega
   have:=hxb i x _ (by rw [Yb hi,e]) (Yb h2)
   have:=hrm _ (Y2 h2)
   omega
  clear hxb hrm hrl er hbe
  have s4:=λo=>same_upd (o:=o) hp4 (λ_ _ z=>z:Same H3 H3)
  have s36:=(s1.trans s2).trans (s3.trans ((s4 _).trans (s5.trans s6)))
  have e16:H6 ph=some (.lst (hs.map V.int)):=(s2.trans (s3.trans ((s4 _).trans (s5.trans s6)))) _ _ e1
  have s36f:H acc=none:=((s1.trans s2).trans (s3.trans ((s4 _).trans s5))).free hacc
  have hne1:ph ≠ acc:=ne_of_none ((s2.trans (s3.trans ((s4 _).trans s5))) _ _ e1) hacc
  have hne2:pr ≠ acc:=ne_of_none e5 hacc
  simp only [tFor_rng1]
  walk_at "rd"
  refine⟨by omega,by omega,?_⟩
  have h30:0<=hs[3]:=hh0 _ (Y2 (by omega))
  obtain⟨t0,et0⟩:∃ t0:Nat,hs[3]=(t0:Int):=⟨hs[3].toNat,by omega⟩
  refine rngK_of (PrG H a ph pr acc m bb n (t0 % n) xs hs) ⟨_,_,_,_,[],rfl,s36,e16,s6 _ _ e5,e6,Yd _,λj hj=>absurd hj (VL j)⟩ (λi Z H7 hi hP=>?_) (λZ H7 hP=>?_)
  ·obtain⟨o1,o2,o3,o4,kvs,rfl,sm7,eh,en,ea,hkl,hdone⟩:=hP
   have hi':i < n:=by omega
   refine seq_go λB hB=>?_
   walk_at "rd"
   have hn0:0 < n:=by omega
   have hnz:(0:Int) < (n:Int):=by omega
   obtain⟨k0,ek0,hk0⟩:=mod_nat xs[3 * i + 2] i
   have htn:t0 % n < n:=Nat.mod_lt _ hn0
   have epl:(1:Int) + ((i:Int) + hs[3]) % (n:Int)=(((i + t0 % n) % n:Nat):Int) + 1:=by
    rw [et0,<- Int.natCast_add,<- Int.natCast_emod,Nat.add_mod_mod,Int.add_comm]
   rw [show (3:Int) * (i:Int) + 2=((3 * i + 2:Nat):Int) by omega]
   refine⟨_,en,_,at_ (by omega),_,rfl,by omega,?_⟩
   rw [Int.add_comm (i:Int) 1,ek0]
   subst hB
   try dsimp only
   refine seq_go λB hB=>?_
   walk_at "rd"
   refine⟨_,eh,_,at_ (j:=3) (by omega),_,rfl,hnz,?_⟩
   rw [epl]
   subst hB
   try dsimp only
   refine seq_go λB hB=>?_
   walk_at "rd"
   subst hB
   try dsimp only
   refine seq_go λB hB=>?_
   have k3:∀ (to:Nat) (TO:Int),TO=(to:Int)->(to=0\/∃ j',j' < i/\(tsE n (t0 % n))[j']?=some (to:Int))->B [some (V.ref a),some (V.int m),some (V.ref ph),some (V.int (n:Int)),some (V.int bb),some (V.ref pr),some (V.ref acc),some (V.int (i:Int)),some (V.int (k0:Int)),some (V.int ((((i + t0 % n) % n:Nat):Int) + 1)),some (V.int TO)] H7:=by
    rintro to _ rfl hto
    subst hB
    try dsimp only
    walk_at "rd"
    simp only [sp_priceG]
    walk_at "rd"
    have hx0:=hxx _ (Y2 (show 3 * i < xs.length by omega))
    have hx1:=hxx _ (Y2 (show 3 * i + 1 < xs.length by omega))
    rw [show (3:Int) * (i:Int)=((3 * i:Nat):Int) by omega,show ((3 * i:Nat):Int) + 1=((3 * i + 1:Nat):Int) by omega]
    refine⟨_,en,_,at_ (by omega),_,en,_,at_ (by omega),_,eh,_,at_ (j:=1) (by omega),rfl,_,rfl,_,rfl,hx0.1,hx0.2,hx1.1,hx1.2,λr H8 qr s8 zq hqn vr p9 H9 hp9 s9 e9=>?_⟩
    have S:=s8.trans s9
    refine⟨kvs,S _ _ ea,.inl _,rfl,by omega,_,_,_,_,_,rfl,same_upd s36f (sm7.trans S),by rw [upd_ne hne1]; exact S _ _ eh,by rw [upd_ne hne2]; exact S _ _ en,upd_same,Yi (length_putK _ _ _) (by omega),λj hj=>?_⟩
    by_cases hji:j=i
    ·subst hji
     exact⟨.ref p9,(to,qr),by rw [valV_put,if_pos rfl],road_updD (r:=(to,qr)) ⟨p9,r,rfl,e9,vr.same s9⟩ (S _ _ ea),zq,hqn,hto⟩
    ·obtain⟨x,r',g1,g2,g3,g4,g5⟩:=hdone j (by omega)
     refine⟨x,r',?_,road_updD (g2.same S) (S _ _ ea),g3,g4,g5⟩
     rw [valV_put,if_neg]
     ·exact g1
     ·intro e
      injection e with e
      exact hji (mod_inj htn (by omega) hi' (by omega))
   walk_at "rd"
   refine ite2 (λc1=>?_) (λc1=>k3 0 _ rfl (.inl rfl))
   refine⟨_,eh,_,at_ (j:=3) (by omega),_,rfl,hnz,?_⟩
   obtain⟨to,e,h⟩:=far_to (n:=n) (t:=t0 % n) (k:=k0) (i:=i) (Int.ofNat_lt.mp c1) hk0 hi'
   refine k3 to _ ?_ h
   rw [<- e,et0,Int.natCast_emod,Int.add_emod_emod]
  ·obtain⟨o1,o2,o3,o4,kvs,rfl,sm7,eh,en,ea,hkl,hdone⟩:=hP
   walk_at "rd"
   simp only [tComp,iRng2,cxK]
   walk_at "rd"
   refine⟨by omega,by omega,?_⟩
   rw [show capOf [some (V.ref a),some (V.int m),some (V.ref ph),some (V.int (n:Int)),some (V.int bb),some (V.ref pr),some (V.ref acc),o1,o2,o3,o4] [6]=[some (V.ref acc)] from rfl,show ((n:Int) + 1 - 1).toNat=n by omega]
   have hlaid:∀ k,k < n->∃ j,j < n/\(j + t0 % n) % n=k:=λk hk=>by
    have htn:t0 % n < n:=Nat.mod_lt _ (by omega)
    have h1:((k:Int) + 1)∈intL 1 n:=by have:=mem_ints (lo:=1) hk; rw [Int.add_comm] at this; exact this
    have h2:=(tsE_perm (n:=n) (t:=t0 % n) (.inl htn)).mem_iff.mpr h1
    obtain⟨j,hj,e⟩:=Yk.mp h2
    exact⟨j,YL.mp hj,by omega⟩
   refine blk_rng (λac2 i ys H'=>Same H7 H'/\H' ac2=some (.lst ys)/\ys.length=i/\i<=20/\∀ (k:Nat) x,ys[k]?=some x->valV kvs (Sum.inl ((k:Int) + 1))=some x) (λac2 H2 hn sm e=>⟨sm,e,rfl,by omega,λk x h=>by simp at h⟩)
    (λac2 i ys H2 h=>⟨h.2.1,by omega⟩) (λac2 i ys H2 os hn2 hi h ol=>?_) (λac2 ys H2 hn2 h=>?_)
   ·obtain⟨sm,e,hy,_,hyy⟩:=h
    obtain⟨o,rfl⟩:∃ o,os=[o]:=List.length_eq_one_iff.mp ol
    obtain⟨j,hj,ej⟩:=hlaid i hi
    obtain⟨x,r,hx,_⟩:=hdone j hj
    walk_at "rd"
    rw [ej] at hx
    refine⟨[_],rfl,rfl,kvs,.inl (sm _ _ ea),.inl (1 + (i:Int)),rfl,x,by rw [Int.add_comm]; exact hx,e,same_upd hn2 sm,upd_same,by simp [hy],by omega,λk y hk=>?_⟩
    by_cases c:k < ys.length
    ·rw [YC c] at hk
     exact hyy k y hk
    ·have hk':k=i:=by have:=(List.getElem?_eq_some_iff.mp hk).1; simp at this; omega
     subst hk'
     rw [YA (by omega),hy] at hk
     simp at hk
     rw [<- hk]
     exact hx
   ·obtain⟨sm,e,hy,_,hyy⟩:=h
    walk_at "rd"
    obtain⟨rs,hR,hT,hlen,hz⟩:=roads_of (H:=H2) (n:=n) (ys:=ys) (tsE_perm (t:=t0 % n) (if hn0:n=0 then .inr hn0 else .inl (Nat.mod_lt _ (by omega)))) hy λj hj=>by
     obtain⟨x,r,h1,h2,h3,h4,h5⟩:=hdone j hj
     have hk:(j + t0 % n) % n < ys.length:=by rw [hy]; exact Nat.mod_lt _ (by omega)
     have h6:=hyy _ _ (Yb hk)
     rw [h1] at h6
     exact⟨(j + t0 % n) % n,x,r,tsE_at hj,by rw [Yb hk]; exact h6.symm,h2.same sm,h3,h4,h5⟩
    exact q ac2 H2 ys rs (sm7.free hn2) (sm7.trans sm) e hR hT (by omega) hz
 refine⟨_,(b_cons (s_set 2 sc_law_roads.nd (qfn F_law_drawn hr (a_c (qfn F_law_cell_at hr (a_c (q_v 0) (a_c q_int a_nil))) (a_c (q_lst (a_c (q_add (q_v 1) q_int) (a_c q_int (a_c q_int (a_c q_int a_nil))))) a_nil))))
   (b_cons (s_set 3 sc_law_roads.nd (q_ixL (q_v 2) q_int))
   (b_cons (s_if (t_eq (q_ixL (q_v 2) q_int) q_int) (b_one (s_set 3 sc_law_roads.nd (q_ixL (q_v 2) q_int))) b_nil)
   (b_cons (s_if (t_eq (q_ixL (q_v 2) q_int) q_int) (b_one (s_set 3 sc_law_roads.nd (q_min rfl n_min (a_c (q_v 3) (a_c q_int a_nil))))) b_nil)
   ht1)))),?_⟩
 rw [show start ["_law_script","_law_most","_law_head","_law_many","_law_base","_law_row","_law_roads_here","_law_k","_law_to","_law_place","_law_ahead"] [.ref a,.int m]=[some (.ref a),some (.int m),none,none,none,none,none,none,none,none,none] from rfl]
 walk_at "rd"
 simp only [sp_cell,sp_drawn]
 walk_at "rd"
 refine⟨⟨0,rfl⟩,⟨ns,hS⟩,λc p2 H2 hp2 s2 e2=>⟨[m + 1,6,20,40],e2,by simp,λb hb=>?_,λph H3 hs hph s3 e3 hhl hhb=>?_⟩⟩
 ·simp at hb
  omega
 have hhl:hs.length=4:=hhl
 have at_:∀ {l:List Int}{j:Nat}(h:j < l.length),atI (l.map V.int) (j:Int)=some (.int l[j]):=λ{l j} h=>atI_nat (by rw [Yj,Yb h]; rfl)
 have hb0:=hhb 0 hs[0] _ (Yb (by omega)) rfl
 have hb2:=hhb 2 hs[2] _ (Yb (by omega)) rfl
 have hh0:∀ x∈hs,0<=x:=λx hx=>by
  obtain⟨i,hi,e⟩:=V6 hx
  have h4:i < ([m + 1,6,20,40]:List Int).length:=by simp; omega
  exact (hhb i x _ (by rw [Yb hi,e]) (Yb h4)).1
 have a0:=at_ (l:=hs) (j:=0) (by omega)
 have a1:=at_ (l:=hs) (j:=1) (by omega)
 have a2:=at_ (l:=hs) (j:=2) (by omega)
 have fin:∀ n:Nat,n < 20->t1 { nx:=λ_ H'=>Q .non H',rt:=Q } [some (.ref a),some (.int m),some (.ref ph),some (.int (n:Int)),none,none,none,none,none,none,none] H3:=λn hn=>hr1 n hs ph H3 hn (s2.free hph) (s2.trans s3) e3 hhl hh0
 have mn:∀ x:Int,0<=x->x < 20->t1 { nx:=λ_ H'=>Q .non H',rt:=Q } [some (.ref a),some (.int m),some (.ref ph),some (.int x),none,none,none,none,none,none,none] H3:=λx h0 h1=>by
  have:=fin x.toNat (by omega)
  rw [V9 h0] at this
  exact this
 refine⟨_,e3,_,a0,_,e3,_,a1,rfl,?_⟩
 refine ite2 (λ_=>⟨_,e3,_,a2,_,e3,_,a1,rfl,ite2 (λ_=>⟨_,rfl,mn _ ?_ ?_⟩) (λ_=>mn _ hb2.1 hb2.2)⟩) (λ_=>⟨_,e3,_,a1,rfl,ite2 (λ_=>⟨_,rfl,mn _ ?_ ?_⟩) (λ_=>mn _ hb0.1 (by omega))⟩)
 all_goals (split <;> omega)
def sp_namesG:Sp:=λvs H Q _=>∃ c m:Int,vs=[.int c,.int m]/\0<=m/\m < 100/\∀ p H' (ss:List Str),H p=none->Same H H'->H' p=some (.lst (ss.map V.str))->(ss.length:Int)=m->Q (.ref p) H'
def Png1(H0:Hp)(c m sz sp:Int)(pr p:Addr)(xs:List Int)(i:Nat)(Z:St)(H:Hp):Prop:=∃ (o1 o2 o3:Option V) (ss:List Str),Z=[some (.int c),some (.int m),some (.str (Str.ofString "abcdefghijklmnopqrstuvwxyz")),some (.ref pr),some (.int sz),some (.int sp),some (.ref p),o1,o2,o3]/\Same H0 H/\H pr=some (.lst (xs.map V.int))/\H p=some (.lst (ss.map V.str))/\ss.length=i
def Png2(H0:Hp)(c m sz sp:Int)(k:Nat)(pr p:Addr)(i:Nat)(Z:St)(H:Hp):Prop:=∃ (z:Str) (o3:Option V),Z=[some (.int c),some (.int m),some (.str (Str.ofString "abcdefghijklmnopqrstuvwxyz")),some (.ref pr),some (.int sz),some (.int sp),some (.ref p),some (.int (k:Int)),some (.str z),o3]/\H=H0/\z.length=i
def abc_len:(Str.ofString "abcdefghijklmnopqrstuvwxyz").length=26:=by decide +kernel
def abc_at{i:Int}(h0:0<=i)(h1:i < 26):∃ c,atI (Str.ofString "abcdefghijklmnopqrstuvwxyz").cps.toList i=some c:=by
 obtain⟨k,rfl⟩:∃ k:Nat,i=(k:Int):=⟨i.toNat,by omega⟩
 have hl:(Str.ofString "abcdefghijklmnopqrstuvwxyz").cps.toList.length=26:=by decide +kernel
 have hk:k < (Str.ofString "abcdefghijklmnopqrstuvwxyz").cps.toList.length:=by omega
 exact⟨_,atI_nat (Yb hk)⟩
def ok_namesG(F:Fun K "_law_names" "_law_names" s_law_names f fd)(n_range:mg "range"=none)(n_int:mg "int"=none)(F_law_drawn:Fn P w K mg base CX0 1 "_law_drawn" ["_law_cell","_law_bases"] sp_drawn):FnOk P w K mg base CX0 2 f fd ["_law_cell","_law_many"] sp_namesG:=by
 refine okR F sc_law_names λcdv A outer s H vs Q E hr h=>?_
 obtain⟨c,m,rfl,hm0,hm1,q⟩:=h
 refine⟨_,(b_cons (s_set 2 sc_law_names.nd q_str)
   (b_cons (s_set 3 sc_law_names.nd (qfn F_law_drawn hr (a_c (q_v 0) (a_c (q_lst (a_c q_int (a_c q_int (a_c q_int (a_c q_int (a_c q_int (a_c q_int (a_c q_int (a_c q_int (a_c q_int (a_c q_int (a_c q_int a_nil)))))))))))) a_nil))))
   (b_cons (s_set 4 sc_law_names.nd (q_add q_int (q_ixL (q_v 3) q_int)))
   (b_cons (s_set 5 sc_law_names.nd (q_mod (q_ixL (q_v 3) q_int) (q_v 4)))
   (b_cons (s_set 6 sc_law_names.nd (q_lst a_nil))
   (b_cons (s_for Ys (i_rng1 rfl n_range (a_c (q_v 1) a_nil)) (g_name 7 sc_law_names.nd) (b_cons (s_set 8 sc_law_names.nd q_str)
   (b_cons (s_for Ys (i_rng1 rfl n_range (a_c (q_v 4) a_nil)) (g_name 9 sc_law_names.nd) (b_one (s_set 8 sc_law_names.nd (q_addS (q_v 8) (q_ixX (q_v 2) (q_mod (q_add (q_ixL (q_v 3) (q_add q_int (q_v 9))) (q_mulL (q_v 7) (q_int1 rfl n_int (a_c (q_eq (q_v 9) (q_v 5)) a_nil)))) q_int))))))
   (b_one (s_expr (q_app (q_v 6) (a_c (q_v 8) a_nil)))))))
   (b_one (s_ret (q_v 6))))))))),?_⟩
 rw [show start ["_law_cell","_law_many","_law_letters","_law_row","_law_size","_law_spot","_law_names_here","_law_k","_law_word","_law_j"] [.int c,.int m]=[some (.int c),some (.int m),none,none,none,none,none,none,none,none] from rfl]
 walk_at "rd"
 simp only [sp_drawn,tFor_rng1]
 walk_at "rd"
 intro p1 H1 hp1 s1 e1
 have at_:∀ {l:List Int}{j:Nat}(h:j < l.length),atI (l.map V.int) (j:Int)=some (.int l[j]):=λ{l j} h=>atI_nat (by rw [Yj,Yb h]; rfl)
 refine⟨[8,8,26,26,26,26,26,26,26,26,26],e1,by decide,λb hb=>?_,λpr H2 xs hpr s2 e2 hxl hxb=>?_⟩
 ·simp at hb
  omega
 have hxl:xs.length=11:=hxl
 have hb0:=hxb 0 xs[0] _ (Yb (by omega)) rfl
 refine⟨_,e2,_,at_ (j:=0) (by omega),_,rfl,_,e2,_,at_ (j:=1) (by omega),_,rfl,by omega,λp H3 hp s3 e3=>⟨by omega,by omega,?_⟩⟩
 have hp':H p=none:=(s1.trans s2).free hp
 have hpp:pr ≠ p:=ne_of_none e2 hp
 refine rngK_of (Png1 H c m (1 + xs[0]) (xs[1] % (1 + xs[0])) pr p xs) ⟨_,_,_,[],rfl,s1.trans (s2.trans s3),s3 _ _ e2,e3,rfl⟩ (λi Z H4 hi hP=>?_) (λZ H4 hP=>?_)
 ·obtain⟨o1,o2,o3,ss,rfl,sm,er,ep,hl⟩:=hP
  walk_at "rd"
  simp only [tFor_rng1]
  walk_at "rd"
  refine⟨by omega,by omega,?_⟩
  refine rngK_of (Png2 H4 c m (1 + xs[0]) (xs[1] % (1 + xs[0])) i pr p) ⟨Str.ofString "",_,rfl,rfl,by decide +kernel⟩ (λj Z H5 hj hP=>?_) (λZ H5 hP=>?_)
  ·obtain⟨z,o3,rfl,rfl,hz⟩:=hP
   have hj8:j < 8:=by omega
   walk_at "rd"
   rw [show (2:Int) + (j:Int)=((2 + j:Nat):Int) by omega]
   obtain⟨ch,hch⟩:=abc_at (i:=(xs[2 + j] + (i:Int) * if (j:Int)=xs[1] % (1 + xs[0]) then 1 else 0) % 26) (by omega) (by omega)
   refine⟨_,er,_,at_ (by omega),mulOk (a:=30) (b:=2) (by omega) (by split <;> decide) (by decide),_,rfl,by rw [abc_len]; decide,ch,hch,?_,_,_,rfl,rfl,?_⟩
   ·show z.length + 1<=sizeLine
    exact Yi (show z.length + 1<=1000 by omega) (by decide)
   ·show (z.cps ++ #[ch]).size=j + 1
    rw [Array.size_append]
    show z.length + 1=j + 1
    omega
  ·obtain⟨z,o3,rfl,rfl,hz⟩:=hP
   walk_at "rd"
   exact⟨⟨_,ep⟩,_,ep,by rw [List.length_map]; omega,_,_,_,ss ++ [z],rfl,same_upd hp' sm,by rw [upd_ne hpp]; exact er,by rw [upd_same,List.map_append]; rfl,by simp [hl]⟩
 ·obtain⟨o1,o2,o3,ss,rfl,sm,er,ep,hl⟩:=hP
  walk_at "rd"
  exact q p H4 ss hp' sm ep (by omega)
def sp_homesG(K:PySem.W.Frag):Sp:=λvs H Q _=>∃ (a pr:Addr) (ns:List Int) (xs:List V) (most:Int),vs=[.ref a,.ref pr,.int most]/\SqL K H a (ns.map V.int)/\H pr=some (.lst xs)/\xs.length<=40/\0<=most/\most < 90 /\
 ∀ p H' kvs o,H p=none->Same H H'->H' p=some (.frz o (.dK kvs))->HomesV kvs xs.length->(kvs.map (·.1)).Nodup->(kvs.length:Int)<=most->Q (.ref p) H'
def PhG(H0:Hp)(a pr pq pn p:Addr)(n:Nat)(most:Int)(ss:List Str)(nums:List Int)(i:Nat)(Z:St)(H:Hp):Prop:=∃ (o1:Option V) (kvs:List (Key × V)),Z=[some (.ref a),some (.ref pr),some (.int most),some (.ref pq),some (.ref pn),some (.ref p),o1]/\Same H0 H/\H p=some (.dK kvs)/\HomesV kvs n/\(kvs.map (·.1)).Nodup/\kvs.length<=i /\
 H pn=some (.lst (ss.map V.str))/\H pq=some (.lst (nums.map V.int))
def ok_homesG(F:Fun K "_law_homes" "_law_homes" s_law_homes f fd)(n_range:mg "range"=none)(n_len:mg "len"=none)(F_law_cell_at:Fn P w K mg base CX0 1 "_law_cell_at" ["_law_script","_law_k"] (sp_cell K))
  (F_law_drawn:Fn P w K mg base CX0 1 "_law_drawn" ["_law_cell","_law_bases"] sp_drawn) (F_law_names:Fn P w K mg base CX0 2 "_law_names" ["_law_cell","_law_many"] sp_namesG):FnOk P w K mg base CX0 3 f fd ["_law_script","_law_roads_here","_law_most"] (sp_homesG K):=by
 refine okR F sc_law_homes λcdv A outer s H vs Q E hr h=>?_
 obtain⟨a,pr,ns,xs,most,rfl,hS,hpr,hxl,hm0,hm1,q⟩:=h
 refine⟨_,(b_cons (s_set 3 sc_law_homes.nd (qfn F_law_drawn hr (a_c (qfn F_law_cell_at hr (a_c (q_v 0) (a_c q_int a_nil))) (a_c (q_cat (q_lst (a_c (q_add (q_v 2) q_int) a_nil)) (q_rep (q_lst (a_c (q_add (q_len rfl n_len (a_c (q_v 1) a_nil)) q_int) a_nil)) (q_v 2))) a_nil))))
   (b_cons (s_set 4 sc_law_homes.nd (qfn F_law_names hr (a_c (qfn F_law_cell_at hr (a_c (q_v 0) (a_c q_int a_nil))) (a_c (q_ixL (q_v 3) q_int) a_nil))))
   (b_cons (s_set 5 sc_law_homes.nd q_dnew)
   (b_cons (s_for Ys (i_rng1 rfl n_range (a_c (q_ixL (q_v 3) q_int) a_nil)) (g_name 6 sc_law_homes.nd) (b_one (s_dput (hu_of hr) (q_v 5) (q_ixL (q_v 4) (q_v 6)) (q_ixL (q_v 3) (q_add q_int (q_v 6))))))
   (b_frz 5 (b_one (s_ret (q_v 5)))))))),?_⟩
 rw [show start ["_law_script","_law_roads_here","_law_most","_law_row","_law_names_here","_law_homes_here","_law_k"] [.ref a,.ref pr,.int most]=[some (.ref a),some (.ref pr),some (.int most),none,none,none,none] from rfl]
 walk_at "rd"
 simp only [sp_cell,sp_drawn,sp_namesG,tFor_rng1]
 walk_at "rd"
 have at_:∀ {l:List Int}{j:Nat}(h:j < l.length),atI (l.map V.int) (j:Int)=some (.int l[j]):=λ{l j} h=>atI_nat (by rw [Yj,Yb h]; rfl)
 refine⟨⟨2,rfl⟩,⟨ns,hS⟩,λc p1 H1 hp1 s1 e1=>⟨xs,.inl (s1 _ _ hpr),λp2 H2 hp2 s2 e2=>⟨_,e2,by omega,by omega,?_,λp3 hp3=>?_⟩⟩⟩
 ·exact Yi (show 1 * most.toNat<=100 by omega) (by decide)
 have hne:p1 ≠ p3:=ne_of_none (s2 _ _ e1) hp3
 have er:[V.int (most + 1)] ++ (List.replicate most.toNat [V.int ((xs.length:Int) + 1)]).flatten=([most + 1] ++ (List.replicate most.toNat [(xs.length:Int) + 1]).flatten).map V.int:=by
  rw [YN,List.map_flatten,List.map_replicate]; rfl
 have hrl:([most + 1] ++ (List.replicate most.toNat [(xs.length:Int) + 1]).flatten).length=most.toNat + 1:=by rw [List.length_append,len_rep]; simp; omega
 have hrm:∀ b∈[most + 1] ++ (List.replicate most.toNat [(xs.length:Int) + 1]).flatten,0 < b/\b < 1000:=λb hb=>by
  rcases Yp.mp hb with hb | hb
  ·simp at hb
   omega
  ·obtain⟨l,hl,hb⟩:=List.mem_flatten.mp hb
   rw [(List.mem_replicate.mp hl).2] at hb
   simp at hb
   omega
 refine⟨_,by rw [upd_ne hne]; exact s2 _ _ e1,_,upd_same,?_,λp4 hp4=>?_⟩
 ·rw [len_rep]
  exact Yi (show 1 + most.toNat * 1<=100 by omega) (by decide)
 rw [er]
 have s3:Same H2 (upd H2 p3 (.lst (List.replicate most.toNat [V.int ((xs.length:Int) + 1)]).flatten)):=same_upd hp3 (λ_ _ z=>z)
 have s4:=λo=>same_upd (o:=o) hp4 (λ_ _ z=>z:Same (upd H2 p3 (.lst (List.replicate most.toNat [V.int ((xs.length:Int) + 1)]).flatten)) _)
 refine⟨_,upd_same,by omega,λb hb=>⟨(hrm b hb).1,by have:=hrm b hb; omega⟩,λpq H5 nums hpq s5 e5 hnl hnb=>?_⟩
 have S5:=(s1.trans s2).trans (s3.trans ((s4 _).trans s5))
 rw [hrl] at hnl
 have h0:=hnb 0 nums[0] _ (Yb (by omega)) rfl
 have hnv:∀ i (h:i + 1 < nums.length),0<=nums[i + 1]/\nums[i + 1]<=(xs.length:Int):=λi h=>by
  have h2:i < ((List.replicate most.toNat [(xs.length:Int) + 1]).flatten).length:=by rw [len_rep]; simp; omega
  have h3:=hnb (i + 1) nums[i + 1] (((List.replicate most.toNat [(xs.length:Int) + 1]).flatten)[i]) (Yb h) (by rw [List.cons_append,List.nil_append,List.getElem?_cons_succ]; exact Yb h2)
  obtain⟨l,hl,hb⟩:=List.mem_flatten.mp (Y2 h2)
  rw [(List.mem_replicate.mp hl).2] at hb
  simp only [List.mem_singleton] at hb
  omega
 clear hrm er
 refine⟨⟨3,rfl⟩,⟨ns,S5.seq hS⟩,λc2=>⟨_,e5,_,at_ (j:=0) (by omega),nums[0],rfl,h0.1,by omega,λpn H6 ss hpn s6 e6 hsl p H7 hp s7 e7=>⟨_,(s6.trans s7) _ _ e5,_,at_ (j:=0) (by omega),nums[0],rfl,by omega,by omega,?_⟩⟩⟩
 have hfr:H p=none:=(S5.trans s6).free hp
 have hpp:pn ≠ p:=ne_of_none e6 hp
 have hpqp:pq ≠ p:=ne_of_none (s6 _ _ e5) hp
 refine rngK_of (PhG H a pr pq pn p xs.length most ss nums) ⟨_,[],rfl,S5.trans (s6.trans s7),e7,(λkv hkv=>by cases hkv),List.nodup_nil,Yd _,s7 _ _ e6,(s6.trans s7) _ _ e5⟩ (λi Z H8 hi hP=>?_) (λZ H8 hP=>?_)
 ·obtain⟨o1,kvs,rfl,s8,e8,hH,hN,hkl,g3,g4⟩:=hP
  have his:i < ss.length:=by omega
  have hin:i + 1 < nums.length:=by omega
  obtain⟨v0,v1⟩:=hnv i hin
  obtain⟨k,ek⟩:∃ k:Nat,nums[i + 1]=(k:Int):=⟨nums[i + 1].toNat,by omega⟩
  walk_at "rd"
  rw [show (1:Int) + (i:Int)=((i + 1:Nat):Int) by omega]
  have hz:=Yb his
  refine⟨_,g4,_,at_ hin,_,g3,.str ss[i],atI_nat (by rw [Yj,hz]; rfl),kvs,e8,.inr ss[i],rfl,by omega,_,putK kvs (.inr ss[i]) (.int nums[i + 1]),rfl,same_upd hfr s8,upd_same,?_,nodup_put hN _ _,Yi (length_putK _ _ _) (by omega),by rw [upd_ne hpp]; exact g3,by rw [upd_ne hpqp]; exact g4⟩
  rw [ek]
  exact hH.put (by omega)
 ·obtain⟨o1,kvs,rfl,s8,e8,hH,hN,hkl,g3,g4⟩:=hP
  refine⟨p,kvs,rfl,e8,λob=>?_⟩
  walk_at "rd"
  exact q p _ kvs ob hfr (same_upd hfr s8) upd_same hH hN (by omega)
def way_suf{h:Nat}{w:List Nat}(hw:WayR rs h w):∀ k∈w,∃ w',WayR rs k w'/\w' <:+ w/\k∈w':=by
 induction hw with
 | nil=>intro k hk; cases hk
 | @cons j r w hr hw' ih =>
  intro k hk
  rcases Yl.mp hk with rfl | hk
  ·exact⟨_,.cons hr hw',List.suffix_refl _,.head _⟩
  ·obtain⟨w',h1,h2,h3⟩:=ih k hk
   exact⟨w',h1,h2.trans (List.suffix_cons _ _),h3⟩
def way_trans{h k r:Nat}{w:List Nat}(hw:WayR rs h w)(hk:k∈w)(hr:r∈wayL rs k):r∈w:=by
 obtain⟨wk,h1,h2,_⟩:=way_suf hw k hk
 rw [wayL_at h1] at hr
 exact h2.subset hr
def sm(l:List α)(f:α->Int):Int:=(l.map f).sum
theorem sm_nil(f:α->Int):sm [] f=0:=rfl
theorem sm_cons(x:α)(l:List α)(f:α->Int):sm (x :: l) f=f x + sm l f:=by unfold sm; rw [List.map_cons,List.sum_cons]
theorem sm_append(l m:List α)(f:α->Int):sm (l ++ m) f=sm l f + sm m f:=by unfold sm; rw [List.map_append,List.sum_append]
def sm_add(l:List α)(f g:α->Int):sm l (λx=>f x + g x)=sm l f + sm l g:=by
 induction l with
 | nil=>rfl
 | cons x l ih=>rw [sm_cons,sm_cons,sm_cons,ih]; omega
def sm_sub(l:List α)(f g:α->Int):sm l (λx=>f x - g x)=sm l f - sm l g:=by
 induction l with
 | nil=>rfl
 | cons x l ih=>rw [sm_cons,sm_cons,sm_cons,ih]; omega
def sm_le{l:List α}{f g:α->Int}(h:∀ x∈l,f x<=g x):sm l f<=sm l g:=by
 induction l with
 | nil=>exact Int.le_refl _
 | cons x l ih=>rw [sm_cons,sm_cons]; have:=h x (.head _); have:=ih λy hy=>h y (.tail _ hy); omega
theorem sm_congr{l:List α}{f g:α->Int}(h:∀ x∈l,f x=g x):sm l f=sm l g:=by
 unfold sm
 rw [Y6 h]
def sm_zero{l:List α}{f:α->Int}(h:∀ x∈l,f x=0):sm l f=0:=by
 rw [sm_congr h]
 induction l with
 | nil=>rfl
 | cons x l ih=>rw [sm_cons,ih λy hy=>h y (.tail _ hy)]; rfl
def sm_nonneg{l:List α}{f:α->Int}(h:∀ x∈l,0<=f x):0<=sm l f:=by
 have:=sm_le (f:=λ_=>0) h
 rw [sm_zero λ_ _=>rfl] at this
 exact this
def sm_comm{α β:Type}(l:List α)(m:List β)(f:α->β->Int):sm l (λx=>sm m (f x))=sm m (λy=>sm l (λx=>f x y)):=by
 induction l with
 | nil=>rw [sm_nil]; exact (sm_zero λ_ _=>rfl).symm
 | cons x l ih=>rw [sm_cons,ih,<- sm_add]; exact sm_congr λy _=>(sm_cons x l λx=>f x y).symm
def sm_perm{l m:List α}(h:l.Perm m)(f:α->Int):sm l f=sm m f:=by
 induction h with
 | nil=>rfl
 | cons x _ ih=>rw [sm_cons,sm_cons,ih]
 | swap x y l=>rw [sm_cons,sm_cons,sm_cons,sm_cons]; omega
 | trans _ _ ih1 ih2=>exact ih1.trans ih2
def sm_filter(l:List α)(p:α->Bool)(f:α->Int):sm (l.filter p) f=sm l (λx=>if p x=true then f x else 0):=by
 induction l with
 | nil=>rfl
 | cons x l ih =>
  rw [sm_cons]
  by_cases c:p x=true
  ·rw [V5 c,sm_cons,ih,if_pos c]
  ·rw [VT c,ih,if_neg c]; omega
def need_way{G:List Str}(hO:∀ z∈G,WayR rs (hf z) (wayL rs (hf z))):Need rs (G.map hf) k ↔ ∃ z∈G,k∈wayL rs (hf z):=by
 rw [need_map]
 constructor
 ·rintro⟨z,hz,w,hw,hk⟩
  exact⟨z,hz,by rw [wayL_at hw]; exact hk⟩
 ·rintro⟨z,hz,hk⟩
  exact⟨z,hz,_,hO z hz,hk⟩
def parR(rs:List (Nat × Rat))(k:Nat):Nat:=((rs[k - 1]?).map (·.1)).getD 0
def way_par(T:TreeOk rs){k:Nat}(h1:1<=k)(h2:k<=rs.length):wayL rs k=k :: wayL rs (parR rs k)/\parR rs k<=rs.length:=by
 obtain⟨w,hw,_⟩:=way_some T h2
 cases hw with
 | nil=>omega
 | @cons j r w hr hw' =>
  have e:parR rs (j + 1)=r.1:=by unfold parR; simp [hr]
  rw [e,wayL_at (.cons hr hw'),wayL_at hw']
  exact⟨rfl,hw'.le⟩
def way_in(T:TreeOk rs){k:Nat}(h2:k<=rs.length):WayR rs k (wayL rs k):=by
 obtain⟨w,hw,_⟩:=way_some T h2
 rw [wayL_at hw]
 exact hw
def way_len(T:TreeOk rs){k:Nat}(h2:k<=rs.length):(wayL rs k).length<=rs.length:=by
 obtain⟨w,hw,hl⟩:=way_some T h2
 rw [wayL_at hw]
 exact hl
def need_up{k j:Nat}(h:Need rs hs k)(hj:j∈wayL rs k):Need rs hs j:=by
 obtain⟨x,hx,w,hw,hk⟩:=h
 exact⟨x,hx,w,hw,way_trans hw hk hj⟩
def need_par(T:TreeOk rs){hs:List Nat}{k:Nat}(h:Need rs hs k):parR rs k=0\/Need rs hs (parR rs k):=by
 obtain⟨h1,h2⟩:=need_bd h
 obtain⟨e,hp⟩:=way_par T h1 h2
 by_cases c:parR rs k=0
 ·exact .inl c
 ·refine .inr (need_up h ?_)
  rw [e,(way_par T (by omega) hp).1]
  exact .tail _ (.head _)
open Classical in
noncomputable def needL(rs:List (Nat × Rat))(hs:List Nat):List Nat:=(List.range (rs.length + 1)).filter λk=>decide (Need rs hs k)
open Classical in
def mem_needL:k∈needL rs hs ↔ Need rs hs k:=by
 unfold needL
 rw [Yz,YL]
 exact⟨λh=>VG h.2,λh=>⟨by have:=need_bd h; omega,YX h⟩⟩
theorem needL_pw:(needL rs hs).Pairwise (· < ·):=by unfold needL; exact List.Pairwise.filter _ List.pairwise_lt_range
def needL_nd:(needL rs hs).Nodup:=needL_pw.imp λh=>Ym h
def needL_eq{hs ks:List Nat}(h1:ks.Pairwise (· < ·))(h2:∀ k,k∈ks ↔ Need rs hs k):ks=needL rs hs:=sorted_eq h1 needL_pw λk=>(h2 k).trans mem_needL.symm
noncomputable def cst(rs:List (Nat × Rat))(hf:Str->Nat)(cs:Nat->Int)(G:List Str):Int:=sm (needL rs (G.map hf)) cs
def pos(x:Int):Int:=if 0 < x then x else 0
def sm_mul(c:Int)(l:List α)(f:α->Int):c * sm l f=sm l (λx=>c * f x):=by
 induction l with
 | nil=>exact Int.mul_zero c
 | cons x l ih=>rw [sm_cons,sm_cons,Int.mul_add,ih]
def sm_const(l:List α)(b:Int):sm l (λ_=>b)=b * l.length:=by
 induction l with
 | nil=>exact (Int.mul_zero b).symm
 | cons x l ih=>rw [sm_cons,ih,YO,Int.natCast_add,Int.mul_add,Int.natCast_one,Int.mul_one,Int.add_comm]
def sm_ind{N:List Nat}(hn:N.Nodup)(a:Nat)(c:Int):sm N (λk=>if a=k then c else 0)=if a∈N then c else 0:=by
 induction N with
 | nil=>rfl
 | cons x l ih =>
  rw [Va] at hn
  rw [sm_cons,ih hn.2]
  by_cases e:a=x
  ·subst e
   rw [if_pos rfl,if_neg hn.1,if_pos (.head _),Vq]
  ·rw [if_neg e,Int.zero_add]
   by_cases h:a∈l
   ·rw [if_pos h,if_pos (.tail _ h)]
   ·rw [if_neg h,if_neg (by rw [Yl]; rintro (z | z); exact e z; exact h z)]
def sm_in[DecidableEq α]{N fr:List α}(hn:N.Nodup)(hf:fr.Nodup)(hs:∀ k∈N,k∈fr)(g:α->Int):sm N g=sm fr (λj=>if j∈N then g j else 0):=by
 have hp:N.Perm (fr.filter λk=>decide (k∈N)):=(List.perm_ext_iff_of_nodup hn (hf.filter _)).mpr λk=>by
  rw [Yz]
  simp
  exact λh=>hs k h
 rw [sm_perm hp,sm_filter]
 exact sm_congr λj _=>by simp
def sm_part[DecidableEq α]{N fr:List α}(hn:N.Nodup)(hf:fr.Nodup)(hs:∀ k∈N,k∈fr){g:α->Int}(h0:∀ k∈fr,0<=g k):sm N g<=sm fr g:=by
 rw [sm_in hn hf hs]
 refine sm_le λk hk=>?_
 split
 ·exact Int.le_refl _
 ·exact h0 k hk
def sm_all_eq{l:List α}{f g:α->Int}(h:∀ x∈l,f x<=g x)(e:sm l g<=sm l f):∀ x∈l,f x=g x:=by
 induction l with
 | nil=>intro x hx; cases hx
 | cons y l ih =>
  rw [sm_cons,sm_cons] at e
  have h1:=h y (.head _)
  have h2:=sm_le λx hx=>h x (.tail _ hx)
  intro x hx
  rcases Yl.mp hx with rfl | hx
  ·omega
  ·exact ih (λz hz=>h z (.tail _ hz)) (by omega) x hx
structure Vils(rs:List (Nat × Rat))(hf:Str->Nat)(ss:List Str)(fr:List Nat):Prop where
 T:TreeOk rs
 le:∀ z∈ss,hf z<=rs.length
 nd:ss.Nodup
 fn:fr.Nodup
 fm:∀ k,k∈fr ↔ Need rs (ss.map hf) k
section
variable {rs:List (Nat × Rat)}{hf:Str->Nat}{ss:List Str}{fr:List Nat}{cs:Nat->Int}{b h:Int}{L:Nat->Int}
def Vils.need(V:Vils rs hf ss fr){G:List Str}(hG:∀ z∈G,z∈ss){k:Nat}:Need rs (G.map hf) k ↔ ∃ z∈G,k∈wayL rs (hf z):=need_way λz hz=>way_in V.T (V.le z (hG z hz))
def Vils.home(V:Vils rs hf ss fr){G:List Str}(hG:∀ z∈G,z∈ss){z:Str}(hz:z∈G)(h0:hf z ≠ 0):Need rs (G.map hf) (hf z):=by
 refine (V.need hG).mpr ⟨z,hz,?_⟩
 rw [(way_par V.T (by omega) (V.le z (hG z hz))).1]
 exact .head _
def LeftOk(rs:List (Nat × Rat))(hf:Str->Nat)(ss:List Str)(fr:List Nat)(cs:Nat->Int)(b h:Int)(L:Nat->Int):Prop:=∀ k∈fr,L k=sm ss (λz=>if hf z=k then b else 0) + sm fr (λj=>if parR rs j=k then pos (L j) else 0) - h * cs k
def tele(V:Vils rs hf ss fr)(hL:LeftOk rs hf ss fr cs b h L){N:List Nat}(hn:N.Nodup)(hs:∀ k∈N,k∈fr) :
  sm N (λk=>sm ss (λz=>if hf z=k then b else 0) - h * cs k)=sm fr (λj=>(if j∈N then L j else 0) - (if parR rs j∈N then pos (L j) else 0)):=by
 have e:sm N (λk=>sm ss (λz=>if hf z=k then b else 0) - h * cs k)=sm N (λk=>L k - sm fr (λj=>if parR rs j=k then pos (L j) else 0)):=sm_congr λk hk=>by rw [hL k (hs k hk)]; omega
 rw [e,sm_sub,sm_sub,sm_in hn V.fn hs,sm_comm]
 congr 1
 exact sm_congr λj _=>sm_ind hn _ _
def leftM(rs:List (Nat × Rat))(hf:Str->Nat)(ss:List Str)(fr:List Nat)(b:Int)(L:Nat->Int):Int:=sm ss (λz=>if hf z=0 then b else 0) + sm fr (λj=>if parR rs j=0 then pos (L j) else 0)
def left_upper(V:Vils rs hf ss fr)(hb:0<=b)(hL:LeftOk rs hf ss fr cs b h L){A:List Str}(hA:A.Nodup)(hs:∀ z∈A,z∈ss) :
  b * A.length - h * cst rs hf cs A<=leftM rs hf ss fr b L/\(b * A.length - h * cst rs hf cs A=leftM rs hf ss fr b L->∀ k,Need rs (A.map hf) k->0<=L k):=by
 have hn:(needL rs (A.map hf)).Nodup:=needL_nd
 have hN:∀ k∈needL rs (A.map hf),k∈fr:=λk hk=>(V.fm k).mpr (by
  obtain⟨z,hz,hw⟩:=(V.need hs).mp (mem_needL.mp hk)
  exact (V.need λ_ h=>h).mpr ⟨z,hs z hz,hw⟩)
 have h0:0 ∉ needL rs (A.map hf):=λc=>by have:=need_bd (mem_needL.mp c); omega
 have e1:b * A.length=sm A (λz=>if hf z=0 then b else 0) + sm (needL rs (A.map hf)) (λk=>sm A (λz=>if hf z=k then b else 0)):=by
  rw [<- sm_const,sm_comm,<- sm_add]
  refine sm_congr λz hz=>?_
  rw [sm_ind hn]
  by_cases c:hf z=0
  ·rw [if_pos c,c,if_neg h0,Vq]
  ·rw [if_neg c,if_pos (mem_needL.mpr (V.home hs hz c)),Int.zero_add]
 have p:∀ k,sm A (λz=>if hf z=k then b else 0)<=sm ss (λz=>if hf z=k then b else 0):=λk=>sm_part hA V.nd hs λz _=>by split <;> omega
 have e2:=tele V hL hn hN
 rw [sm_sub,<- sm_mul] at e2
 have e3:=sm_le (l:=needL rs (A.map hf)) λk _=>p k
 have p0:=p 0
 have key:∀ j∈fr,(if j∈needL rs (A.map hf) then L j else 0) - (if parR rs j∈needL rs (A.map hf) then pos (L j) else 0)<=if parR rs j=0 then pos (L j) else 0:=λj hj=>by
  have hp:L j<=pos (L j)/\0<=pos (L j):=by unfold pos; split <;> omega
  by_cases c:parR rs j=0
  ·rw [if_pos c,c,if_neg h0]
   split <;> omega
  ·rw [if_neg c]
   by_cases d:j∈needL rs (A.map hf)
   ·rw [if_pos d,if_pos (mem_needL.mpr ((need_par V.T (mem_needL.mp d)).resolve_left c))]
    omega
   ·rw [if_neg d]
    split <;> omega
 have e4:=sm_le key
 unfold cst leftM
 refine⟨by omega,λe k hk=>?_⟩
 have hk':=mem_needL.mpr hk
 have e5:=sm_all_eq key (by omega) k (hN k hk')
 rw [if_pos hk'] at e5
 have hp:0<=pos (L k)/\(pos (L k)=L k\/pos (L k)=0):=by unfold pos; split <;> omega
 by_cases c:parR rs k=0
 ·rw [if_pos c,c,if_neg h0] at e5
  omega
 ·rw [if_neg c,if_pos (mem_needL.mpr ((need_par V.T hk).resolve_left c))] at e5
  omega
noncomputable def stay(rs:List (Nat × Rat))(hf:Str->Nat)(ss:List Str)(L:Nat->Int):List Str:=ss.filter λz=>decide (∀ k∈wayL rs (hf z),0<=L k)
def mem_stay{z:Str}:z∈stay rs hf ss L ↔ z∈ss/\∀ k∈wayL rs (hf z),0<=L k:=by
 unfold stay
 rw [Yz,Y7]
def left_lower(V:Vils rs hf ss fr)(hc:∀ k,0<=cs k)(hh:0<=h)(hL:LeftOk rs hf ss fr cs b h L):leftM rs hf ss fr b L<=b * (stay rs hf ss L).length - h * cst rs hf cs (stay rs hf ss L):=by
 have hs:∀ z∈stay rs hf ss L,z∈ss:=λz hz=>(mem_stay.mp hz).1
 have hn:(fr.filter λk=>decide (∀ j∈wayL rs k,0<=L j)).Nodup:=V.fn.filter _
 have hm:∀ k,k∈(fr.filter λk=>decide (∀ j∈wayL rs k,0<=L j)) ↔ k∈fr/\∀ j∈wayL rs k,0<=L j:=λk=>by rw [Yz,Y7]
 generalize (fr.filter λk=>decide (∀ j∈wayL rs k,0<=L j))=N at hn hm
 have hN:∀ k∈N,k∈fr:=λk hk=>((hm k).mp hk).1
 have h0:0 ∉ N:=λc=>by have:=need_bd ((V.fm 0).mp (hN 0 c)); omega
 have e1:b * (stay rs hf ss L).length=sm ss (λz=>if hf z=0 then b else 0) + sm N (λk=>sm ss (λz=>if hf z=k then b else 0)):=by
  rw [<- sm_const]
  unfold stay
  rw [sm_filter,sm_comm,<- sm_add]
  refine sm_congr λz hz=>?_
  rw [sm_ind hn]
  by_cases c:hf z=0
  ·rw [if_pos (by rw [c,wayL_at (rs:=rs) (k:=0) .nil]; simp),if_pos c,c,if_neg h0,Int.add_zero]
  ·have hq:(hf z∈N)=(decide (∀ k∈wayL rs (hf z),0<=L k)=true):=by
    rw [Y7]
    exact propext ((hm _).trans ⟨λq=>q.2,λq=>⟨(V.fm _).mpr (V.home (λ_ h=>h) hz c),q⟩⟩)
   simp only [hq,if_neg c,Int.zero_add]
 have e2:=tele V hL hn hN
 rw [sm_sub,<- sm_mul] at e2
 have e3:sm (needL rs ((stay rs hf ss L).map hf)) cs<=sm N cs:=sm_part needL_nd hn (λk hk=>(hm k).mpr (by
  obtain⟨z,hz,hw⟩:=(V.need hs).mp (mem_needL.mp hk)
  exact⟨(V.fm k).mpr ((V.need λ_ h=>h).mpr ⟨z,hs z hz,hw⟩),λj hj=>(mem_stay.mp hz).2 j (way_trans (way_in V.T (V.le z (hs z hz))) hw hj)⟩)) λk _=>hc k
 have e4:sm fr (λj=>(if j∈N then L j else 0) - (if parR rs j∈N then pos (L j) else 0))=sm fr (λj=>if parR rs j=0 then pos (L j) else 0):=sm_congr λj hj=>by
  obtain⟨b1,b2⟩:=need_bd ((V.fm j).mp hj)
  obtain⟨ew,_⟩:=way_par V.T b1 b2
  by_cases c:parR rs j=0
  ·have hj':j∈N ↔ 0<=L j:=by
    rw [hm j,ew,c,wayL_at (rs:=rs) (k:=0) .nil]
    simp [hj]
   rw [if_pos c,c,if_neg h0]
   unfold pos
   by_cases d:0<=L j
   ·rw [if_pos (hj'.mpr d)]
    split <;> omega
   ·rw [if_neg λq=>d (hj'.mp q)]
    split <;> omega
  ·rw [if_neg c]
   have hpf:parR rs j∈fr:=(V.fm _).mpr ((need_par V.T ((V.fm j).mp hj)).resolve_left c)
   have hj':j∈N ↔ 0<=L j/\parR rs j∈N:=by
    rw [hm j,hm (parR rs j),ew]
    simp [hj,hpf]
   unfold pos
   by_cases d:parR rs j∈N
   ·rw [if_pos d]
    by_cases d2:0<=L j
    ·rw [if_pos (hj'.mpr ⟨d2,d⟩)]
     split <;> omega
    ·rw [if_neg λq=>d2 (hj'.mp q).1]
     split <;> omega
   ·rw [if_neg d,if_neg λq=>d (hj'.mp q).2]
    omega
 have e5:=Int.mul_le_mul_of_nonneg_left e3 hh
 unfold leftM cst
 omega
def left_mono(V:Vils rs hf ss fr){b' h':Int}{L':Nat->Int}(hb:0 < h)(hb':0 < h')(hle:b * h'<=b' * h)(hL:LeftOk rs hf ss fr cs b h L)(hL':LeftOk rs hf ss fr cs b' h' L'):∀ k∈fr,h' * L k<=h * L' k:=by
 have go:∀ n k,k∈fr->rs.length + 1<=n + (wayL rs k).length->h' * L k<=h * L' k:=by
  intro n
  induction n with
  | zero =>
   intro k hk hl
   have:=way_len V.T (need_bd ((V.fm k).mp hk)).2
   omega
  | succ n ih =>
   intro k hk hl
   have e1:h' * sm ss (λz=>if hf z=k then b else 0)<=h * sm ss (λz=>if hf z=k then b' else 0):=by
    rw [sm_mul,sm_mul]
    refine sm_le λz _=>?_
    split
    ·rw [Int.mul_comm,Int.mul_comm h]; exact hle
    ·rw [Int.mul_zero,Int.mul_zero]; exact Int.le_refl _
   have e2:h' * sm fr (λj=>if parR rs j=k then pos (L j) else 0)<=h * sm fr (λj=>if parR rs j=k then pos (L' j) else 0):=by
    rw [sm_mul,sm_mul]
    refine sm_le λj hj=>?_
    split
    ·rename_i c
     obtain⟨b1,b2⟩:=need_bd ((V.fm j).mp hj)
     have hjj:=ih j hj (by rw [(way_par V.T b1 b2).1,c,YO]; omega)
     unfold pos
     split
     ·rename_i p
      have p1:=Int.mul_pos hb' p
      rw [if_pos]
      ·exact hjj
      ·exact Int.pos_of_mul_pos_left (a:=L' j) (b:=h) (by rw [Int.mul_comm]; omega) hb
     ·rw [Int.mul_zero]
      split
      ·rename_i p
       exact Int.le_of_lt (Int.mul_pos hb p)
      ·rw [Int.mul_zero]; exact Int.le_refl _
    ·rw [Int.mul_zero,Int.mul_zero]; exact Int.le_refl _
   rw [hL k hk,hL' k hk,Int.mul_sub,Int.mul_sub,Int.mul_add,Int.mul_add]
   have e3:h' * (h * cs k)=h * (h' * cs k):=by rw [<- Int.mul_assoc,Int.mul_comm h' h,Int.mul_assoc]
   omega
 exact λk hk=>go (rs.length + 1) k hk (by omega)
def stay_mono(V:Vils rs hf ss fr){b' h':Int}{L':Nat->Int}(hb:0 < h)(hb':0 < h')(hle:b * h'<=b' * h)(hL:LeftOk rs hf ss fr cs b h L)(hL':LeftOk rs hf ss fr cs b' h' L'):∀ z∈stay rs hf ss L,z∈stay rs hf ss L':=λz hz=>by
 obtain⟨h1,h2⟩:=mem_stay.mp hz
 refine mem_stay.mpr ⟨h1,λk hk=>?_⟩
 have hkf:k∈fr:=(V.fm k).mpr ((V.need λ_ h=>h).mpr ⟨z,h1,hk⟩)
 have e1:=left_mono V hb hb' hle hL hL' k hkf
 have e2:=Int.mul_nonneg (Int.le_of_lt hb') (h2 k hk)
 exact Y4 λc=>by
  have:=Int.mul_neg_of_pos_of_neg hb (show L' k < 0 by omega)
  omega
structure Cheap(rs:List (Nat × Rat))(hf:Str->Nat)(cs:Nat->Int)(ss G:List Str):Prop where
 ne:G ≠ []
 sub:∀ z∈G,z∈ss
 nd:G.Nodup
 least:∀ A:List Str,A.Nodup->(∀ z∈A,z∈ss)->cst rs hf cs G * A.length<=G.length * cst rs hf cs A/\(cst rs hf cs G * A.length=G.length * cst rs hf cs A->∀ z∈A,z∈G)
def cst_nonneg(hc:∀ k,0<=cs k)(G:List Str):0<=cst rs hf cs G:=sm_nonneg λk _=>hc k
def turn_ok(V:Vils rs hf ss fr)(hc:∀ k,0<=cs k){G:List Str}(hG:G ≠ [])(hGn:G.Nodup)(hGs:∀ z∈G,z∈ss)(hL:LeftOk rs hf ss fr cs (cst rs hf cs G) G.length L) :
  stay rs hf ss L ≠ []/\cst rs hf cs (stay rs hf ss L) * G.length<=cst rs hf cs G * (stay rs hf ss L).length/\((∀ z∈stay rs hf ss L,z∈G)->(∀ z∈G,z∈stay rs hf ss L)->Cheap rs hf cs ss G):=by
 have hb:=cst_nonneg (rs:=rs) (hf:=hf) hc G
 have hg:(0:Int) < G.length:=by have:=List.length_pos_iff.mpr hG; omega
 have h1:=left_lower V hc (Int.le_of_lt hg) hL
 obtain⟨h2,h3⟩:=left_upper V hb hL hGn hGs
 have e0:cst rs hf cs G * G.length - G.length * cst rs hf cs G=0:=by rw [Int.mul_comm]; omega
 refine⟨λc=>?_,?_,λs1 s2=>⟨hG,hGs,hGn,λA hA hs=>?_⟩⟩
 ·rw [c] at h1
  have ec:cst rs hf cs []=0:=by
   unfold cst
   exact sm_zero λk hk=>by obtain⟨x,hx,_⟩:=mem_needL.mp hk; cases hx
  rw [ec] at h1
  simp only [List.length_nil,Int.mul_zero] at h1
  have h4:=h3 (by omega)
  obtain⟨z,hz⟩:=List.exists_mem_of_ne_nil _ hG
  have:z∈stay rs hf ss L:=mem_stay.mpr ⟨hGs z hz,λk hk=>h4 k ((V.need hGs).mpr ⟨z,hz,hk⟩)⟩
  rw [c] at this
  cases this
 ·rw [Int.mul_comm (cst rs hf cs (stay rs hf ss L))]
  omega
 ·have hnd:(stay rs hf ss L).Nodup:=V.nd.filter _
  have hp:(stay rs hf ss L).Perm G:=(List.perm_ext_iff_of_nodup hnd hGn).mpr λz=>⟨s1 z,s2 z⟩
  have hl:=hp.length_eq
  have ec:cst rs hf cs (stay rs hf ss L)=cst rs hf cs G:=by
   unfold cst
   rw [<- needL_eq needL_pw λk=>mem_needL.trans ?_]
   unfold Need
   constructor
   ·rintro⟨x,hx,q⟩
    exact⟨x,(hp.map hf).mem_iff.mpr hx,q⟩
   ·rintro⟨x,hx,q⟩
    exact⟨x,(hp.map hf).mem_iff.mp hx,q⟩
  rw [ec,hl] at h1
  obtain⟨h4,h5⟩:=left_upper V hb hL hA hs
  refine⟨by omega,λe z hz=>s1 z (mem_stay.mpr ⟨hs z hz,λk hk=>h5 (by omega) k ((V.need hs).mpr ⟨z,hz,hk⟩)⟩)⟩
end
def hmL(ss:List Str)(hf:Str->Nat):List (Key × V):=ss.map λz=>(Sum.inr z,V.int (hf z:Int))
def hm_keys:((hmL ss hf).map λkv=>kV kv.1)=ss.map V.str:=by
 unfold hmL
 rw [Vf]
 rfl
def hm_key1:(hmL ss hf).map (·.1)=ss.map Sum.inr:=by
 unfold hmL
 rw [Vf]
 rfl
theorem hm_val{z:Str}(h:z∈ss):valV (hmL ss hf) (Sum.inr z)=some (.int (hf z:Int)):=by
 induction ss with
 | nil=>cases h
 | cons y ss ih =>
  unfold hmL at ih ⊢
  rw [Yr]
  by_cases c:y=z
  ·subst c
   exact valV_pos rfl
  ·rw [valV_neg (by intro e; injection e with e; exact c e)]
   exact ih (by rcases Yl.mp h with e | h; exact absurd e.symm c; exact h)
theorem hm_at(hle:∀ z∈ss,hf z<=n):∀ gs:List Str,(∀ z∈gs,z∈ss)->HomesAt (hmL ss hf) gs (gs.map hf) n:=λgs hg=>⟨by simp,λi z h h1 h2=>by
 rw [Yj,h1] at h2
 cases h2
 have:=hg z (Yo h1)
 exact⟨hm_val this,hle z this⟩⟩
def hm_of:∀ {kvs:List (Key × V)},HomesV kvs n->(kvs.map (·.1)).Nodup->∃ (ss:List Str) (hf:Str->Nat),kvs=hmL ss hf/\ss.Nodup/\∀ z∈ss,hf z<=n
 | [],_,_=>⟨[],λ_=>0,rfl,List.nodup_nil,λz hz=>by cases hz⟩
 | kv :: kvs,h,hn=>by
  rw [Yr,Va] at hn
  obtain⟨ss,hf,e,hnd,hle⟩:=hm_of (λkv hkv=>h kv (.tail _ hkv)) hn.2
  obtain⟨z,k,ek,hk⟩:=h kv (.head _)
  subst ek
  have hz:z ∉ ss:=λc=>hn.1 (by rw [e,hm_key1]; exact Yk.mpr ⟨z,c,rfl⟩)
  have hne:∀ y∈ss,y ≠ z:=λy hy c=>hz (c ▸ hy)
  refine⟨z :: ss,λy=>if y=z then k else hf y,?_,Va.mpr ⟨hz,hnd⟩,λy hy=>?_⟩
  ·rw [e]
   unfold hmL
   rw [Yr]
   dsimp only
   rw [if_pos rfl]
   congr 1
   exact Y6 λy hy=>by rw [if_neg (hne y hy)]
  ·rcases Yl.mp hy with rfl | hy
   ·dsimp only; rw [if_pos rfl]; exact hk
   ·dsimp only; rw [if_neg (hne y hy)]; exact hle y hy
def prL(ks:List Nat)(cs:Nat->Int):List (Key × V):=ks.map λk:Nat=>(Sum.inl (k:Int),V.int (cs k))
variable {cs:Nat->Int}
def pr_val(h:k∈ks):valV (prL ks cs) (Sum.inl (k:Int))=some (.int (cs k)):=by
 induction ks with
 | nil=>cases h
 | cons y ks ih =>
  unfold prL at ih ⊢
  rw [Yr]
  by_cases c:y=k
  ·subst c
   exact valV_pos rfl
  ·rw [valV_neg (by intro e; injection e with e; exact c (by omega))]
   exact ih (by rcases Yl.mp h with e | h; exact absurd e.symm c; exact h)
def pr_none(h:k ∉ ks):valV (prL ks cs) (Sum.inl (k:Int))=none:=by
 induction ks with
 | nil=>rfl
 | cons y ks ih =>
  rw [Yl,not_or] at h
  unfold prL at ih ⊢
  rw [Yr,valV_neg (by intro e; injection e with e; exact h.1 (by omega))]
  exact ih h.2
def pr_new(h:k ∉ ks):putK (prL ks cs) (Sum.inl (k:Int)) (.int (cs k))=prL (ks ++ [k]) cs:=by
 rw [putK_new _ (pr_none h)]
 unfold prL
 rw [YN]
 rfl
def pr_put{v:Int}(h:k∈ks):putK (prL ks cs) (Sum.inl (k:Int)) (.int v)=prL ks (λj=>if j=k then v else cs j):=by
 have hk:((prL ks cs).any λkv=>decide (kv.1=(Sum.inl (k:Int):Key)))=true:=List.any_eq_true.mpr ⟨(Sum.inl (k:Int),.int (cs k)),List.mem_map.mpr ⟨k,h,rfl⟩,by simp⟩
 unfold putK
 rw [if_pos (by simpa using hk)]
 unfold prL
 rw [Vf]
 refine Y6 λj _=>?_
 by_cases c:j=k
 ·subst c
  simp
 ·have:¬ (j:Int)=(k:Int):=by omega
  simp [c,this]
structure Place(rs:List (Nat × Rat))(hf:Str->Nat)(ss:List Str):Prop where
 T:TreeOk rs
 n:rs.length<=20
 le:∀ z∈ss,hf z<=rs.length
 nd:ss.Nodup
 few:ss.length < 50
def Place.vils(p:Place rs hf ss):Vils rs hf ss (needL rs (ss.map hf)):=⟨p.T,p.le,p.nd,needL_nd,λ_=>mem_needL⟩
def Fine(cs:Nat->Int):Prop:=∀ k,0<=cs k/\(cs k).natAbs < 2 ^ 2400
noncomputable def botL(rs:List (Nat × Rat))(hf:Str->Nat)(ss:List Str):Nat:=lcmL ((needL rs (ss.map hf)).map (priceAt rs)) ((needL rs (ss.map hf)).map (priceAt rs)).length
def bot_ok(hp:Place rs hf ss)(hz:∀ r∈rs,SzQ 110 r.2):0 < botL rs hf ss/\botL rs hf ss<=2 ^ 2200/\∀ k,Need rs (ss.map hf) k->(priceAt rs k).den ∣ botL rs hf ss:=by
 have hn:=hp.n
 have hkl:=few_of (n:=rs.length) (needL_pw (rs:=rs) (hs:=ss.map hf)) λk hk=>need_bd (mem_needL.mp hk)
 have hq:∀ (i:Nat) q,((needL rs (ss.map hf)).map (priceAt rs))[i]?=some q->SzQ 110 q:=λi q hq=>by
  obtain⟨k,_,rfl⟩:=Yk.mp (Yo hq)
  exact price_size hz k
 obtain⟨h1,h2,h3⟩:=lcmL_ok hq _ (Yd _)
 refine⟨h1,Yi h2 (Vt (by decide) (by rw [Yg]; omega)),λk hk=>?_⟩
 obtain⟨i,hi,e⟩:=V6 (mem_needL.mpr hk)
 exact h3 i _ (by rw [Yg]; exact hi) (by rw [Yj,Yb hi,e]; rfl)
def sp_bottom(C:Addr):Sp:=λvs H Q _=>∃ (x:V) (rs:List (Nat × Rat)) (d:Addr) (ss:List Str) (hf:Str->Nat),vs=[x,.ref d]/\TreeV C H x rs/\Rd H d (.dK (hmL ss hf))/\Place rs hf ss/\(∀ r∈rs,SzQ 110 r.2) /\
 ∀ H',Same H H'->Q (.int (botL rs hf ss:Int)) H'
def ok_bottom(F:Fun K "bottom_of_prices" "bottom_of_prices" s_bottom_of_prices f fd)(n_list:mg "list"=none)(F_common_bottom:Fn P w K mg base CX0 3 "common_bottom" ["some"] (sp_common K))(F_needed:Fn P w K mg base CX0 4 "needed" ["tree","homes","group"] (sp_needed CT))
  (M_price:Mth P w K mg base CX0 4 CT "price" ["self","k"] (λvs H Q _=>sp_priceM CT CNP vs H Q E0)):FnOk P w K mg base CX0 5 f fd ["tree","homes"] (sp_bottom CT):=by
 refine okR F sc_bottom_of_prices λcdv A outer s H vs Q E hr h=>?_
 obtain⟨x,rs,d,ss,hf,rfl,hT,hd,hp,hz,q⟩:=h
 refine⟨_,(b_one (s_ret (qfn F_common_bottom hr (a_c (q_comp (blkC ["k"] [0] ["tree"]) (i_list (qfn F_needed hr (a_c (q_v 0) (a_c (q_v 1) (a_c (q_listD rfl n_list (a_c (q_v 1) a_nil)) a_nil))))) (by exact λs H fp=>(g_name 0 (show List.Nodup (["k","tree"]:List Str) from by decide +kernel))) (by exact λs H fp=>(q_meth M_price hr (by decide) (q_v 1) (a_c (q_v 0) a_nil)))) a_nil)))),?_⟩
 rw [show start ["tree","homes"] [x,.ref d]=[some (x),some (.ref d)] from rfl]
 walk_at "rd"
 simp only [tComp,iList,cxK]
 walk_at "rd"
 walk_at "rd"
 refine⟨d,_,rfl,hd,λl H1 hl s1 e1=>?_⟩
 rw [hm_keys] at e1
 refine⟨x,rs,d,l,_,ss,ss.map hf,rfl,hT.same s1,rd_same hd s1,e1,hm_at hp.le ss (λ_ h=>h),by have:=hp.n; omega,hp.few,hp.T,λp H2 ks hp2 s2 e2 hpw hmem=>?_⟩
 have ek:=needL_eq hpw hmem
 subst ek
 have hbd:∀ k∈needL rs (ss.map hf),1<=k/\k<=rs.length:=λk hk=>need_bd (mem_needL.mp hk)
 have hkl:=few_of needL_pw hbd
 have hn:=hp.n
 have s12:=s1.trans s2
 refine⟨p,rfl,⟨_,.of e2⟩,?_⟩
 rw [show capOf [some x,some (V.ref d)] [0]=[some x] from rfl]
 have hnl:(natV (needL rs (ss.map hf))).length=(needL rs (ss.map hf)).length:=by simp [natV]
 refine blk_gen (as:=(needL rs (ss.map hf)).map (priceAt rs)) RatV rat_keeps e2 (by simp [natV]) (by rw [hnl]; omega) (λi v qk h1 h2 H' k os sm ho hk=>?_) (λp3 H3 ys hp3 s3 e3 hv=>?_)
 ·obtain⟨o,rfl⟩:∃ o,os=[o]:=List.length_eq_one_iff.mp ho
  obtain⟨k0,hk0,rfl,rfl⟩:∃ k0:Nat,(needL rs (ss.map hf))[i]?=some k0/\v=V.int (k0:Int)/\qk=priceAt rs k0:=by
   unfold natV at h1
   rw [Yj] at h1 h2
   cases hh:(needL rs (ss.map hf))[i]? with
   | none=>rw [hh] at h1; cases h1
   | some k0=>rw [hh] at h1 h2; cases h1; cases h2; exact⟨k0,rfl,rfl,rfl⟩
  obtain⟨b1,b2⟩:=hbd k0 (Yo hk0)
  have hT2:=hT.same (s12.trans sm)
  obtain⟨xa,dx,la,wa,ls,ws,rfl,g1,_⟩:=id hT2
  walk_at "rd"
  refine⟨[_],rfl,rfl,dx,_,g1,rfl,.ref xa,rs,k0,rfl,hT2,λk' r y ek hr hy=>hk y H' (λ_ _ z=>z) ?_,λzz=>absurd ⟨by omega,by omega⟩ zz⟩
  have e:k0 - 1=k':=by omega
  unfold priceAt
  rw [e,hr]
  exact hy
 ·have hq:∀ (i:Nat) q,((needL rs (ss.map hf)).map (priceAt rs))[i]?=some q->SzQ 110 q:=λi q hq=>by
   obtain⟨k,_,rfl⟩:=Yk.mp (Yo hq)
   exact price_size hz k
  exact⟨p3,ys,_,rfl,.of e3,rats_list hv,lcOk_of hq (by rw [Yg]; omega),q H3 (s12.trans s3)⟩
def sp_wprices(C:Addr):Sp:=λvs H Q _=>∃ (x:V) (rs:List (Nat × Rat)) (d:Addr) (ss:List Str) (hf:Str->Nat) (B:Nat),vs=[x,.ref d,.int (B:Int)]/\TreeV C H x rs/\Rd H d (.dK (hmL ss hf))/\Place rs hf ss/\(∀ r∈rs,SzQ 110 r.2)/\B<=2 ^ 2200 /\
 ∀ p H',H p=none->Same H H'->H' p=some (.dK (prL (needL rs (ss.map hf)) λk=>topN B (priceAt rs k)))->Q (.ref p) H'
def Pwp(H0:Hp)(x:V)(d p:Addr)(B:Nat)(rs:List (Nat × Rat))(ks:List Nat)(i:Nat)(Z:St)(H:Hp):Prop:=∃ o,Z=[some x,some (.ref d),some (.int (B:Int)),some (.ref p),o]/\Same H0 H/\H p=some (.dK (prL (ks.take i) λk=>topN B (priceAt rs k)))
def ok_wprices(F:Fun K "whole_prices" "whole_prices" s_whole_prices f fd)(n_list:mg "list"=none)(F_needed:Fn P w K mg base CX0 4 "needed" ["tree","homes","group"] (sp_needed CT))(F_top_over:Fn P w K mg base CX0 1 "top_over" ["one","bottom"] sp_top)
  (M_price:Mth P w K mg base CX0 4 CT "price" ["self","k"] (λvs H Q _=>sp_priceM CT CNP vs H Q E0)):FnOk P w K mg base CX0 5 f fd ["tree","homes","bottom"] (sp_wprices CT):=by
 refine okR F sc_whole_prices λcdv A outer s H vs Q E hr h=>?_
 obtain⟨x,rs,d,ss,hf,B,rfl,hT,hd,hp,hz,hB,q⟩:=h
 refine⟨_,(b_cons (s_set 3 sc_whole_prices.nd q_dnew)
   (b_cons (s_for Ys (i_list (qfn F_needed hr (a_c (q_v 0) (a_c (q_v 1) (a_c (q_listD rfl n_list (a_c (q_v 1) a_nil)) a_nil))))) (g_name 4 sc_whole_prices.nd) (b_one (s_dput (hu_of hr) (q_v 3) (q_v 4) (qfn F_top_over hr (a_c (q_meth M_price hr (by decide) (q_v 0) (a_c (q_v 4) a_nil)) (a_c (q_v 2) a_nil))))))
   (b_one (s_ret (q_v 3))))),?_⟩
 rw [show start ["tree","homes","bottom","prices","k"] [x,.ref d,.int (B:Int)]=[some (x),some (.ref d),some (.int (B:Int)),none,none] from rfl]
 walk_at "rd"
 simp only [tFor_list]
 walk_at "rd"
 intro p H1 hp1 s1 e1
 refine⟨d,_,rfl,rd_same hd s1,λl H2 hl s2 e2=>?_⟩
 rw [hm_keys] at e2
 have s12:=s1.trans s2
 refine⟨x,rs,d,l,_,ss,ss.map hf,rfl,hT.same s12,rd_same hd s12,e2,hm_at hp.le ss (λ_ h=>h),by have:=hp.n; omega,hp.few,hp.T,λp3 H3 ks hp3 s3 e3 hpw hmem=>?_⟩
 have ek:=needL_eq hpw hmem
 subst ek
 have hbd:∀ k∈needL rs (ss.map hf),1<=k/\k<=rs.length:=λk hk=>need_bd (mem_needL.mp hk)
 have hkl:=few_of needL_pw hbd
 have hn:=hp.n
 have hne:p3 ≠ p:=(ne_of_none (s2 _ _ e1) hp3).symm
 refine listK_of (xs:=natV (needL rs (ss.map hf))) (λi Z H'=>Pwp H x d p B rs (needL rs (ss.map hf)) i Z H'/\H' p3=some (.lst (natV (needL rs (ss.map hf))))) ⟨⟨_,rfl,s12.trans s3,(s2.trans s3) _ _ e1⟩,e3⟩ (λi Z H' _ hP=>.of hP.2) (λi y Z H' hi hP=>?_) (λZ H' hP=>?_)
 ·obtain⟨⟨o,rfl,sm,e4⟩,e5⟩:=hP
  obtain⟨k0,hk0,rfl⟩:∃ k0:Nat,(needL rs (ss.map hf))[i]?=some k0/\y=V.int (k0:Int):=by
   unfold natV at hi
   rw [Yj] at hi
   cases hh:(needL rs (ss.map hf))[i]? with
   | none=>rw [hh] at hi; cases hi
   | some k0=>rw [hh] at hi; cases hi; exact⟨k0,rfl,rfl⟩
  obtain⟨b1,b2⟩:=hbd k0 (Yo hk0)
  have hT2:=hT.same sm
  obtain⟨xa,dx,la,wa,ls,ws,rfl,g1,_⟩:=id hT2
  walk_at "rd"
  refine⟨dx,_,g1,rfl,.ref xa,rs,k0,rfl,hT2,λk' r y ek hr hy=>?_,λzz=>absurd ⟨by omega,by omega⟩ zz⟩
  have e:k0 - 1=k':=by omega
  have hy':RatV H' y (priceAt rs k0):=by
   unfold priceAt
   rw [e,hr]
   exact hy
  refine⟨y,_,B,rfl,hy',(price_size hz k0).mono (by decide),Yi hB (Vt (by decide) (by decide)),_,e4,.inl (k0:Int),rfl,?_,⟨_,rfl,same_upd hp1 sm,?_⟩,by rw [upd_ne hne]; exact e5⟩
  ·unfold prL
   rw [Yg,YG]
   omega
  ·have hni:k0 ∉ (needL rs (ss.map hf)).take i:=λc=>by
    have hn2:=needL_nd (rs:=rs) (hs:=ss.map hf)
    have hi':=(Yf.mp hk0).1
    rw [<- VV i (needL rs (ss.map hf)),Vn] at hn2
    refine hn2.2.2 k0 c k0 ?_ rfl
    rw [VD hi',<- (Yf.mp hk0).2]
    exact .head _
   rw [upd_same,pr_new (cs:=λk=>topN B (priceAt rs k)) hni,Yy,hk0]
   rfl
 ·obtain⟨⟨o,rfl,sm,e4⟩,e5⟩:=hP
  walk_at "rd"
  rw [show (natV (needL rs (ss.map hf))).length=(needL rs (ss.map hf)).length by simp [natV],List.take_length] at e4
  exact q p H' hp1 sm e4
def sp_wcost(C:Addr):Sp:=λvs H Q _=>∃ (x:V) (rs:List (Nat × Rat)) (d g pd:Addr) (ss gs:List Str) (hf:Str->Nat) (ks:List Nat) (cs:Nat->Int),vs=[x,.ref d,.ref g,.ref pd]/\TreeV C H x rs/\Rd H d (.dK (hmL ss hf))/\Place rs hf ss/\H g=some (.lst (gs.map V.str))/\(∀ z∈gs,z∈ss)/\gs.length < 50/\H pd=some (.dK (prL ks cs))/\(∀ k,Need rs (gs.map hf) k->k∈ks) /\
 ∀ H',Same H H'->Q (.int (cst rs hf cs gs)) H'
def ok_wcost(F:Fun K "whole_cost" "whole_cost" s_whole_cost f fd)(n_sum:mg "sum"=none)(F_needed:Fn P w K mg base CX0 4 "needed" ["tree","homes","group"] (sp_needed CT)):FnOk P w K mg base CX0 5 f fd ["tree","homes","group","prices"] (sp_wcost CT):=by
 refine okR F sc_whole_cost λcdv A outer s H vs Q E hr h=>?_
 obtain⟨x,rs,d,g,pd,ss,gs,hf,ks,cs,rfl,hT,hd,hp,hg,hgs,hgl,hpd,hk,q⟩:=h
 refine⟨_,(b_one (s_ret (q_sumI rfl n_sum (a_c (q_comp (blkC ["k"] [3] ["prices"]) (i_list (qfn F_needed hr (a_c (q_v 0) (a_c (q_v 1) (a_c (q_v 2) a_nil))))) (by exact λs H fp=>(g_name 0 (show List.Nodup (["k","prices"]:List Str) from by decide +kernel))) (by exact λs H fp=>(q_dget (hu_of hr) (q_v 1) (q_v 0)))) a_nil)))),?_⟩
 rw [show start ["tree","homes","group","prices"] [x,.ref d,.ref g,.ref pd]=[some (x),some (.ref d),some (.ref g),some (.ref pd)] from rfl]
 walk_at "rd"
 simp only [tComp,iList,cxK]
 walk_at "rd"
 refine⟨x,rs,d,g,_,gs,gs.map hf,rfl,hT,hd,hg,hm_at hp.le gs hgs,by have:=hp.n; omega,hgl,hp.T,λp H2 ks2 hp2 s2 e2 hpw hmem=>⟨p,rfl,⟨_,.of e2⟩,?_⟩⟩
 have ek:=needL_eq hpw hmem
 subst ek
 have hbd:∀ k∈needL rs (gs.map hf),1<=k/\k<=rs.length:=λk hk=>need_bd (mem_needL.mp hk)
 have hkl:=few_of needL_pw hbd
 have hn:=hp.n
 rw [show capOf [some x,some (V.ref d),some (V.ref g),some (V.ref pd)] [3]=[some (V.ref pd)] from rfl]
 have hnl:(natV (needL rs (gs.map hf))).length=(needL rs (gs.map hf)).length:=by simp [natV]
 refine blk_gen (as:=(needL rs (gs.map hf)).map cs) IntR int_keeps e2 (by simp [natV]) (by rw [hnl]; omega) (λi v qk h1 h2 H' k os sm ho hk2=>?_) (λp3 H3 ys hp3 s3 e3 hv=>?_)
 ·obtain⟨o,rfl⟩:∃ o,os=[o]:=List.length_eq_one_iff.mp ho
  obtain⟨k0,hk0,rfl,rfl⟩:∃ k0:Nat,(needL rs (gs.map hf))[i]?=some k0/\v=V.int (k0:Int)/\qk=cs k0:=by
   unfold natV at h1
   rw [Yj] at h1 h2
   cases hh:(needL rs (gs.map hf))[i]? with
   | none=>rw [hh] at h1; cases h1
   | some k0=>rw [hh] at h1 h2; cases h1; cases h2; exact⟨k0,rfl,rfl,rfl⟩
  walk_at "rd"
  exact⟨[_],rfl,rfl,_,.inl ((s2.trans sm) _ _ hpd),.inl (k0:Int),rfl,_,pr_val (hk k0 (mem_needL.mp (Yo hk0))),hk2 _ H' (λ_ _ z=>z) rfl⟩
 ·rw [int_list hv] at e3
  walk_at "rd"
  exact⟨_,e3,q H3 (s2.trans s3)⟩
def sp_without:Sp:=λvs H Q _=>∃ (d g:Addr) (o:Obj) (ss gs:List Str) (hf:Str->Nat),vs=[.ref d,.ref g]/\H d=some (.frz o (.dK (hmL ss hf)))/\ss.Nodup/\ss.length < 50/\H g=some (.lst (gs.map V.str)) /\
 ∀ p H' o',H p=none->Same H H'->H' p=some (.frz o' (.dK (hmL (ss.filter λz=>!decide (z∈gs)) hf)))->Q (.ref p) H'
def hm_snoc{z:Str}(h:z ∉ ss):putK (hmL ss hf) (Sum.inr z) (.int (hf z:Int))=hmL (ss ++ [z]) hf:=by
 have h0:valV (hmL ss hf) (Sum.inr z)=none:=by
  induction ss with
  | nil=>rfl
  | cons y ss ih =>
   rw [Yl,not_or] at h
   unfold hmL at ih ⊢
   rw [Yr,valV_neg (by intro e; injection e with e; exact h.1 e.symm)]
   exact ih h.2
 rw [putK_new _ h0]
 unfold hmL
 rw [YN]
 rfl
def Pwo(H0:Hp)(d g p:Addr)(hf:Str->Nat)(ss gs:List Str)(i:Nat)(Z:St)(H:Hp):Prop:=∃ o,Z=[some (.ref d),some (.ref g),some (.ref p),o]/\Same H0 H/\H p=some (.dK (hmL ((ss.take i).filter λz=>!decide (z∈gs)) hf))
def ok_without(F:Fun K "homes_without" "homes_without" s_homes_without f fd):FnOk P w K mg base CX0 1 f fd ["homes","group"] sp_without:=by
 refine okR F sc_homes_without λcdv A outer s H vs Q E hr h=>?_
 obtain⟨d,g,o,ss,gs,hf,rfl,hd,hnd,hsl,hg,q⟩:=h
 refine⟨_,(b_cons (s_set 2 sc_homes_without.nd q_dnew)
   (b_cons (s_for Ys (i_dict (q_v 0)) (g_name 3 sc_homes_without.nd) (b_one (s_if (t_ninL (q_v 3) (q_v 1)) (b_one (s_dput (hu_of hr) (q_v 2) (q_v 3) (q_dget (hu_of hr) (q_v 0) (q_v 3)))) b_nil)))
   (b_frz 2 (b_one (s_ret (q_v 2)))))),?_⟩
 rw [show start ["homes","group","left","name"] [.ref d,.ref g]=[some (.ref d),some (.ref g),none,none] from rfl]
 walk_at "rd"
 simp only [tFor_dict]
 walk_at "rd"
 intro p H1 hp1 s1 e1
 have hlen:(hmL ss hf).length=ss.length:=by simp [hmL]
 refine dictK_of (Pwo H d g p hf ss gs) ⟨_,rfl,s1,e1⟩ (λi Z H' _ ⟨_,_,sm,_⟩=>sm _ _ hd) (λi kv Z H' hi hP=>?_) (λZ H' hP=>?_)
 ·obtain⟨o1,rfl,sm,e2⟩:=hP
  unfold hmL at hi
  rw [Yj] at hi
  obtain⟨z,hz,rfl⟩:∃ z,ss[i]?=some z/\kv=(Sum.inr z,V.int (hf z:Int)):=by cases h:ss[i]? with | none=>rw [h] at hi; cases hi | some z=>rw [h] at hi; cases hi; exact⟨z,rfl,rfl⟩
  have hi':=(Yf.mp hz).1
  have hzs:z∈ss:=Yo hz
  have et:(ss.take (i + 1)).filter (λz=>!decide (z∈gs))=(ss.take i).filter (λz=>!decide (z∈gs)) ++ (if z∈gs then [] else [z]):=by
   rw [Yy,hz,List.filter_append]
   congr 1
   by_cases c:z∈gs <;> simp [c]
  walk_at "rd"
  simp only [rIn]
  walk_at "rd"
  refine⟨_,.inl (.of (sm _ _ hg)),rfl,flat_strs _,?_⟩
  rw [show kV (Sum.inr z)=V.str z from rfl,inV_str]
  refine ite2 (λc=>?_) (λc=>?_)
  ·have c:z ∉ gs:=by simpa using c
   rw [if_neg c] at et
   refine⟨_,.inr ⟨_,sm _ _ hd⟩,.inr z,rfl,_,hm_val hzs,_,e2,.inr z,rfl,?_,_,rfl,same_upd hp1 sm,?_⟩
   ·unfold hmL
    rw [Yg]
    exact Yx (Vi _ _) (by rw [YG]; omega)
   ·rw [upd_same,hm_snoc,et]
    intro c2
    have c3:=(Yz.mp c2).1
    have hn2:=hnd
    rw [<- VV i ss,Vn] at hn2
    refine hn2.2.2 z c3 z ?_ rfl
    rw [VD hi',<- (Yf.mp hz).2]
    exact .head _
  ·have c:z∈gs:=by simpa using c
   rw [if_pos c,Vb] at et
   exact⟨_,rfl,sm,by rw [et]; exact e2⟩
 ·obtain⟨o1,rfl,sm,e2⟩:=hP
  refine⟨p,_,rfl,e2,λob=>?_⟩
  walk_at "rd"
  rw [hlen,YJ]
  exact q p _ ob hp1 (same_upd hp1 sm) upd_same
def intsF(n:Nat)(L:Nat->Int):List V:=(List.range (n + 1)).map λk=>V.int (L k)
theorem intsF_at{n k:Nat}{L:Nat->Int}(h:k<=n):atI (intsF n L) (k:Int)=some (.int (L k)):=atI_nat (by unfold intsF; rw [List.getElem?_map,List.getElem?_range (by omega)]; rfl)
theorem intsF_set{n k:Nat}{L:Nat->Int}{v:Int}(h:k<=n):(intsF n L).set k (.int v)=intsF n (λj=>if j=k then v else L j):=by
 unfold intsF
 refine Vw λi=>?_
 rw [List.getElem?_set]
 by_cases c:k=i
 ·subst c
  rw [if_pos rfl,if_pos (by simp; omega),List.getElem?_map,List.getElem?_range (by omega)]
  simp
 ·rw [if_neg c,Yj,Yj]
  cases hh:(List.range (n + 1))[i]? with
  | none=>rfl
  | some j =>
   have:j=i:=by
    have:=(Yf.mp hh).2
    simpa using this.symm
   subst this
   simp [Ne.symm c]
def sp_paid:Sp:=λvs H Q _=>∃ (a l:Addr) (ws:List Nat) (n:Nat) (L:Nat->Int),vs=[.ref a,.ref l]/\H a=some (.lst (natV ws))/\H l=some (.lst (intsF n L))/\ws.length < 1000/\(∀ k∈ws,k<=n)/\∀ H',Same H H'->Q (.bl (decide (∀ k∈ws,0<=L k))) H'
def BolR(_:Hp)(v:V)(b:Bool):Prop:=v=.bl b
theorem bol_keeps:Keeps BolR:=λ_ _ _ _ h _=>h
def bol_list{ys:List V}{ns:List Bool}(h:ListV BolR H ys ns):ys=ns.map V.bl:=by
 refine Vw λi=>?_
 rw [Yj]
 cases hy:ys[i]? with
 | none =>
  rw [YU (by rw [<- h.1]; exact List.getElem?_eq_none_iff.mp hy)]
  rfl
 | some y =>
  have hi:i < ns.length:=by rw [<- h.1]; exact (Yf.mp hy).1
  have:=h.2 i y _ hy (Yb hi)
  rw [Yb hi,this]
  rfl
def ok_paid(F:Fun K "is_paid" "is_paid" s_is_paid f fd)(n_all:mg "all"=none):FnOk P w K mg base CX0 1 f fd ["way","left"] sp_paid:=by
 refine okR F sc_is_paid λcdv A outer s H vs Q E hr h=>?_
 obtain⟨a,l,ws,n,L,rfl,ha,hl,hwl,hw,q⟩:=h
 refine⟨_,(b_one (s_ret (q_allB rfl n_all (a_c (q_comp (blkC ["k"] [1] ["left"]) (i_list (q_v 0)) (by exact λs H fp=>(g_name 0 (show List.Nodup (["k","left"]:List Str) from by decide +kernel))) (by exact λs H fp=>(q_ge (q_ixL (q_v 1) (q_v 0)) q_int))) a_nil)))),?_⟩
 rw [show start ["way","left"] [.ref a,.ref l]=[some (.ref a),some (.ref l)] from rfl]
 walk_at "rd"
 simp only [tComp,iList,cxK]
 walk_at "rd"
 refine⟨⟨_,.of ha⟩,?_⟩
 rw [show capOf [some (V.ref a),some (V.ref l)] [1]=[some (V.ref l)] from rfl]
 refine blk_gen (as:=ws.map λk=>decide (0<=L k)) BolR bol_keeps ha (by simp [natV]) (by simpa [natV] using hwl) (λi v b h1 h2 H' k os sm ho hk2=>?_) (λp3 H3 ys hp3 s3 e3 hv=>?_)
 ·obtain⟨o,rfl⟩:∃ o,os=[o]:=List.length_eq_one_iff.mp ho
  obtain⟨k0,hk0,rfl,rfl⟩:∃ k0:Nat,ws[i]?=some k0/\v=V.int (k0:Int)/\b=decide (0<=L k0):=by
   unfold natV at h1
   rw [Yj] at h1 h2
   cases hh:ws[i]? with
   | none=>rw [hh] at h1; cases h1
   | some k0=>rw [hh] at h1 h2; cases h1; cases h2; exact⟨k0,rfl,rfl,rfl⟩
  walk_at "rd"
  exact⟨[_],rfl,rfl,_,sm _ _ hl,_,intsF_at (hw k0 (Yo hk0)),_,rfl,hk2 _ H' (λ_ _ z=>z) rfl⟩
 ·rw [bol_list hv] at e3
  walk_at "rd"
  refine⟨_,e3,?_⟩
  have:((ws.map λk=>decide (0<=L k)).all id)=decide (∀ k∈ws,0<=L k):=by
   rw [List.all_map,Vc,List.all_eq_true,Y7]
   exact⟨λh k hk=>VG (h k hk),λh k hk=>YX (h k hk)⟩
  rw [this]
  exact q H3 s3
def sp_whocan(pt C:Addr):Sp:=λvs H Q _=>∃ (x:V) (rs:List (Nat × Rat)) (d pd:Addr) (o:Obj) (ss:List Str) (hf:Str->Nat) (ks:List Nat) (cs:Nat->Int) (b h:Int),vs=[x,.ref d,.ref pd,.int b,.int h]/\TreeV C H x rs/\H d=some (.frz o (.dK (hmL ss hf)))/\Place rs hf ss/\H pd=some (.dK (prL ks cs))/\(∀ k,Need rs (ss.map hf) k->k∈ks)/\Fine cs/\h.natAbs < 2 ^ 40/\TabAt H pt "far_roads_first.<locals>.<lambda>" /\
 ∀ p H' L,H p=none->Same H H'->LeftOk rs hf ss (needL rs (ss.map hf)) cs b h L->H' p=some (.lst ((stay rs hf ss L).map V.str))->Q (.ref p) H'
def lfD(rs:List (Nat × Rat))(hf:Str->Nat)(ss:List Str)(cs:Nat->Int)(b h:Int)(D:List Nat)(L:Nat->Int):Prop:=∀ k,L k=sm ss (λz=>if hf z=k then b else 0) + sm D (λj=>if parR rs j=k then pos (L j) else 0) - (if k∈D then h * cs k else 0)
def Pw1(H0:Hp)(x:V)(d pd l:Addr)(n:Nat)(hf:Str->Nat)(b h:Int)(ss:List Str)(i:Nat)(Z:St)(H:Hp):Prop:=∃ o1,Z=[some x,some (.ref d),some (.ref pd),some (.int b),some (.int h),some (.ref l),o1,none]/\Same H0 H/\H l=some (.lst (intsF n λk=>sm (ss.take i) (λz=>if hf z=k then b else 0)))
def Pw2(H0:Hp)(x:V)(d pd l:Addr)(rs:List (Nat × Rat))(hf:Str->Nat)(ss:List Str)(cs:Nat->Int)(b h:Int)(fr:List Nat)(i:Nat)(Z:St)(H:Hp):Prop:=∃ (o1 o2:Option V) (L:Nat->Int),Z=[some x,some (.ref d),some (.ref pd),some (.int b),some (.int h),some (.ref l),o1,o2]/\Same H0 H/\H l=some (.lst (intsF rs.length L))/\lfD rs hf ss cs b h (fr.take i) L
def lf_next{b h:Int}{D:List Nat}{L:Nat->Int}{r:Nat}(hL:lfD rs hf ss cs b h D L)(hr:r ∉ D)(hp:parR rs r ≠ r)(hd:∀ j∈D,j ≠ parR rs r) :
  lfD rs hf ss cs b h (D ++ [r]) (λk=>(if k=r then L r - h * cs r else L k) + (if k=parR rs r then pos (L r - h * cs r) else 0)):=by
 intro k
 have hj:∀ j∈D,(if j=r then L r - h * cs r else L j) + (if j=parR rs r then pos (L r - h * cs r) else 0)=L j:=λj hj=>by
  rw [if_neg λc:j=r=>hr (c ▸ hj),if_neg (hd j hj),Vq]
 have hrr:(if r=r then L r - h * cs r else L r) + (if r=parR rs r then pos (L r - h * cs r) else 0)=L r - h * cs r:=by
  rw [if_pos rfl,if_neg λc=>hp c.symm,Vq]
 rw [sm_append,sm_cons,sm_nil,sm_congr (g:=λj=>if parR rs j=k then pos (L j) else 0) λj hjd=>by dsimp only; rw [hj j hjd]]
 dsimp only
 rw [hrr]
 have e:=hL k
 by_cases c1:k=r
 ·subst c1
  rw [if_pos rfl,if_neg λc=>hp c.symm,if_neg hp,if_pos (by simp)]
  rw [if_neg hr] at e
  omega
 ·rw [if_neg c1]
  have em:(k∈D ++ [r])=(k∈D):=by simp [c1]
  simp only [em]
  by_cases c2:k=parR rs r
  ·subst c2
   rw [if_pos rfl,e]
   omega
  ·rw [if_neg c2,if_neg λc=>c2 c.symm,e]
   omega
def ok_whocan(F:Fun K "who_can_pay" "who_can_pay" s_who_can_pay f fd)(M_many:Mth P w K mg base CX0 1 CT "many" ["self"] (sp_many CT))(F_far_roads_first:Fn P w K mg base CX0 8 "far_roads_first" ["tree","homes"] (sp_far pt CT))(M_leads_to:Mth P w K mg base CX0 4 CT "leads_to" ["self","k"] (λvs H Q _=>sp_leadsM CT CNP vs H Q E0))
  (F_is_paid:Fn P w K mg base CX0 1 "is_paid" ["way","left"] sp_paid) (M_way:Mth P w K mg base CX0 3 CT "way" ["self","k"] (λvs H Q _=>sp_wayM CT CNP vs H Q E0)):FnOk P w K mg base CX0 9 f fd ["tree","homes","prices","brought","heads"] (sp_whocan pt CT):=by
 refine okR F sc_who_can_pay λcdv A outer s H vs Q E hr h=>?_
 obtain⟨x,rs,d,pd,o,ss,hf,ks,cs,b,h,rfl,hT,hd,hp,hpd,hks,hcs,hh,hB2,q⟩:=h
 refine⟨_,(b_cons (s_set 5 sc_who_can_pay.nd (q_rep (q_lst (a_c q_int a_nil)) (q_meth0 M_many hr (by decide) (q_v 0))))
   (b_cons (s_for Ys (i_dict (q_v 1)) (g_name 6 sc_who_can_pay.nd) (b_one (s_augA (q_v 5) (q_dget (hu_of hr) (q_v 1) (q_v 6)) (q_v 3))))
   (b_cons (s_for Ys (i_list (qfn F_far_roads_first hr (a_c (q_v 0) (a_c (q_v 1) a_nil)))) (g_name 7 sc_who_can_pay.nd) (b_cons (s_augM (q_v 5) (q_v 7) (q_mulL (q_v 4) (q_dget (hu_of hr) (q_v 2) (q_v 7))))
   (b_one (s_if (t_gt (q_ixL (q_v 5) (q_v 7)) q_int) (b_one (s_augA (q_v 5) (q_meth M_leads_to hr (by decide) (q_v 0) (a_c (q_v 7) a_nil)) (q_ixL (q_v 5) (q_v 7)))) b_nil))))
   (b_one (s_ret (q_compT (blkC ["name"] [0,1,5] ["tree","homes","left"]) (i_dict (q_v 1)) (by exact λs H fp=>(g_name 0 (show List.Nodup (["name","tree","homes","left"]:List Str) from by decide +kernel))) (by exact λs H fp=>ts_one (t_val (qfn F_is_paid hr (a_c (q_meth M_way hr (by decide) (q_v 1) (a_c (q_dget (hu_of hr) (q_v 2) (q_v 0)) a_nil)) (a_c (q_v 3) a_nil))))) (by exact λs H fp=>(q_v 0)))))))),?_⟩
 rw [show start ["tree","homes","prices","brought","heads","left","name","k"] [x,.ref d,.ref pd,.int b,.int h]=[some (x),some (.ref d),some (.ref pd),some (.int b),some (.int h),none,none,none] from rfl]
 obtain⟨xa,dx,la,wa,ls,ws,rfl,g1,_⟩:=id hT
 refine seq_go λB0 hB0=>?_
 walk_at "rd"
 have hn:=hp.n
 have hfew:=hp.few
 intro p1 H1 hp1 s1 e1
 refine⟨dx,_,s1 _ _ g1,rfl,.ref xa,rs,rfl,hT.same s1,_,rfl,_,e1,by omega,by omega,?_,λl hl=>?_⟩
 ·exact Yi (show 1 * ((rs.length:Int) + 1).toNat<=100 by omega) (by decide)
 have hl0:H l=none:=s1.free hl
 have s2:Same H (upd H1 l (HO.lst (List.replicate ((rs.length:Int) + 1).toNat [V.int 0]).flatten)):=same_upd hl0 s1
 have e2:upd H1 l (HO.lst (List.replicate ((rs.length:Int) + 1).toNat [V.int 0]).flatten) l=some (.lst (intsF rs.length λk=>sm (ss.take 0) (λz=>if hf z=k then b else 0))):=by
  rw [upd_same]
  congr 2
  rw [show ((rs.length:Int) + 1).toNat=rs.length + 1 by omega]
  unfold intsF
  refine Vw λi=>?_
  rw [List.flatten_replicate_singleton,Yj,List.getElem?_replicate]
  by_cases c:i < rs.length + 1
  ·rw [if_pos c,V7 c]
   rfl
  ·rw [if_neg c,List.getElem?_eq_none (by simpa using c)]
   rfl
 generalize upd H1 l (HO.lst (List.replicate ((rs.length:Int) + 1).toNat [V.int 0]).flatten)=H2 at s2 e2
 subst hB0
 try dsimp only
 refine seq_go λB0 hB0=>?_
 simp only [tFor_dict]
 walk_at "rd"
 have hlen:(hmL ss hf).length=ss.length:=by simp [hmL]
 refine dictK_of (Pw1 H (.ref xa) d pd l rs.length hf b h ss) ⟨_,rfl,s2,e2⟩ (λi Z H' _ ⟨_,_,sm,_⟩=>sm _ _ hd) (λi kv Z H' hi hP=>?_) (λZ H3 hP=>?_)
 ·obtain⟨o1,rfl,s3,e3⟩:=hP
  unfold hmL at hi
  rw [Yj] at hi
  obtain⟨z,hz,rfl⟩:∃ z,ss[i]?=some z/\kv=(Sum.inr z,V.int (hf z:Int)):=by cases h:ss[i]? with | none=>rw [h] at hi; cases hi | some z=>rw [h] at hi; cases hi; exact⟨z,rfl,rfl⟩
  have hzs:z∈ss:=Yo hz
  have hzl:=hp.le z hzs
  walk_at "rd"
  refine⟨_,.inr ⟨_,s3 _ _ hd⟩,.inr z,rfl,_,hm_val hzs,_,_,rfl,e3,_,intsF_at hzl,_,rfl,_,_,rfl,e3,hf z,ixN_at (by simp [intsF]; omega),_,rfl,same_upd hl0 s3,?_⟩
  rw [upd_same,intsF_set hzl]
  congr 3
  funext k
  rw [Yy,hz,sm_append]
  show _=_ + sm [z] _
  rw [sm_cons,sm_nil]
  by_cases c:k=hf z
  ·subst c
   rw [if_pos rfl,if_pos rfl]
   omega
  ·rw [if_neg c,if_neg λe=>c e.symm]
   omega
 ·obtain⟨o1,rfl,s3,e3⟩:=hP
  rw [hlen,YJ] at e3
  subst hB0
  try dsimp only
  refine seq_go λB0 hB0=>?_
  simp only [tFor_list]
  walk_at "rd"
  refine⟨.ref xa,rs,d,_,ss,hf,rfl,hT.same s3,.inr ⟨_,s3 _ _ hd⟩,hm_keys,hm_at hp.le,hn,hfew,hp.T,(let ⟨t,ht⟩:=hB2; ⟨t,s3 _ _ ht⟩),λp4 H4 fr hp4 s4 e4 hfn hfm hfw=>?_⟩
  have hne:p4 ≠ l:=(ne_of_none e3 hp4).symm
  have hbd:∀ k∈fr,1<=k/\k<=rs.length:=λk hk=>need_bd ((hfm k).mp hk)
  refine listK_of (xs:=natV fr) (λi Z H'=>Pw2 H (.ref xa) d pd l rs hf ss cs b h fr i Z H'/\H' p4=some (.lst (natV fr))) ⟨⟨_,_,_,rfl,s3.trans s4,s4 _ _ e3,λk=>?_⟩,e4⟩ (λi Z H' _ hP=>.of hP.2) (λi y Z H' hi hP=>?_) (λZ H5 hP=>?_)
  ·rw [List.take_zero,sm_nil,if_neg (by simp)]
   omega
  ·obtain⟨⟨o1,o2,L,rfl,s5,e5,hL⟩,e6⟩:=hP
   obtain⟨r,hr,rfl⟩:∃ r:Nat,fr[i]?=some r/\y=V.int (r:Int):=by
    unfold natV at hi
    rw [Yj] at hi
    cases hh:fr[i]? with
    | none=>rw [hh] at hi; cases hi
    | some k0=>rw [hh] at hi; cases hi; exact⟨k0,rfl,rfl⟩
   have hrm:r∈fr:=Yo hr
   have hil:=(Yf.mp hr).1
   obtain⟨b1,b2⟩:=hbd r hrm
   obtain⟨ew,pl⟩:=way_par hp.T b1 b2
   have edrop:fr.drop i=r :: fr.drop (i + 1):=by rw [VD hil,(Yf.mp hr).2]
   have hsplit:fr=fr.take i ++ r :: fr.drop (i + 1):=by rw [<- edrop,VV]
   have hrD:r ∉ fr.take i:=λc=>by
    have hn2:=hfn
    rw [hsplit,Vn] at hn2
    exact hn2.2.2 r c r (.head _) rfl
   have hpar:parR rs r ≠ r:=λc=>by
    rw [c] at ew
    have:=congrArg List.length ew
    simp at this
   have hDp:∀ j∈fr.take i,j ≠ parR rs r:=λj hj c=>by
    have hw2:=hfw
    rw [hsplit,List.pairwise_append] at hw2
    have:=hw2.2.2 j hj r (.head _)
    rw [ew,c,YO] at this
    omega
   have hLn:=lf_next hL hrD hpar hDp
   have hc:=hcs r
   have fin:∀ (L':Nat->Int) (H6:Hp),(∀ k,L' k=(if k=r then L r - h * cs r else L k) + (if k=parR rs r then pos (L r - h * cs r) else 0))->Same H H6->H6 l=some (.lst (intsF rs.length L'))->H6 p4=some (.lst (natV fr))->(Pw2 H (.ref xa) d pd l rs hf ss cs b h fr (i + 1) [some (V.ref xa),some (V.ref d),some (V.ref pd),some (V.int b),some (V.int h),some (V.ref l),o1,some (V.int (r:Int))] H6/\H6 p4=some (.lst (natV fr))):=λL' H6 e s6 e7 e8=>⟨⟨_,_,L',rfl,s6,e7,by
     have:L'=λk=>(if k=r then L r - h * cs r else L k) + (if k=parR rs r then pos (L r - h * cs r) else 0):=funext e
     rw [this,Yy,hr]
     exact hLn⟩,e8⟩
   walk_at "rd"
   have s6:∀ o,Same H (upd H' l o):=λo=>same_upd hl0 s5
   have hkr:=pr_val (ks:=ks) (cs:=cs) (hks r ((hfm r).mp hrm))
   refine⟨_,e5,_,intsF_at b2,_,.inl (s5 _ _ hpd),.inl (r:Int),rfl,_,hkr,_,rfl,mulOk hh hc.2 (by decide),_,rfl,_,e5,r,ixN_at (by simp [intsF]; omega),intsF rs.length (λj=>if j=r then L r - h * cs r else L j),by rw [upd_same,intsF_set b2],.int (L r - h * cs r),by rw [intsF_at b2,if_pos rfl],_,rfl,?_⟩
   refine ite2 (λc=>?_) (λc=>?_)
   ·refine⟨dx,_,s6 _ _ _ g1,rfl,.ref xa,rs,r,rfl,hT.same (s6 _),λk' rr ek hrr=>?_,λzz=>absurd ⟨by omega,by omega⟩ zz⟩
    have epr:parR rs r=rr.1:=by unfold parR; rw [show r - 1=k' by omega,hrr]; rfl
    rw [<- epr]
    have hpl:parR rs r<=rs.length:=pl
    refine⟨intsF rs.length (λj=>if j=r then L r - h * cs r else L j),_,rfl,by rw [upd_same,intsF_set b2],.int (L (parR rs r)),by rw [intsF_at hpl,if_neg hpar],intsF rs.length (λj=>if j=r then L r - h * cs r else L j),by rw [upd_same,intsF_set b2],.int (L r - h * cs r),by rw [intsF_at b2,if_pos rfl],_,rfl,_,rfl,intsF rs.length (λj=>if j=r then L r - h * cs r else L j),_,rfl,by rw [upd_same,intsF_set b2],parR rs r,ixN_at (by simp [intsF]; omega),?_⟩
    refine fin (λj=>if j=parR rs r then L (parR rs r) + (L r - h * cs r) else if j=r then L r - h * cs r else L j) _ (λk=>?_) (same_upd hl0 (s6 _)) (by rw [upd_same,intsF_set hpl]) (by rw [upd_ne hne,upd_ne hne]; exact e6)
    rw [show pos (L r - h * cs r)=L r - h * cs r from if_pos c]
    by_cases c2:k=parR rs r
    ·subst c2
     rw [if_pos rfl,if_pos rfl,if_neg hpar]
    ·rw [if_neg c2,if_neg c2,Vq]
   ·refine fin (λj=>if j=r then L r - h * cs r else L j) _ (λk=>?_) (s6 _) (by rw [upd_same,intsF_set b2]) (by rw [upd_ne hne]; exact e6)
    rw [show pos (L r - h * cs r)=0 from if_neg c,ite_self,Vq]
  ·obtain⟨⟨o1,o2,L,rfl,s5,e5,hL⟩,e6⟩:=hP
   rw [show (natV fr).length=fr.length by simp [natV],List.take_length] at hL
   subst hB0
   try dsimp only
   walk_at "rd"
   simp only [tCompT,iDict]
   walk_at "rd"
   rw [show capOf [some (V.ref xa),some (V.ref d),some (V.ref pd),some (V.int b),some (V.int h),some (V.ref l),o1,o2] [0,1,5]=[some (V.ref xa),some (V.ref d),some (V.ref l)] from rfl]
   refine⟨o,_,s5 _ _ hd,?_⟩
   refine blk_pickD (λz=>decide (∀ k∈wayL rs (hf z),0<=L k)) (s5 _ _ hd) hm_keys (by omega) (λz hz H' k sm hk=>?_) (λp6 H6 hp6 s6 e6=>?_)
   ·walk_at "rd"
    have hT2:=hT.same (s5.trans sm)
    refine⟨dx,_,(s5.trans sm) _ _ g1,rfl,_,.inr ⟨_,(s5.trans sm) _ _ hd⟩,.inr z,rfl,_,hm_val hz,.ref xa,rs,_,rfl,hT2,λp7 H7 k' w0 ek hp7 s7 e7 hw hwl=>?_,λzz=>absurd ⟨by omega,by have:=hp.le z hz; omega⟩ zz⟩
    have e:k'=hf z:=by omega
    subst e
    refine⟨p7,l,w0,rs.length,L,rfl,e7,(sm.trans s7) _ _ e5,by omega,λk hk=>(hw.mem k hk).2,λH8 s8=>⟨_,rfl,?_⟩⟩
    rw [<- wayL_at hw]
    exact hk H8 (s7.trans s8)
   ·refine q p6 H6 L (s5.free hp6) (s5.trans s6) (λk hk=>?_) e6
    have hkf:k∈fr:=(hfm k).mpr (mem_needL.mp hk)
    have hpm:fr.Perm (needL rs (ss.map hf)):=(List.perm_ext_iff_of_nodup hfn needL_nd).mpr λk=>(hfm k).trans mem_needL.symm
    rw [hL k,if_pos hkf,sm_perm hpm]
def filt_lt{p q:Str->Bool}(h:∀ z∈ss.filter p,z∈ss.filter q)(hne:ss.filter p ≠ ss.filter q):(ss.filter p).length < (ss.filter q).length:=by
 have e:ss.filter p=(ss.filter q).filter p:=by
  rw [List.filter_filter]
  refine List.filter_congr λz hz=>?_
  by_cases c:p z=true
  ·have:=(Yz.mp (h z (Yz.mpr ⟨hz,c⟩))).2
   rw [c,this]
   rfl
  ·simp [c]
 have hs:(ss.filter p).Sublist (ss.filter q):=by rw [e]; exact List.filter_sublist
 rcases Nat.lt_or_ge (ss.filter p).length (ss.filter q).length with h | h
 ·exact h
 ·exact absurd (hs.eq_of_length_le h) hne
def Cheap.same{ss G G':List Str}(h:Cheap rs hf cs ss G)(h':Cheap rs hf cs ss G'):∀ z,z∈G ↔ z∈G':=by
 obtain⟨a1,a2⟩:=h.least G' h'.nd h'.sub
 obtain⟨b1,b2⟩:=h'.least G h.nd h.sub
 rw [Int.mul_comm (cst rs hf cs G')] at b1 b2
 rw [Int.mul_comm (cst rs hf cs G)] at a1 a2
 exact λz=>⟨λhz=>b2 (by omega) z hz,λhz=>a2 (by omega) z hz⟩
open Classical in
noncomputable def chp(rs:List (Nat × Rat))(hf:Str->Nat)(cs:Nat->Int)(ss:List Str):List Str:=ss.filter λz=>decide (∃ G,Cheap rs hf cs ss G/\z∈G)
open Classical in
def chp_is{p:Str->Bool}(h:Cheap rs hf cs ss (ss.filter p)):ss.filter p=chp rs hf cs ss:=by
 unfold chp
 refine List.filter_congr λz hz=>?_
 rw [Vc,Y7]
 constructor
 ·exact λc=>⟨_,h,Yz.mpr ⟨hz,c⟩⟩
 ·rintro⟨G,hG,hzG⟩
  exact (Yz.mp ((hG.same h z).mp hzG)).2
def eqd_strs{a b:Addr}(ha:H a=some (.lst (ss.map V.str)))(hb:H b=some (.lst (ss.map V.str))):EqD H (.ref a) (.ref b) true 1:=by
 have h:=EqD.lst (e:=λ_=>true) (n:=0) ha hb rfl λj x y h1 h2=>by
  rw [h1] at h2
  cases h2
  obtain⟨z,_,rfl⟩:=Yk.mp (Yo h1)
  have z:=EqD.flat (H:=H) (x:=.str z) (y:=.str z) rfl rfl
  rw [eqV_refl rfl] at z
  exact z
 rw [all_range λ_ _=>rfl] at h
 exact h
def sp_cheapest(pt C:Addr):Sp:=λvs H Q _=>∃ (x:V) (rs:List (Nat × Rat)) (d pd:Addr) (o:Obj) (ss:List Str) (hf:Str->Nat) (ks:List Nat) (cs:Nat->Int),vs=[x,.ref d,.ref pd]/\TreeV C H x rs/\H d=some (.frz o (.dK (hmL ss hf)))/\Place rs hf ss/\ss ≠ []/\H pd=some (.dK (prL ks cs))/\(∀ k,Need rs (ss.map hf) k->k∈ks)/\Fine cs/\TabAt H pt "far_roads_first.<locals>.<lambda>" /\
 ∀ p H',H p=none->Same H H'->Cheap rs hf cs ss (chp rs hf cs ss)->H' p=some (.lst ((chp rs hf cs ss).map V.str))->Q (.ref p) H'
def Pch(H0:Hp)(x:V)(d pd:Addr)(rs:List (Nat × Rat))(hf:Str->Nat)(cs:Nat->Int)(ss:List Str)(Z:St)(H:Hp):Prop:=∃ (g st:Addr) (gs sts:List Str),Z=[some x,some (.ref d),some (.ref pd),some (.ref g),some (.ref st)]/\Same H0 H/\H0 g=none/\H0 st=none/\H g=some (.lst (gs.map V.str))/\H st=some (.lst (sts.map V.str)) /\
 ((gs=[]/\sts=ss)\/(gs ≠ []/\(∃ p,gs=ss.filter p)/\∃ L,LeftOk rs hf ss (needL rs (ss.map hf)) cs (cst rs hf cs gs) gs.length L/\sts=stay rs hf ss L/\∀ z∈sts,z∈gs))
def muC(n:Nat)(Z:St)(H:Hp):Nat:=match Z[3]? with
 | some (some (V.ref g))=>(match H g with | some (.lst [])=>n + 1 | some (.lst xs)=>xs.length | _=>0)
 | _=>0
theorem muC_nil{g:Addr}(h:Z[3]?=some (some (.ref g)))(hg:H g=some (.lst [])):muC n Z H=n + 1:=by unfold muC; rw [h]; dsimp only; rw [hg]
def muC_at{g:Addr}{gs:List Str}(h:Z[3]?=some (some (.ref g)))(hg:H g=some (.lst (gs.map V.str)))(hne:gs ≠ []):muC n Z H=gs.length:=by
 unfold muC
 rw [h]
 dsimp only
 rw [hg]
 cases gs with
 | nil=>exact absurd rfl hne
 | cons y gs=>simp
def ok_cheapest(F:Fun K "cheapest" "cheapest" s_cheapest f fd)(n_list:mg "list"=none)(n_len:mg "len"=none)(F_who_can_pay:Fn P w K mg base CX0 9 "who_can_pay" ["tree","homes","prices","brought","heads"] (sp_whocan pt CT))(F_whole_cost:Fn P w K mg base CX0 5 "whole_cost" ["tree","homes","group","prices"] (sp_wcost CT)):FnOk P w K mg base CX0 10 f fd ["tree","homes","prices"] (sp_cheapest pt CT):=by
 refine okR F sc_cheapest λcdv A outer s H vs Q E hr h=>?_
 obtain⟨x,rs,d,pd,o,ss,hf,ks,cs,rfl,hT,hd,hp,hss,hpd,hks,hcs,hB2,q⟩:=h
 refine⟨_,(b_cons (s_set 3 sc_cheapest.nd (q_lst a_nil))
   (b_cons (s_set 4 sc_cheapest.nd (q_listD rfl n_list (a_c (q_v 1) a_nil)))
   (b_cons (s_while Ys (t_neD hr (q_v 4) (q_v 3)) (b_cons (s_set 3 sc_cheapest.nd (q_v 4))
   (b_one (s_set 4 sc_cheapest.nd (qfn F_who_can_pay hr (a_c (q_v 0) (a_c (q_v 1) (a_c (q_v 2) (a_c (qfn F_whole_cost hr (a_c (q_v 0) (a_c (q_v 1) (a_c (q_v 3) (a_c (q_v 2) a_nil))))) (a_c (q_len rfl n_len (a_c (q_v 3) a_nil)) a_nil))))))))))
   (b_one (s_ret (q_v 3)))))),?_⟩
 rw [show start ["tree","homes","prices","group","staying"] [x,.ref d,.ref pd]=[some (x),some (.ref d),some (.ref pd),none,none] from rfl]
 have hfew:=hp.few
 have V0:=hp.vils
 have hc0:∀ k,0<=cs k:=λk=>(hcs k).1
 walk_at "rd"
 intro g H1 hg s1 e1
 refine⟨d,_,rfl,.inr ⟨_,s1 _ _ hd⟩,λl H2 hl s2 e2=>?_⟩
 rw [hm_keys] at e2
 refine while_w (Pch H x d pd rs hf cs ss) (muC ss.length) ⟨g,l,[],ss,rfl,s1.trans s2,hg,s1.free hl,s2 _ _ e1,e2,.inl ⟨rfl,rfl⟩⟩ ?_
 rintro Z H3 ⟨g,st,gs,sts,rfl,s3,hg0,hst0,eg,est,hcase⟩
 walk_at "rd"
 by_cases heq:sts=gs
 ·subst heq
  refine⟨true,1,st,g,rfl,rfl,eqd_strs est eg,by decide,_,rfl,?_⟩
  rw [if_neg (by decide)]
  rcases hcase with ⟨rfl,e⟩ | ⟨hne,⟨p,ep⟩,L,hL,e,hsub⟩
  ·exact absurd e.symm hss
  ·have hgn:sts.Nodup:=by rw [ep]; exact hp.nd.filter _
   have hgs:∀ z∈sts,z∈ss:=λz hz=>by rw [ep] at hz; exact (Yz.mp hz).1
   have hC:=(turn_ok V0 hc0 hne hgn hgs hL).2.2 (by rw [<- e]; exact λ_ h=>h) (by rw [<- e]; exact λ_ h=>h)
   have e3:sts=chp rs hf cs ss:=by
    rw [ep] at hC ⊢
    exact chp_is hC
   rw [e3] at hC eg
   exact q g H3 hg0 s3 hC eg
 ·have hlen:(sts.map V.str).length ≠ (gs.map V.str).length:=by
   rw [Yg,Yg]
   rcases hcase with ⟨rfl,rfl⟩ | ⟨hne,⟨p,rfl⟩,L,hL,rfl,hsub⟩
   ·intro c
    exact heq (List.length_eq_zero_iff.mp (by simpa using c))
   ·exact Ym (filt_lt hsub heq)
  refine⟨false,1,st,g,rfl,rfl,.lstNe est eg hlen,by decide,_,rfl,?_⟩
  rw [if_pos (by decide)]
  have hst:sts ≠ []/\(∃ p,sts=ss.filter p):=by
   rcases hcase with ⟨rfl,rfl⟩ | ⟨hne,⟨p,rfl⟩,L,hL,rfl,hsub⟩
   ·exact⟨hss,λ_=>true,(List.filter_eq_self.mpr λ_ _=>rfl).symm⟩
   ·exact⟨(turn_ok V0 hc0 hne (hp.nd.filter _) (λz hz=>(Yz.mp hz).1) hL).1,_,rfl⟩
  obtain⟨hne',p',hp'⟩:=hst
  have hsn:sts.Nodup:=by rw [hp']; exact hp.nd.filter _
  have hsm:∀ z∈sts,z∈ss:=λz hz=>by rw [hp'] at hz; exact (Yz.mp hz).1
  have hsl:sts.length<=ss.length:=by rw [hp']; exact Vi _ _
  refine⟨λZ' H'=>(∃ st',Z'=[some x,some (.ref d),some (.ref pd),some (.ref st),some (.ref st')]/\H' st=some (.lst (sts.map V.str)))/\Pch H x d pd rs hf cs ss Z' H',?_,?_⟩
  ·rintro Z' H' ⟨⟨st',rfl,e4⟩,hP⟩
   refine⟨sts.length,?_,(muC_at rfl e4 hne').symm,hP⟩
   rcases hcase with ⟨rfl,rfl⟩ | ⟨hne,⟨p,rfl⟩,L,hL,rfl,hsub⟩
   ·rw [muC_nil rfl eg]
    omega
   ·rw [muC_at rfl eg hne]
    exact filt_lt hsub heq
  ·refine⟨x,rs,d,st,pd,ss,sts,hf,ks,cs,rfl,hT.same s3,.inr ⟨_,s3 _ _ hd⟩,hp,est,hsm,by omega,s3 _ _ hpd,λk hk=>hks k ?_,λH4 s4=>⟨_,.inl (s4 _ _ est),?_⟩⟩
   ·obtain⟨z,hz,hw⟩:=(V0.need hsm).mp hk
    exact (V0.need λ_ h=>h).mpr ⟨z,hsm z hz,hw⟩
   rw [Yg]
   refine⟨x,rs,d,pd,o,ss,hf,ks,cs,_,_,rfl,hT.same (s3.trans s4),(s3.trans s4) _ _ hd,hp,(s3.trans s4) _ _ hpd,hks,hcs,by omega,(let ⟨t,ht⟩:=hB2; ⟨t,(s3.trans s4) _ _ ht⟩),λp5 H5 L' hp5 s5 hL' e5=>?_⟩
   refine⟨⟨p5,rfl,(s4.trans s5) _ _ est⟩,st,p5,sts,_,rfl,s3.trans (s4.trans s5),hst0,(s3.trans s4).free hp5,(s4.trans s5) _ _ est,e5,.inr ⟨hne',⟨p',hp'⟩,L',hL',rfl,?_⟩⟩
   rcases hcase with ⟨rfl,rfl⟩ | ⟨hne,⟨p,ep⟩,L,hL,rfl,hsub⟩
   ·exact λz hz=>(mem_stay.mp hz).1
   ·have hgn:gs.Nodup:=by rw [ep]; exact hp.nd.filter _
    have hgs:∀ z∈gs,z∈ss:=λz hz=>by rw [ep] at hz; exact (Yz.mp hz).1
    have ht:=(turn_ok V0 hc0 hne hgn hgs hL).2.1
    have l1:=List.length_pos_iff.mpr hne
    have l2:=List.length_pos_iff.mpr hne'
    exact stay_mono V0 (by omega) (by omega) ht hL' hL
noncomputable def csG(rs:List (Nat × Rat))(hf:Str->Nat)(cs:Nat->Int)(G:List Str):Nat->Int:=λk=>if k∈needL rs (G.map hf) then 0 else cs k
def flatN(js:List (List Str))(i:Nat):List Str:=(js.take i).flatten
noncomputable def restG(ss G:List Str):List Str:=ss.filter λz=>!decide (z∈G)
theorem mem_rest{ss G:List Str}{z:Str}:z∈restG ss G ↔ z∈ss/\z ∉ G:=by unfold restG; rw [List.mem_filter]; simp
def ChainOk(rs:List (Nat × Rat))(hf:Str->Nat)(cs:Nat->Int)(ss:List Str)(js:List (List Str)):Prop:=∀ (i:Nat) J,js[i]?=some J->J=chp rs hf (csG rs hf cs (flatN js i)) (restG ss (flatN js i))/\Cheap rs hf (csG rs hf cs (flatN js i)) (restG ss (flatN js i)) J
noncomputable def shr(rs:List (Nat × Rat))(hf:Str->Nat)(cs:Nat->Int)(B:Nat)(js:List (List Str))(i:Nat):Rat:=Rat.divInt (cst rs hf (csG rs hf cs (flatN js i)) (js.getD i [])) ((B:Int) * (js.getD i []).length)
def ToldV(rs:List (Nat × Rat))(hf:Str->Nat)(cs:Nat->Int)(B:Nat)(H0 H:Hp)(tl:Addr)(xs:List V)(js:List (List Str)):Prop:=xs.length=js.length/\∀ (i:Nat) x,xs[i]?=some x->∃ t g y,x=.ref t/\H t=some (.tup [.ref g,y])/\H g=some (.lst ((srt (flatN js (i + 1))).map V.str))/\g ≠ tl/\H0 g=none/\RatV H y (shr rs hf cs B js i)
section
variable {rs:List (Nat × Rat)}{hf:Str->Nat}{cs:Nat->Int}{ss:List Str}{js:List (List Str)}{B:Nat}{H0 H H':Hp}{tl:Addr}{xs:List V}
theorem ToldV.keep(h:ToldV rs hf cs B H0 H tl xs js)(s1:∀ b ys,H b=some (.tup ys)->H' b=some (.tup ys))(s2:∀ b ys,b ≠ tl->H b=some (.lst ys)->H' b=some (.lst ys)):ToldV rs hf cs B H0 H' tl xs js :=
 ⟨h.1,λi x hx=>let ⟨t,g,y,e,e1,e2,hne,h0,r⟩:=h.2 i x hx; ⟨t,g,y,e,s1 _ _ e1,s2 _ _ hne e2,hne,h0,r.keep s1⟩⟩
theorem flat_snoc{J:List Str}(h:i<=js.length):flatN (js ++ [J]) i=flatN js i:=by unfold flatN; rw [List.take_append_of_le_length h]
def flat_all{J:List Str}:flatN (js ++ [J]) (js.length + 1)=js.flatten ++ J:=by
 unfold flatN
 rw [List.take_of_length_le (by simp),List.flatten_append]
 simp
theorem flat_len:flatN js js.length=js.flatten:=by unfold flatN; rw [List.take_length]
def shr_snoc{J:List Str}(h:i < js.length):shr rs hf cs B (js ++ [J]) i=shr rs hf cs B js i:=by
 unfold shr
 rw [flat_snoc (Yt h),List.getD_eq_getElem?_getD,YC h,<- List.getD_eq_getElem?_getD]
theorem ToldV.snoc{J:List Str}{t g:Addr}{y:V}(h:ToldV rs hf cs B H0 H tl xs js)(h1:H t=some (.tup [.ref g,y]))(h2:H g=some (.lst ((srt (js.flatten ++ J)).map V.str)))(hne:g ≠ tl)(h0:H0 g=none)(h3:RatV H y (Rat.divInt (cst rs hf (csG rs hf cs js.flatten) J) ((B:Int) * J.length))):ToldV rs hf cs B H0 H tl (xs ++ [.ref t]) (js ++ [J]):=by
 refine⟨by simp [h.1],λi x hx=>?_⟩
 by_cases c:i < xs.length
 ·rw [YC c] at hx
  rw [flat_snoc (by rw [h.1] at c; omega),shr_snoc (by rw [h.1] at c; exact c)]
  exact h.2 i x hx
 ·have hi:i=js.length:=by have:=(List.getElem?_eq_some_iff.mp hx).1; simp at this; have:=h.1; omega
  subst hi
  rw [<- h.1,YA (Yd _)] at hx
  simp at hx
  refine⟨t,g,y,hx.symm,h1,by rw [flat_all]; exact h2,hne,h0,?_⟩
  unfold shr
  rw [flat_snoc (Yd _),flat_len,List.getD_eq_getElem?_getD,YA (Yd _)]
  simpa using h3
theorem ChainOk.snoc{J:List Str}(h:ChainOk rs hf cs ss js)(h1:J=chp rs hf (csG rs hf cs js.flatten) (restG ss js.flatten))(h2:Cheap rs hf (csG rs hf cs js.flatten) (restG ss js.flatten) J):ChainOk rs hf cs ss (js ++ [J]):=λi J' hJ=>by
 by_cases c:i < js.length
 ·rw [YC c] at hJ
  rw [flat_snoc (Yt c)]
  exact h i J' hJ
 ·have hi:i=js.length:=by have:=(List.getElem?_eq_some_iff.mp hJ).1; simp at this; omega
  subst hi
  rw [YA (Yd _)] at hJ
  simp at hJ
  subst hJ
  rw [flat_snoc (Yd _),flat_len]
  exact⟨h1,h2⟩
def flat_succ{J:List Str}(h:js[i]?=some J):flatN js (i + 1)=flatN js i ++ J:=by
 unfold flatN
 rw [Yy,h,List.flatten_append]
 simp
def ChainOk.flat(h:ChainOk rs hf cs ss js):∀ i,i<=js.length->(flatN js i).Nodup/\∀ z∈flatN js i,z∈ss:=by
 intro i
 induction i with
 | zero=>exact λ_=>⟨List.nodup_nil,λz hz=>by cases hz⟩
 | succ i ih =>
  intro hi
  have hJ:=Yb (show i < js.length by omega)
  obtain⟨_,hC⟩:=h i _ hJ
  obtain⟨h1,h2⟩:=ih (by omega)
  rw [flat_succ hJ]
  refine⟨Vn.mpr ⟨h1,hC.nd,λa ha b hb e=>?_⟩,λz hz=>?_⟩
  ·subst e
   exact (mem_rest.mp (hC.sub a hb)).2 ha
  ·rcases Yp.mp hz with hz | hz
   ·exact h2 z hz
   ·exact (mem_rest.mp (hC.sub z hz)).1
def cst_mem{G G':List Str}(h:∀ z,z∈G ↔ z∈G'):needL rs (G.map hf)=needL rs (G'.map hf):=by
 refine needL_eq needL_pw λk=>mem_needL.trans ?_
 unfold Need
 constructor
 ·rintro⟨x,hx,q⟩
  obtain⟨z,hz,e⟩:=Yk.mp hx
  exact⟨x,Yk.mpr ⟨z,(h z).mp hz,e⟩,q⟩
 ·rintro⟨x,hx,q⟩
  obtain⟨z,hz,e⟩:=Yk.mp hx
  exact⟨x,Yk.mpr ⟨z,(h z).mpr hz,e⟩,q⟩
def need_append{G J:List Str}:Need rs ((G ++ J).map hf) k ↔ Need rs (G.map hf) k\/Need rs (J.map hf) k:=by
 unfold Need
 rw [YN]
 constructor
 ·rintro⟨x,hx,q⟩
  rcases Yp.mp hx with hx | hx
  ·exact .inl ⟨x,hx,q⟩
  ·exact .inr ⟨x,hx,q⟩
 ·rintro (⟨x,hx,q⟩ | ⟨x,hx,q⟩)
  ·exact⟨x,Y0 _ hx,q⟩
  ·exact⟨x,Yq _ hx,q⟩
def cst_append{G J:List Str}:cst rs hf cs (G ++ J)=cst rs hf cs G + cst rs hf (csG rs hf cs G) J:=by
 unfold cst
 have s1:∀ k∈needL rs (G.map hf),k∈needL rs ((G ++ J).map hf):=λk hk=>mem_needL.mpr (need_append.mpr (.inl (mem_needL.mp hk)))
 have s2:∀ k∈needL rs (J.map hf),k∈needL rs ((G ++ J).map hf):=λk hk=>mem_needL.mpr (need_append.mpr (.inr (mem_needL.mp hk)))
 rw [sm_in needL_nd needL_nd s1,sm_in needL_nd needL_nd s2,<- sm_add]
 refine sm_congr λk hk=>?_
 unfold csG
 by_cases c:k∈needL rs (G.map hf)
 ·rw [if_pos c,if_pos c,ite_self,Vq]
 ·have c2:k∈needL rs (J.map hf):=mem_needL.mpr ((need_append.mp (mem_needL.mp hk)).resolve_left λq=>c (mem_needL.mpr q))
  rw [if_neg c,if_pos c2,if_neg c,Int.zero_add]
def csG_fine(h:Fine cs)(G:List Str):Fine (csG rs hf cs G):=λk=>by
 unfold csG
 split
 ·exact⟨Int.le_refl _,VJ _⟩
 ·exact h k
end
noncomputable def csT(rs:List (Nat × Rat))(hf:Str->Nat)(ss:List Str):Nat->Int:=λk=>if k∈needL rs (ss.map hf) then topN (botL rs hf ss) (priceAt rs k) else 0
def sp_stairs(pt C:Addr):Sp:=λvs H Q _=>∃ (x:V) (rs:List (Nat × Rat)) (d:Addr) (o:Obj) (ss:List Str) (hf:Str->Nat),vs=[x,.ref d]/\TreeV C H x rs/\H d=some (.frz o (.dK (hmL ss hf)))/\Place rs hf ss/\(∀ r∈rs,SzQ 110 r.2/\0<=r.2.num)/\TabAt H pt "far_roads_first.<locals>.<lambda>" /\
 ∀ p H' xs js,H p=none->Same H H'->H' p=some (.lst xs)->ToldV rs hf (csT rs hf ss) (botL rs hf ss) H H' p xs js->ChainOk rs hf (csT rs hf ss) ss js->(∀ z∈ss,z∈js.flatten)->Q (.ref p) H'
def Pst(H0:Hp)(x:V)(d pd tl:Addr)(rs:List (Nat × Rat))(hf:Str->Nat)(ss:List Str)(Z:St)(H:Hp):Prop:=∃ (g:Addr) (o1 o2 o3:Option V) (xs:List V) (js:List (List Str)),Z=[some x,some (.ref d),some (.int (botL rs hf ss:Int)),some (.ref pd),some (.ref g),some (.ref tl),o1,o2,o3]/\Same H0 H/\g ≠ tl/\H g=some (.lst ((srt js.flatten).map V.str))/\H tl=some (.lst xs)/\H pd=some (.dK (prL (needL rs (ss.map hf)) (csG rs hf (csT rs hf ss) js.flatten))) /\
 ToldV rs hf (csT rs hf ss) (botL rs hf ss) H0 H tl xs js/\ChainOk rs hf (csT rs hf ss) ss js
def muS(n:Nat)(Z:St)(H:Hp):Nat:=match Z[4]? with
 | some (some (V.ref g))=>(match H g with | some (.lst xs)=>n - xs.length | _=>0)
 | _=>0
def topN_fine{B:Nat}(hB:B<=2 ^ 2200)(hz:SzQ 110 q)(h0:0<=q.num):0<=topN B q/\(topN B q).natAbs < 2 ^ 2400:=by
 unfold topN
 have hd:=q.den_pos
 have h1:0<=(B:Int) / (q.den:Int):=Int.ediv_nonneg (by omega) (by omega)
 refine⟨Int.mul_nonneg h0 h1,?_⟩
 have h2:((B:Int) / (q.den:Int)).natAbs < 2 ^ 2201:=by
  rw [<- Int.natCast_ediv,VE]
  exact Yx (V2 _ _) (Yx hB (Nat.pow_lt_pow_right (by decide) (by decide)))
 exact pow_mono (mul_lt_pow hz.1 h2) (by decide)
def csT_fine(hp:Place rs hf ss)(hz:∀ r∈rs,SzQ 110 r.2/\0<=r.2.num):Fine (csT rs hf ss):=λk=>by
 unfold csT
 split
 ·refine topN_fine (bot_ok hp λr hr=>(hz r hr).1).2.1 (price_size (λr hr=>(hz r hr).1) k) ?_
  unfold priceAt
  cases h:rs[k - 1]? with
  | none=>exact Int.le_refl _
  | some r=>exact (hz r (Yo h)).2
 ·exact⟨Int.le_refl _,VJ _⟩
def PsI(H0:Hp)(x y:V)(d pd tl l pj pn:Addr)(rs:List (Nat × Rat))(hf:Str->Nat)(ss:List Str)(js:List (List Str))(J:List Str)(xs:List V)(i:Nat)(Z:St)(H:Hp):Prop:=∃ o3,Z=[some x,some (.ref d),some (.int (botL rs hf ss:Int)),some (.ref pd),some (.ref l),some (.ref tl),some (.ref pj),some y,o3]/\Same H0 H/\H l=some (.lst ((srt (js.flatten ++ J)).map V.str))/\H tl=some (.lst xs)/\H pn=some (.lst (natV (needL rs (J.map hf)))) /\
 H pd=some (.dK (prL (needL rs (ss.map hf)) λk=>if k∈(needL rs (J.map hf)).take i then 0 else csG rs hf (csT rs hf ss) js.flatten k))/\ToldV rs hf (csT rs hf ss) (botL rs hf ss) H0 H tl xs (js ++ [J])
theorem srt_nil:srt []=[]:=(srt_perm []).eq_nil
def chain_len{js:List (List Str)}(h:ChainOk rs hf cs ss js):∀ i,i<=js.length->i<=(flatN js i).length:=by
 intro i
 induction i with
 | zero=>exact λ_=>YD _
 | succ i ih =>
  intro hi
  have hJ:=Yb (show i < js.length by omega)
  have:=List.length_pos_iff.mpr (h i _ hJ).2.ne
  have:=ih (by omega)
  rw [flat_succ hJ,YE]
  omega
def prL_congr{cs cs':Nat->Int}(h:∀ k∈ks,cs k=cs' k):prL ks cs=prL ks cs':=Y6 λk hk=>by rw [h k hk]
theorem muS_at{g:Addr}(h:Z[4]?=some (some (.ref g)))(hg:H g=some (.lst xs)):muS n Z H=n - xs.length:=by unfold muS; rw [h]; dsimp only; rw [hg]
def ok_stairs(F:Fun K "stairs" "stairs" s_stairs f fd)(n_len:mg "len"=none)(n_sorted:mg "sorted"=none)(F_bottom_of_prices:Fn P w K mg base CX0 5 "bottom_of_prices" ["tree","homes"] (sp_bottom CT))(F_whole_prices:Fn P w K mg base CX0 5 "whole_prices" ["tree","homes","bottom"] (sp_wprices CT))(F_cheapest:Fn P w K mg base CX0 10 "cheapest" ["tree","homes","prices"] (sp_cheapest pt CT))(F_homes_without:Fn P w K mg base CX0 1 "homes_without" ["homes","group"] sp_without)
  (F_ratio:Fn P w K mg base CX0 2 "ratio" ["top","bottom"] sp_ratio0) (F_whole_cost:Fn P w K mg base CX0 5 "whole_cost" ["tree","homes","group","prices"] (sp_wcost CT)) (F_needed:Fn P w K mg base CX0 4 "needed" ["tree","homes","group"] (sp_needed CT)):FnOk P w K mg base CX0 11 f fd ["tree","homes"] (sp_stairs pt CT):=by
 refine okR F sc_stairs λcdv A outer s H vs Q E hr h=>?_
 obtain⟨x,rs,d,o,ss,hf,rfl,hT,hd,hp,hz,hB2,q⟩:=h
 refine⟨_,(b_cons (s_set 2 sc_stairs.nd (qfn F_bottom_of_prices hr (a_c (q_v 0) (a_c (q_v 1) a_nil))))
   (b_cons (s_set 3 sc_stairs.nd (qfn F_whole_prices hr (a_c (q_v 0) (a_c (q_v 1) (a_c (q_v 2) a_nil)))))
   (b_cons (s_set 4 sc_stairs.nd (q_lst a_nil))
   (b_cons (s_set 5 sc_stairs.nd (q_lst a_nil))
   (b_cons (s_while Ys (t_lt (q_len rfl n_len (a_c (q_v 4) a_nil)) (q_lenD rfl n_len (a_c (q_v 1) a_nil))) (b_cons (s_set 6 sc_stairs.nd (qfn F_cheapest hr (a_c (q_v 0) (a_c (qfn F_homes_without hr (a_c (q_v 1) (a_c (q_v 4) a_nil))) (a_c (q_v 3) a_nil)))))
   (b_cons (s_set 7 sc_stairs.nd (qfn F_ratio hr (a_c (qfn F_whole_cost hr (a_c (q_v 0) (a_c (q_v 1) (a_c (q_v 6) (a_c (q_v 3) a_nil))))) (a_c (q_mulL (q_v 2) (q_len rfl n_len (a_c (q_v 6) a_nil))) a_nil))))
   (b_cons (s_set 4 sc_stairs.nd (q_sortStr rfl n_sorted (a_c (q_cat (q_v 4) (q_v 6)) a_nil)))
   (b_cons (s_expr (q_app (q_v 5) (a_c (q_tup (a_c (q_v 4) (a_c (q_v 7) a_nil))) a_nil)))
   (b_one (s_for Ys (i_list (qfn F_needed hr (a_c (q_v 0) (a_c (q_v 1) (a_c (q_v 6) a_nil))))) (g_name 8 sc_stairs.nd) (b_one (s_dput (hu_of hr) (q_v 3) (q_v 8) q_int)))))))))
   (b_one (s_ret (q_v 5)))))))),?_⟩
 rw [show start ["tree","homes","bottom","prices","group","told","joining","share","k"] [x,.ref d]=[some (x),some (.ref d),none,none,none,none,none,none,none] from rfl]
 have hfew:=hp.few
 have V0:=hp.vils
 have hz1:∀ r∈rs,SzQ 110 r.2:=λr hr=>(hz r hr).1
 obtain⟨hB0,hB1,hBd⟩:=bot_ok hp hz1
 walk_at "rd"
 refine⟨x,rs,d,ss,hf,rfl,hT,.inr ⟨_,hd⟩,hp,hz1,λH1 s1=>?_⟩
 refine⟨x,rs,d,ss,hf,botL rs hf ss,rfl,hT.same s1,.inr ⟨_,s1 _ _ hd⟩,hp,hz1,hB1,λpd H2 hpd s2 e2 g H3 hg s3 e3 tl H4 htl s4 e4=>?_⟩
 have hpd0:H pd=none:=s1.free hpd
 have htl0:H tl=none:=(s1.trans (s2.trans s3)).free htl
 have hcT:=csT_fine hp hz
 have e0:prL (needL rs (ss.map hf)) (λk=>topN (botL rs hf ss) (priceAt rs k))=prL (needL rs (ss.map hf)) (csG rs hf (csT rs hf ss) ([]:List (List Str)).flatten):=prL_congr λk hk=>by
  have:k ∉ needL rs ((([]:List (List Str)).flatten).map hf):=λc=>by obtain⟨x,hx,_⟩:=mem_needL.mp c; cases hx
  unfold csG csT
  rw [if_neg this,if_pos hk]
 rw [e0] at e2
 refine while_w (Pst H x d pd tl rs hf ss) (muS ss.length) ⟨g,_,_,_,[],[],rfl,s1.trans (s2.trans (s3.trans s4)),ne_of_none e3 htl,by rw [List.flatten_nil,srt_nil]; exact s4 _ _ e3,e4,(s3.trans s4) _ _ e2,⟨rfl,λi x h=>by simp at h⟩,λi J h=>by simp at h⟩ ?_
 clear e4 e3 e2 e0 s4 s3 s2 s1 hpd hg htl
 rintro Z H1 ⟨g,o1,o2,o3,xs,js,rfl,s1,hgt,eg,et,ep,hTo,hCh⟩
 obtain⟨hfn,hfs⟩:=hCh.flat js.length (Yd _)
 rw [flat_len] at hfn hfs
 have hfl:js.flatten.length<=ss.length:=YH hfn hfs
 have hsl:(srt js.flatten).length=js.flatten.length:=(srt_perm _).length_eq
 have hml:(hmL ss hf).length=ss.length:=by simp [hmL]
 walk_at "rd"
 refine⟨_,.inl eg,_,.inr ⟨_,s1 _ _ hd⟩,?_⟩
 rw [Yg,hsl,hml]
 refine ite2 (λc=>?_) (λc=>?_)
 ·have c:js.flatten.length < ss.length:=by omega
  have hR:restG ss js.flatten ≠ []:=λcc=>by
   have:ss ⊆ js.flatten:=λz hz=>Y4 λhn=>by
    have:=mem_rest.mpr ⟨hz,hn⟩
    rw [cc] at this
    cases this
   have:=YH hp.nd this
   omega
  refine⟨λZ' H'=>muS ss.length Z' H' < ss.length - js.flatten.length/\Pst H x d pd tl rs hf ss Z' H',λZ' H' hN=>⟨_,by rw [muS_at rfl eg,Yg,hsl]; exact hN.1,rfl,hN.2⟩,?_⟩
  refine⟨d,g,o,ss,_,hf,rfl,s1 _ _ hd,hp.nd,hfew,eg,λd2 H2 o' hd2 s2 e2=>?_⟩
  have er:(ss.filter λz=>!decide (z∈srt js.flatten))=restG ss js.flatten:=List.filter_congr λz _=>by
   congr 1
   exact decide_eq_decide.mpr (srt_perm _).mem_iff
  rw [er] at e2
  have hpR:Place rs hf (restG ss js.flatten):=⟨hp.T,hp.n,λz hz=>hp.le z (mem_rest.mp hz).1,hp.nd.filter _,Yx (Vi _ _) hfew⟩
  have hnR:∀ k,Need rs ((restG ss js.flatten).map hf) k->k∈needL rs (ss.map hf):=λk hk=>by
   obtain⟨z,hz,hw⟩:=(hpR.vils.need λ_ h=>h).mp hk
   exact mem_needL.mpr ((V0.need λ_ h=>h).mpr ⟨z,(mem_rest.mp hz).1,hw⟩)
  have s12:=s1.trans s2
  refine⟨x,rs,d2,pd,o',_,hf,_,_,rfl,hT.same s12,e2,hpR,hR,s2 _ _ ep,hnR,csG_fine hcT _,(let ⟨t,ht⟩:=hB2; ⟨t,s12 _ _ ht⟩),λpj H3 hpj s3 hCp e3=>?_⟩
  generalize hJ:chp rs hf (csG rs hf (csT rs hf ss) js.flatten) (restG ss js.flatten)=J at hCp e3
  have hJs:∀ z∈J,z∈ss:=λz hz=>(mem_rest.mp (hCp.sub z hz)).1
  have hJl:J.length<=ss.length:=YH hCp.nd hJs
  have hJ0:=List.length_pos_iff.mpr hCp.ne
  have hnJ:∀ k,Need rs (J.map hf) k->k∈needL rs (ss.map hf):=λk hk=>by
   obtain⟨z,hz,hw⟩:=(V0.need hJs).mp hk
   exact mem_needL.mpr ((V0.need λ_ h=>h).mpr ⟨z,hJs z hz,hw⟩)
  have s13:=s12.trans s3
  refine⟨x,rs,d,pj,pd,ss,J,hf,_,_,rfl,hT.same s13,.inr ⟨_,s13 _ _ hd⟩,hp,e3,hJs,by omega,(s2.trans s3) _ _ ep,hnJ,λH4 s4=>?_⟩
  have hjl:=chain_len hCh js.length (Yd _)
  rw [flat_len] at hjl
  have hxl:=hTo.1
  have s14:=s13.trans s4
  refine⟨pj,rfl,_,.inl (s4 _ _ e3),?_⟩
  rw [Yg]
  have hBs:((botL rs hf ss:Nat):Int).natAbs < 2 ^ 2201:=by rw [VE]; exact Yx hB1 (Nat.pow_lt_pow_right (by decide) (by decide))
  have hJz:((J.length:Nat):Int).natAbs < 2 ^ 40:=by omega
  refine⟨mulOk hBs hJz (by decide),_,_,rfl,Big.of (mul_lt_pow hBs hJz) (by decide),Int.ne_of_gt (Int.mul_pos (by omega) (by omega)),λy H5 s5 hy=>?_⟩
  refine⟨pj,rfl,_,(s2.trans (s3.trans (s4.trans s5))) _ _ eg,_,(s4.trans s5) _ _ e3,?_,λp6 hp6=>?_⟩
  ·rw [Yg,Yg,hsl]
   exact Yi (show _<=200 by omega) (by decide)
  have ea:(srt js.flatten).map V.str ++ J.map V.str=(srt js.flatten ++ J).map V.str:=by rw [YN]
  rw [ea]
  have hsum:js.flatten.length + J.length<=ss.length:=by
   have hnd2:(js.flatten ++ J).Nodup:=Vn.mpr ⟨hfn,hCp.nd,λa ha b hb e=>(mem_rest.mp (hCp.sub b hb)).2 (e ▸ ha)⟩
   have:=YH hnd2 (λz hz=>by rcases Yp.mp hz with hz | hz; exact hfs z hz; exact hJs z hz)
   rw [YE] at this
   exact this
  have s6:Same H5 (upd H5 p6 (.lst ((srt js.flatten ++ J).map V.str))):=same_upd hp6 (λ_ _ z=>z)
  refine⟨_,upd_same,by rw [YE,hsl]; omega,λl H7 ts hl s7 e7 hpw hpm=>?_⟩
  have ets:ts=srt (js.flatten ++ J):=srt_is hpw (hpm.trans ((srt_perm _).append_right _))
  subst ets
  have s17:=s14.trans (s5.trans (s6.trans s7))
  have S27:=s2.trans (s3.trans (s4.trans (s5.trans (s6.trans s7))))
  refine⟨⟨_,S27 _ _ et⟩,λp8 H8 hp8 s8 e8=>⟨_,(S27.trans s8) _ _ et,by omega,?_⟩⟩
  have hlt:l ≠ tl:=(ne_of_none ((s2.trans (s3.trans (s4.trans (s5.trans s6)))) _ _ et) hl).symm
  have hp8t:p8 ≠ tl:=(ne_of_none (S27 _ _ et) hp8).symm
  have s18:=s17.trans s8
  have s19:Same H (upd H8 tl (.lst (xs ++ [.ref p8]))):=same_upd htl0 s18
  have ep9:upd H8 tl (.lst (xs ++ [.ref p8])) pd=some (.dK (prL (needL rs (ss.map hf)) (csG rs hf (csT rs hf ss) js.flatten))):=by
   rw [upd_ne (λz=>by rw [z,et] at ep; cases ep)]
   exact (S27.trans s8) _ _ ep
  have eg9:upd H8 tl (.lst (xs ++ [.ref p8])) l=some (.lst ((srt (js.flatten ++ J)).map V.str)):=by rw [upd_ne hlt]; exact s8 _ _ e7
  have ej9:upd H8 tl (.lst (xs ++ [.ref p8])) pj=some (.lst (J.map V.str)):=by
   rw [upd_ne (λz=>by rw [z,(s2 _ _ et)] at hpj; cases hpj)]
   exact (s4.trans (s5.trans (s6.trans (s7.trans s8)))) _ _ e3
  have hTo9:ToldV rs hf (csT rs hf ss) (botL rs hf ss) H (upd H8 tl (.lst (xs ++ [.ref p8]))) tl (xs ++ [.ref p8]) (js ++ [J]):=by
   have kt:∀ b ys,H8 b=some (.tup ys)->upd H8 tl (.lst (xs ++ [.ref p8])) b=some (.tup ys):=λb ys e=>by
    rw [upd_ne (λz=>by rw [z,(S27.trans s8) _ _ et] at e; cases e)]
    exact e
   refine ToldV.snoc ((hTo.keep (H':=H8) (λb ys e=>(S27.trans s8) _ _ e) λb ys _ e=>(S27.trans s8) _ _ e).keep kt λb ys hb e=>by rw [upd_ne hb]; exact e) (kt _ _ e8) eg9 hlt ((s14.trans (s5.trans s6)).free hl) ?_
   exact (hy.same (s6.trans (s7.trans s8))).keep kt
  have et9:upd H8 tl (.lst (xs ++ [.ref p8])) tl=some (.lst (xs ++ [.ref p8])):=upd_same
  generalize upd H8 tl (.lst (xs ++ [.ref p8]))=H9 at s19 ep9 eg9 ej9 hTo9 et9
  simp only [tFor_list]
  walk_at "rd"
  refine⟨x,rs,d,pj,_,J,J.map hf,rfl,hT.same s19,.inr ⟨_,s19 _ _ hd⟩,ej9,hm_at hp.le J hJs,by have:=hp.n; omega,by omega,hp.T,λpn Hn ks hpn sn en hkw hkm=>?_⟩
  have ek:=needL_eq hkw hkm
  subst ek
  refine listK_of (xs:=natV (needL rs (J.map hf))) (PsI H x y d pd tl l pj pn rs hf ss js J (xs ++ [.ref p8])) ⟨_,rfl,s19.trans sn,sn _ _ eg9,sn _ _ et9,en,?_,hTo9.keep (λb ys e=>sn _ _ e) λb ys _ e=>sn _ _ e⟩ (λi Z H' _ ⟨_,_,_,_,_,e,_⟩=>.of e) (λi v Z H' hi hP=>?_) (λZ H' hP=>?_)
  ·rw [sn _ _ ep9,List.take_zero]
   congr 2
  ·obtain⟨o3,rfl,sm,f1,f2,f3,f4,f5⟩:=hP
   obtain⟨k0,hk0,rfl⟩:∃ k0:Nat,(needL rs (J.map hf))[i]?=some k0/\v=V.int (k0:Int):=by
    unfold natV at hi
    rw [Yj] at hi
    cases hh:(needL rs (J.map hf))[i]? with
    | none=>rw [hh] at hi; cases hi
    | some k0=>rw [hh] at hi; cases hi; exact⟨k0,rfl,rfl⟩
   have hk1:k0∈needL rs (ss.map hf):=hnJ k0 (mem_needL.mp (Yo hk0))
   have hkl:=few_of (n:=rs.length) (needL_pw (rs:=rs) (hs:=ss.map hf)) λk hk=>need_bd (mem_needL.mp hk)
   have hn:=hp.n
   walk_at "rd"
   have kl:∀ b ys o,H' b=some (.lst ys)->upd H' pd o b=some (.lst ys):=λb ys o e=>by
    rw [upd_ne (λz=>by rw [z,f4] at e; cases e)]
    exact e
   refine⟨_,f4,.inl (k0:Int),rfl,by unfold prL; rw [List.length_map]; omega,_,rfl,same_upd hpd0 sm,kl _ _ _ f1,kl _ _ _ f2,kl _ _ _ f3,?_,f5.keep (λb ys e=>by rw [upd_ne (λz=>by rw [z,f4] at e; cases e)]; exact e) λb ys _ e=>kl _ _ _ e⟩
   rw [upd_same,pr_put hk1,Yy,hk0]
   congr 2
   refine prL_congr λk hk=>?_
   by_cases c1:k=k0
   ·subst c1
    rw [if_pos rfl,if_pos (by simp)]
   ·have e:(k∈(needL rs (J.map hf)).take i ++ (some k0).toList)=(k∈(needL rs (J.map hf)).take i):=by simp [c1]
    simp only [e,if_neg c1]
  ·obtain⟨o3,rfl,sm,f1,f2,f3,f4,f5⟩:=hP
   rw [show (natV (needL rs (J.map hf))).length=(needL rs (J.map hf)).length by simp [natV],List.take_length] at f4
   have ef:(js ++ [J]).flatten=js.flatten ++ J:=by rw [List.flatten_append]; simp
   refine⟨?_,l,_,_,_,_,js ++ [J],rfl,sm,hlt,by rw [ef]; exact f1,f2,?_,f5,hCh.snoc hJ.symm hCp⟩
   ·rw [muS_at rfl f1,Yg,(srt_perm _).length_eq,YE]
    omega
   ·rw [f4]
    congr 2
    refine prL_congr λk hk=>?_
    rw [ef]
    unfold csG
    have hm:(k∈needL rs ((js.flatten ++ J).map hf)) ↔ k∈needL rs (js.flatten.map hf)\/k∈needL rs (J.map hf):=by rw [mem_needL,mem_needL,mem_needL]; exact need_append
    by_cases c1:k∈needL rs (J.map hf)
    ·rw [if_pos c1,if_pos (hm.mpr (.inr c1))]
    ·rw [if_neg c1]
     by_cases c2:k∈needL rs (js.flatten.map hf)
     ·rw [if_pos c2,if_pos (hm.mpr (.inl c2))]
     ·rw [if_neg c2,if_neg λq=>(hm.mp q).elim c2 c1]
 ·have hcov:∀ z∈ss,z∈js.flatten:=λz hz=>by
   refine Y4 λhn=>?_
   have:=YH (Va.mpr ⟨hn,hfn⟩) (λy hy=>by rcases Yl.mp hy with rfl | hy; exact hz; exact hfs y hy)
   rw [YO] at this
   omega
  exact q tl H1 xs js htl0 s1 et hTo hCh hcov
def frac(B:Nat)(m:Int):Rat:=Rat.divInt m (B:Int)
def frac_add{B:Nat}(hB:0 < B)(m n:Int):frac B m + frac B n=frac B (m + n):=add_same (by omega)
def frac_sub{B:Nat}(hB:0 < B)(m n:Int):frac B m - frac B n=frac B (m - n):=by
 have:=frac_add hB (m - n) n
 rw [Int.sub_add_cancel] at this
 rw [<- this,Rat.sub_eq_add_neg,Rat.add_assoc,Rat.add_neg_cancel,Rat.add_zero]
def frac_zero(B:Nat):frac B 0=0:=Rat.zero_divInt _
theorem frac_sz{B n:Nat}{m:Int}(hB:0 < B)(h1:B < 2 ^ n)(h2:m.natAbs < 2 ^ n):SzQ n (frac B m):=SzQ.of (by omega) h2 (by simpa using h1)
def addAll_frac{B:Nat}(hB:0 < B)(l:List α)(g:α->Int):addAll (l.map λk=>frac B (g k))=frac B (sm l g):=by
 induction l with
 | nil=>exact (frac_zero B).symm
 | cons x l ih=>rw [Yr,addAll_cons,ih,frac_add hB,sm_cons]
def price_frac(hp:Place rs hf ss)(hz:∀ r∈rs,SzQ 110 r.2){k:Nat}(hk:Need rs (ss.map hf) k):priceAt rs k=frac (botL rs hf ss) (csT rs hf ss k):=by
 obtain⟨h1,_,h3⟩:=bot_ok hp hz
 unfold csT frac
 rw [if_pos (mem_needL.mpr hk),top_rat h1 (h3 k hk)]
def cost_frac{ss G:List Str}{acc:List Nat}(hp:Place rs hf ss)(hz:∀ r∈rs,SzQ 110 r.2)(hG:∀ z∈G,z∈ss)(hn:acc.Nodup)(hm:∀ k,k∈acc ↔ Need rs (G.map hf) k):addAll (acc.map (priceAt rs))=frac (botL rs hf ss) (cst rs hf (csT rs hf ss) G):=by
 have e:acc.map (priceAt rs)=acc.map λk=>frac (botL rs hf ss) (csT rs hf ss k):=Y6 λk hk=>price_frac hp hz (by
  obtain⟨z,hz,hw⟩:=(hp.vils.need hG).mp ((hm k).mp hk)
  exact (hp.vils.need λ_ h=>h).mpr ⟨z,hG z hz,hw⟩)
 rw [e,addAll_frac (bot_ok hp hz).1]
 unfold cst
 rw [sm_perm ((List.perm_ext_iff_of_nodup hn needL_nd).mpr λk=>(hm k).trans mem_needL.symm)]
def cst_small{G:List Str}(hn:rs.length<=20)(hc:Fine cs):0<=cst rs hf cs G/\(cst rs hf cs G).natAbs < 2 ^ 2410:=by
 have h0:=cst_nonneg (rs:=rs) (hf:=hf) (λk=>(hc k).1) G
 refine⟨h0,?_⟩
 have hkl:=few_of (n:=rs.length) (needL_pw (rs:=rs) (hs:=G.map hf)) λk hk=>need_bd (mem_needL.mp hk)
 have h1:cst rs hf cs G<=((2 ^ 2400:Nat):Int) * (needL rs (G.map hf)).length:=by
  unfold cst
  rw [<- sm_const]
  refine sm_le λk _=>?_
  have:=hc k
  omega
 have h2:(2:Nat) ^ 2410=2 ^ 2400 * 1024:=by rw [show (2410:Nat)=2400 + 10 from rfl,Nat.pow_add]
 rw [h2]
 have h3:(0:Nat) < 2 ^ 2400:=VJ _
 generalize (2:Nat) ^ 2400=M at h1 h3
 have h4:(M:Int) * (needL rs (G.map hf)).length<=(M:Int) * 20:=Int.mul_le_mul_of_nonneg_left (by omega) (by omega)
 omega
section
variable {rs:List (Nat × Rat)}{hf:Str->Nat}{ss:List Str}{js:List (List Str)}
end
theorem lt_crossQ{p q:Rat}:p.num * (q.den:Int) < q.num * (p.den:Int) ↔ p < q:=(Rat.lt_iff p q).symm
def sp_lunder:Sp:=λvs H Q _=>∃ (x y:V) (p q:Rat),vs=[x,y]/\RatV H x p/\RatV H y q/\SzQ 3000 p/\SzQ 3000 q/\Q (.bl (decide (p < q))) H
def ok_lunder(F:Fun K "_law_under" "_law_under" s_law_under f fd):FnOk P w K mg base CX0 1 f fd ["_law_one","_law_other"] sp_lunder:=by
 refine okR F sc_law_under λcdv A outer s H vs Q E hr h=>?_
 obtain⟨x,y,p,t,rfl,⟨a,rfl,ha⟩,⟨b,rfl,hb⟩,z1,z2,q⟩:=h
 refine⟨_,(b_one (s_ret (q_lt (q_mulL (q_ixT (q_v 0) q_int) (q_ixT (q_v 1) q_int)) (q_mulL (q_ixT (q_v 1) q_int) (q_ixT (q_v 0) q_int))))),?_⟩
 rw [show start ["_law_one","_law_other"] [.ref a,.ref b]=[some (.ref a),some (.ref b)] from rfl]
 walk_at "rd"
 simp only [ha,hb]
 walk_at "rd"
 refine⟨mulOk z1.1 (den_lt z2) (by decide),mulOk z2.1 (den_lt z1) (by decide),?_⟩
 simp only [lt_crossQ]
 exact q
def sp_lcopy(C:Addr):Sp:=λvs H Q _=>∃ (a:Addr) (xs:List V) (rs:List (Nat × Rat)),vs=[.ref a]/\H a=some (.lst xs)/\RoadsV H xs rs/\TreeOk rs/\rs.length<=20/\(∀ r∈rs,SzQ 110 r.2/\0<=r.2.num)/\∀ x H',Same H H'->TreeV C H' x rs->Q x H'
def ok_lcopy(F:Fun K "_law_copy" "_law_copy" s_law_copy f fd)(K_Tree:Mkr P w K mg base CX0 6 CT "Tree" ["self","roads"] (sp_init CT)):FnOk P w K mg base CX0 8 f fd ["_law_roads_here"] (sp_lcopy CT):=by
 refine okR F sc_law_copy λcdv A outer s H vs Q E hr h=>?_
 obtain⟨a,xs,rs,rfl,ha,hR,hT,hn,hz,q⟩:=h
 refine⟨_,(b_one (s_ret (q_make K_Tree hr (by decide) rfl (a_c (q_comp (blk0 ["_law_to","_law_price_here"]) (i_list (q_v 0)) (by exact λs H fp=>(g_tup (n:=2) (gs_cons (g_name 0 (show List.Nodup (["_law_to","_law_price_here"]:List Str) from by decide +kernel)) (gs_cons (g_name 1 (show List.Nodup (["_law_to","_law_price_here"]:List Str) from by decide +kernel)) gs_nil)))) (by exact λs H fp=>(q_tup (a_c (q_v 0) (a_c (q_v 1) a_nil))))) a_nil)))),?_⟩
 rw [show start ["_law_roads_here"] [.ref a]=[some (.ref a)] from rfl]
 walk_at "rd"
 simp only [tComp,iList,cxK]
 walk_at "rd"
 refine⟨⟨_,.of ha⟩,?_⟩
 rw [show capOf [some (V.ref a)] []=[] from rfl]
 refine blk_gen (as:=rs) RoadV (λ_ _ _ _ h s=>h.keep s) ha hR.1 (by rw [hR.1]; omega) (λi v r h1 h2 H' k os sm ho hk=>?_) (λp3 H3 ys hp3 s3 e3 hv=>?_)
 ·obtain⟨o1,o2,rfl⟩:∃ o1 o2,os=[o1,o2]:=by match os,ho with | [o1,o2],_=>exact⟨o1,o2,rfl⟩
  obtain⟨p,y,rfl,hp,hy⟩:=(hR.2 i _ _ h1 h2).same sm
  walk_at "rd"
  exact⟨_,hp,rfl,_,_,rfl,_,_,rfl,rfl,_,rfl,rfl,λp5 H5 hp5 s5 e5=>hk _ H5 s5 ⟨p5,y,rfl,e5,hy.same s5⟩⟩
 ·intro x dx hx hdx hne
  have sx:Same H3 (upd (upd H3 dx (HO.own x)) x (HO.ins CT dx [])):=same_upd hx (same_upd hdx λ_ _ z=>z)
  have hRv:RoadsV H3 ys rs:=hv
  refine⟨x,dx,p3,ys,rs,rfl,upd_same,sx _ _ e3,hRv.same sx,hT,by omega,λr hr=>(hz r hr).2,λH4 s4 hT4 _=>⟨rfl,q _ H4 (λb ob hb=>?_) hT4⟩⟩
  have hbx:b ≠ x:=λe=>by rw [e,s3.free hx] at hb; cases hb
  exact s4 b ob hbx (sx _ _ (s3 _ _ hb))
def sp_law(pt:Addr)(K:PySem.W.Frag):Sp:=λvs H Q _=>∃ (a:Addr) (ns:List Int),vs=[.ref a]/\SqL K H a (ns.map V.int)/\TabAt H pt "far_roads_first.<locals>.<lambda>"/\∀ H',Q (.bl true) H'
section
variable {rs:List (Nat × Rat)}{hf:Str->Nat}{cs:Nat->Int}{ss:List Str}{js js':List (List Str)}{B:Nat}{H H0 H0':Hp}{tl tl':Addr}{xs ys:List V}
end
def GrpsV(H0 H:Hp)(xs:List V)(gs:List (List Str)):Prop:=xs.length=gs.length/\∀ (i:Nat) (x:V) (g:List Str),xs[i]?=some x->gs[i]?=some g->∃ a,x=.ref a/\H0 a=none/\H a=some (.lst (strV g))
def GrpsA(acc:Addr)(H0 H:Hp)(xs:List V)(gs:List (List Str)):Prop:=xs.length=gs.length/\∀ (i:Nat) (x:V) (g:List Str),xs[i]?=some x->gs[i]?=some g->∃ a,x=.ref a/\a ≠ acc/\H0 a=none/\H a=some (.lst (strV g))
theorem GrpsA.v{acc:Addr}{H0 H:Hp}{gs:List (List Str)}(h:GrpsA acc H0 H xs gs):GrpsV H0 H xs gs:=⟨h.1,λi x g h1 h2=>let ⟨a,e,_,h3,h4⟩:=h.2 i x g h1 h2; ⟨a,e,h3,h4⟩⟩
theorem GrpsA.keep{acc:Addr}{H0 H H':Hp}{gs:List (List Str)}(h:GrpsA acc H0 H xs gs)(s:∀ b o,b ≠ acc->H b=some o->H' b=some o):GrpsA acc H0 H' xs gs:=⟨h.1,λi x g h1 h2=>let ⟨a,e,n,h3,h4⟩:=h.2 i x g h1 h2; ⟨a,e,n,h3,s _ _ n h4⟩⟩
theorem GrpsV.keep{H0 H H':Hp}{gs:List (List Str)}(h:GrpsV H0 H xs gs)(s:Same H H'):GrpsV H0 H' xs gs:=⟨h.1,λi x g h1 h2=>let ⟨a,e,h3,h4⟩:=h.2 i x g h1 h2; ⟨a,e,h3,s _ _ h4⟩⟩
theorem GrpsA.snoc{acc:Addr}{H0 H:Hp}{gs:List (List Str)}{c:Addr}{g:List Str}(h:GrpsA acc H0 H xs gs)(n:c ≠ acc)(h0:H0 c=none)(e:H c=some (.lst (strV g))):GrpsA acc H0 H (xs ++ [.ref c]) (gs ++ [g]):=by
 refine⟨by simp [h.1],λi x g' h1 h2=>?_⟩
 by_cases hi:i < xs.length
 ·rw [YC hi] at h1
  rw [YC (h.1 ▸ hi)] at h2
  exact h.2 i x g' h1 h2
 ·have hi':i=xs.length:=by have:=(List.getElem?_eq_some_iff.mp h1).1; simp at this; omega
  subst hi'
  rw [YA (Yd _)] at h1
  rw [h.1,YA (Yd _)] at h2
  simp at h1 h2
  subst h1 h2
  exact⟨c,rfl,n,h0,e⟩
theorem GrpsV.append{H0 H:Hp}{xs ys:List V}{gs hs:List (List Str)}(h:GrpsV H0 H xs gs)(h':GrpsV H0 H ys hs):GrpsV H0 H (xs ++ ys) (gs ++ hs):=by
 refine⟨by simp [h.1,h'.1],λi x g h1 h2=>?_⟩
 by_cases hi:i < xs.length
 ·rw [YC hi] at h1
  rw [YC (h.1 ▸ hi)] at h2
  exact h.2 i x g h1 h2
 ·rw [YA (by omega)] at h1
  rw [YA (by rw [<- h.1]; omega),<- h.1] at h2
  exact h'.2 _ x g h1 h2
theorem none_back{H H':Hp}{c:Addr}(s:Same H H')(h:H' c=none):H c=none:=by
 cases e:H c with
 | none=>rfl
 | some o=>rw [s _ _ e] at h; cases h
def blk_grp{nt:Nat}{cp:St}{g:TG}{tt:TT}{te:TE}{H0 H1:Hp}{Q:VK}(out:α->List Str)(kp:α->Bool){xs:List V}{as:List α}(ha:H1 a=some (.lst xs))(hlen:xs.length=as.length)(hl:xs.length < 1000)
  (ht:∀ (i:Nat) x b,xs[i]?=some x->as[i]?=some b->∀ H' (k:VK) (n:Hp->Prop) os,Same H1 H'->os.length=nt->(∀ c H2,(H' c=none\/∃ u,H1 c=some u)->H0 c=none->Same H' H2->H2 c=some (.lst (strV (out b)))->kp b=true->k (.ref c) H2)->(kp b=false->n H') ->
   g x (os ++ cp) H' λτ H3=>∃ os',os'.length=nt/\τ=os' ++ cp/\tt τ H3 λbb H4=>if bb=true then te τ H4 k else n H4)
  (q:∀ p H' ys,H1 p=none->Same H1 H'->H' p=some (.lst ys)->GrpsV H0 H' ys ((as.filter kp).map out)->Q (.ref p) H'):tBlkT nt cp (Itl K a) g tt te H1 Q:=by
 refine blk_list (xs:=xs) (λacc i ys H'=>Same H1 H'/\H' acc=some (.lst ys)/\GrpsA acc H0 H' ys (((as.take i).filter kp).map out)/\i<=as.length)
  (λacc H2 hn sm e=>⟨sm,e,⟨by simp,λi v r h1 h2=>by simp at h1⟩,Nat.zero_le _⟩) (λacc i ys H2 hn ⟨sm,e,e2,hi⟩=>⟨e,?_,.of (sm _ _ ha)⟩) (λacc i y ys H2 os hn hi hP ol=>?_) (λacc ys H2 hn hP=>?_)
 ·rw [e2.1,Yg]
  have:=Vi kp (as.take i)
  rw [YG] at this
  omega
 ·obtain⟨sm,e,e2,_⟩:=hP
  have hil:i < as.length:=by rw [<- hlen]; exact (Yf.mp hi).1
  have hb:=Yb hil
  refine ht i y _ hi hb H2 (λv H5=>H5 acc=some (.lst ys)/\(Same H1 (upd H5 acc (.lst (ys ++ [v])))/\upd H5 acc (.lst (ys ++ [v])) acc=some (.lst (ys ++ [v]))/\GrpsA acc H0 (upd H5 acc (.lst (ys ++ [v]))) (ys ++ [v]) (((as.take (i + 1)).filter kp).map out)/\i + 1<=as.length)) _ os sm ol (λc H3 hc h0 s3 ec hk=>?_) λhk=>?_
  ·have hne:c ≠ acc:=by
    rcases hc with hc | ⟨u,hc⟩
    ·exact λz=>by rw [z,e] at hc; cases hc
    ·exact λz=>by rw [z,hn] at hc; cases hc
   refine⟨s3 _ _ e,same_upd hn (sm.trans s3),upd_same,?_,hil⟩
   rw [Yy,hb]
   simp only [Option.toList_some,List.filter_append,List.map_append]
   rw [show [as[i]].filter kp=[as[i]] by simp [hk]]
   exact (e2.keep λb o hb' eb=>by rw [upd_ne hb']; exact s3 _ _ eb).snoc hne h0 (by rw [upd_ne hne]; exact ec)
  ·refine⟨sm,e,?_,hil⟩
   rw [Yy,hb]
   simp only [Option.toList_some,List.filter_append,List.map_append]
   rw [show [as[i]].filter kp=[] by simp [hk],List.map_nil,List.append_nil]
   exact e2
 ·obtain⟨sm,e,e2,_⟩:=hP
  rw [hlen,YJ] at e2
  exact q acc H2 ys hn sm e e2.v
def grps_one{H0 H:Hp}(h0:H0 a=none)(e:H a=some (.lst [])):GrpsV H0 H [.ref a] [[]]:=⟨rfl,λi x g h1 h2=>by
 match i with
 | 0=>cases h1; cases h2; exact⟨a,rfl,h0,e⟩
 | i + 1=>cases h1⟩
def subs_snoc{ts:List Str}{z:Str}(h:ts[i]?=some z):subs (ts.take (i + 1))=subs (ts.take i) ++ (subs (ts.take i)).map (· ++ [z]):=by
 unfold subs
 rw [Yy,h]
 simp only [Option.toList_some,List.foldl_append,List.foldl_cons,List.foldl_nil]
 rfl
def subs_len{l g:List Str}(h:g∈subs l):g.length<=l.length:=by
 have:=(fold_sub l [] [[]] (λg hg=>by rw [YB.mp hg]; exact List.Sublist.refl _) g h).length_le
 simpa using this
def sp_groups42:Sp:=λvs H Q _=>∃ (a:Addr) (ss:List Str),vs=[.ref a]/\H a=some (.lst (ss.map V.str))/\ss.length<=5/\∀ p H' xs,H p=none->Same H H'->H' p=some (.lst xs)->GrpsV H H' xs ((subs ss).drop 1)->Q (.ref p) H'
def Pg42(H0:Hp)(a:Addr)(ss:List Str)(i:Nat)(Z:St)(H:Hp):Prop:=∃ (l:Addr) (o:Option V) (xs:List V),Z=[some (.ref a),some (.ref l),o]/\Same H0 H/\H0 l=none/\H l=some (.lst xs)/\GrpsV H0 H xs (subs (ss.take i))
def cutV_drop:cutV xs (some (n:Int)) none=xs.drop n:=by
 unfold cutV
 rw [HT.sIx_none,HT.sIx_nat]
 by_cases h:n<=xs.length
 ·rw [Nat.min_eq_left h,List.take_of_length_le (by simp)]
 ·rw [Nat.min_eq_right (by omega),Nat.sub_self,List.take_zero,List.drop_of_length_le (by omega)]
def eqd_none{a b:Addr}(ha:H a=some (.lst xs))(hb:H b=some (.lst [])):EqD H (.ref a) (.ref b) (decide (xs.length=0)) 1:=by
 cases xs with
 | nil=>exact EqD.lst (e:=λ_=>true) (n:=0) ha hb rfl λj x y h1 h2=>by simp at h1
 | cons z xs=>exact EqD.lstNe (n:=0) ha hb (by simp)
def ok_groups(F:Fun K "_law_groups" "_law_groups" s_law_groups f fd):FnOk P w K mg base CX0 1 f fd ["_law_names_here"] sp_groups42:=by
 refine okR F sc_law_groups λcdv A outer s H vs Q E hr h=>?_
 obtain⟨a,ss,rfl,ha,h5,q⟩:=h
 refine⟨_,(b_cons (s_set 1 sc_law_groups.nd (q_lst (a_c (q_lst a_nil) a_nil)))
   (b_cons (s_for Ys (i_list (q_v 0)) (g_name 2 sc_law_groups.nd) (b_one (s_set 1 sc_law_groups.nd (q_cat (q_v 1) (q_comp (blkC ["_law_group"] [2] ["_law_name"]) (i_list (q_v 1)) (by exact λs H fp=>(g_name 0 (show List.Nodup (["_law_group","_law_name"]:List Str) from by decide +kernel))) (by exact λs H fp=>(q_cat (q_v 0) (q_lst (a_c (q_v 1) a_nil)))))))))
   (b_one (s_ret (q_cutRL (q_v 1) q_int))))),?_⟩
 rw [show start ["_law_names_here","_law_groups_here","_law_name"] [.ref a]=[some (.ref a),none,none] from rfl]
 refine seq_go λR0 hR0=>?_
 walk_at "rd"
 intro p0 H1 hp0 s1 e1 l H2 hl s2 e2
 subst hR0
 try dsimp only
 refine seq_go λR0 hR0=>?_
 rw [tFor_list]
 walk_at "rd"
 refine listK_of (xs:=ss.map V.str) (Pg42 H a ss) ⟨l,_,[.ref p0],rfl,s1.trans s2,none_back s1 hl,e2,grps_one hp0 (s2 _ _ e1)⟩ (λi Z H' _ ⟨_,_,_,_,sm',_⟩=>.of (sm' _ _ ha)) (λi y Z H4 hi hP=>?_) (λZ H4 hP=>?_)
 ·obtain⟨l,o4,xs4,rfl,s04,hl0,ep,hG⟩:=hP
  rw [Yj] at hi
  obtain⟨z,hz,rfl⟩:=Vh.mp hi
  have hil:i < ss.length:=(Yf.mp hz).1
  have hxl:xs4.length=2 ^ i:=by rw [hG.1,len_subs,YG]; congr 1; omega
  have hx64:xs4.length<=64:=by rw [hxl]; exact Yi (Vt (by decide) (show i<=6 by omega)) (by decide)
  walk_at "rd"
  simp only [tComp,iList,cxK]
  walk_at "rd"
  refine⟨⟨_,.of ep⟩,?_⟩
  rw [show capOf [some (V.ref a),some (V.ref l),some (V.str z)] [2]=[some (V.str z)] from rfl]
  unfold tBlk
  refine blk_grp (α:=List Str) (H0:=H) (· ++ [z]) (λ_=>true) ep hG.1 (by omega) (λi' x g hx hg H' k n os sm' ol hk hn=>?_) (λp2 H5 ys hp2 s5 e5 hY=>?_)
  ·obtain⟨b,rfl,hb0,hb⟩:=hG.2 i' x g hx hg
   match os,ol with
   | [o'],_ =>
    refine⟨[some (.ref b)],rfl,rfl,?_⟩
    show (if true=true then tOp rCat (tVar 0) (tLst2 (tCons (tVar 1) tNil)) [some (V.ref b),some (V.str z)] H' k else n H')
    rw [if_pos rfl]
    have hb':=sm' _ _ hb
    have hgl:g.length<=i:=by
     have:=subs_len (Yo hg)
     rw [YG] at this
     omega
    walk_at "rd"
    intro c1 H5 hc1 s5 e5
    refine⟨_,s5 _ _ hb',_,e5,by rw [sizeLine_eq,strV,List.length_map]; show g.length + 1<=_; omega,λc2 hc2=>hk c2 _ (.inl (none_back s5 hc2)) (none_back (s04.trans (sm'.trans s5)) hc2) (same_upd (none_back s5 hc2) s5) (by rw [upd_same]; simp [strV]) rfl⟩
  ·have ft:∀ l:List (List Str),l.filter (λ_=>true)=l:=λl=>List.filter_eq_self.mpr λ_ _=>rfl
   have hyl:ys.length=xs4.length:=by rw [hY.1,Yg,ft,hG.1]
   rw [ft] at hY
   refine⟨p2,rfl,_,s5 _ _ ep,_,e5,by rw [YT]; omega,λp6 hp6=>?_⟩
   have s6:Same H5 (upd H5 p6 (.lst (xs4 ++ ys))):=same_upd hp6 λ_ _ z=>z
   refine⟨p6,_,xs4 ++ ys,rfl,s04.trans (s5.trans s6),none_back (s04.trans s5) hp6,upd_same,?_⟩
   rw [subs_snoc hz]
   exact ((hG.keep s5).append hY).keep s6
 ·obtain⟨l,o4,xs4,rfl,s04,hl0,ep,hG⟩:=hP
  rw [Yg,YJ] at hG
  subst hR0
  try dsimp only
  walk_at "rd"
  simp only [rSlL,cxK]
  walk_at "rd"
  refine⟨_,.of ep,λp7 hp7=>?_⟩
  rw [show (1:Int)=((1:Nat):Int) from rfl,cutV_drop]
  have s7:Same H4 (upd H4 p7 (.lst (xs4.drop 1))):=same_upd hp7 λ_ _ z=>z
  refine q p7 _ (xs4.drop 1) (none_back s04 hp7) (s04.trans s7) upd_same ⟨by rw [List.length_drop,List.length_drop,hG.1],λi x g h1 h2=>?_⟩
  rw [List.getElem?_drop] at h1 h2
  exact (hG.keep s7).2 _ x g h1 h2
def sp_left:Sp:=λvs H Q _=>∃ (p d g a:Addr) (o:Obj) (xs:List V) (rs:List (Nat × Rat)) (ss A F:List Str) (hf:Str->Nat),vs=[.ref p,.ref d,.ref g,.ref a]/\H p=some (.lst xs)/\RoadsV H xs rs/\H d=some (.frz o (.dK (hmL ss hf)))/\Place rs hf ss/\(∀ r∈rs,SzQ 110 r.2/\0<=r.2.num)/\H g=some (.lst (A.map V.str))/\H a=some (.lst (F.map V.str))/\(∀ z∈A,z∈ss)/\(∀ z∈F,z∈ss)/\A.length<=12/\F.length<=12 /\
 ∀ r H',Same H H'->RatV H' r (frac (botL rs hf ss) (cst rs hf (csG rs hf (csT rs hf ss) F) A))->Q r H'
def ok_left(F:Fun K "_law_left" "_law_left" s_law_left f fd)(F_law_cost:Fn P w K mg base CX0 4 "_law_cost" ["_law_roads_here","_law_homes_here","_law_group"] sp_lcost)(F_law_less:Fn P w K mg base CX0 2 "_law_less" ["_law_one","_law_other"] sp_restL):FnOk P w K mg base CX0 5 f fd ["_law_roads_here","_law_homes_here","_law_group","_law_ahead"] sp_left:=by
 refine okR F sc_law_left λcdv A outer s H vs Q E hr h=>?_
 obtain⟨p,d,g,a,o,xs,rs,ss,A1,F1,hf,rfl,hp,hR,hd,hP,hz,hg,ha,hA,hF,hAl,hFl,q⟩:=h
 refine⟨_,(b_one (s_ret (qfn F_law_less hr (a_c (qfn F_law_cost hr (a_c (q_v 0) (a_c (q_v 1) (a_c (q_cat (q_v 3) (q_v 2)) a_nil)))) (a_c (qfn F_law_cost hr (a_c (q_v 0) (a_c (q_v 1) (a_c (q_v 3) a_nil)))) a_nil))))),?_⟩
 rw [show start ["_law_roads_here","_law_homes_here","_law_group","_law_ahead"] [.ref p,.ref d,.ref g,.ref a]=[some (.ref p),some (.ref d),some (.ref g),some (.ref a)] from rfl]
 have hz1:∀ r∈rs,SzQ 110 r.2:=λr hr=>(hz r hr).1
 obtain⟨hB0,hB1,hBd⟩:=bot_ok hP hz1
 have hcT:=csT_fine hP hz
 have hn:=hP.n
 walk_at "rd"
 refine⟨_,ha,_,hg,?_,λp1 hp1=>?_⟩
 ·rw [Yg,Yg]
  exact Yi (show _<=100 by omega) (by decide)
 have s1:Same H (upd H p1 (.lst (F1.map V.str ++ A1.map V.str))):=same_upd hp1 λ_ _ z=>z
 have e1:upd H p1 (.lst (F1.map V.str ++ A1.map V.str)) p1=some (.lst ((F1 ++ A1).map V.str)):=by rw [upd_same,YN]
 generalize upd H p1 (.lst (F1.map V.str ++ A1.map V.str))=H1 at s1 e1
 have hFA:∀ z∈F1 ++ A1,z∈ss:=λz hz=>(Yp.mp hz).elim (hF z) (hA z)
 have szc:∀ G,SzQ 3000 (frac (botL rs hf ss) (cst rs hf (csT rs hf ss) G)):=λG=>frac_sz hB0 (Yx hB1 (Nat.pow_lt_pow_right (by decide) (by decide))) (pow_mono (cst_small hn hcT).2 (by decide))
 refine⟨p,d,p1,xs,rs,_,_,(F1 ++ A1).map hf,rfl,s1 _ _ hp,hR.same s1,.inr ⟨_,s1 _ _ hd⟩,e1,hm_at hP.le _ hFA,hn,by rw [YE]; omega,hP.T,hz1,λr2 H2 acc s2 hnA hmA v2=>?_⟩
 rw [cost_frac hP hz1 hFA hnA hmA] at v2
 have s12:=s1.trans s2
 refine⟨p,d,a,xs,rs,_,_,F1.map hf,rfl,s12 _ _ hp,hR.same s12,.inr ⟨_,s12 _ _ hd⟩,s12 _ _ ha,hm_at hP.le _ hF,hn,by omega,hP.T,hz1,λr3 H3 acc' s3 hnB hmB v3=>?_⟩
 rw [cost_frac hP hz1 hF hnB hmB] at v3
 refine⟨r2,r3,_,_,rfl,v2.same s3,v3,szc _,szc _,λr4 H4 s4 v4=>q r4 H4 (s12.trans (s3.trans s4)) ?_⟩
 rw [frac_sub hB0,cst_append,show ∀ x y:Int,x + y - x=y by omega] at v4
 exact v4
def subs_sub{ss g:List Str}(h:g∈subs ss):g.Sublist ss:=by
 have:=fold_sub ss [] [[]] (λg hg=>by rw [YB.mp hg]; exact .refl _) g h
 simpa using this
theorem filt_subs(p:Str->Bool):∀ (l:List Str) (gs:List (List Str)) (g:List Str),g∈gs->g ++ l.filter p∈l.foldl stp gs
 | [],gs,g,h=>by simpa using h
 | x :: l,gs,g,h=>by
  rw [List.foldl_cons]
  by_cases c:p x=true
  ·rw [List.filter_cons_of_pos c,show g ++ x :: l.filter p=(g ++ [x]) ++ l.filter p by simp]
   exact filt_subs p l _ _ (Yq _ (Yk.mpr ⟨g,h,rfl⟩))
  ·rw [VT c]
   exact filt_subs p l _ _ (Y0 _ h)
def stp_head:∀ (l:List Str) (gs:List (List Str)),(∀ g∈gs,g ≠ [])->∃ hs,l.foldl stp ([] :: gs)=[] :: hs/\∀ g∈hs,g ≠ []
 | [],gs,h=>⟨gs,rfl,h⟩
 | x :: l,gs,h=>by
  rw [List.foldl_cons]
  have e:stp ([] :: gs) x=[] :: (gs ++ ([] :: gs).map (· ++ [x])):=rfl
  rw [e]
  refine stp_head l _ λg hg=>?_
  rcases Yp.mp hg with hg | hg
  ·exact h g hg
  ·obtain⟨g',_,rfl⟩:=Yk.mp hg
   simp
def subs_drop(l:List Str):∃ hs,subs l=[] :: hs/\∀ g∈hs,g ≠ []:=stp_head l [] λg hg=>by cases hg
theorem mem_drop1{l g:List Str}:g∈(subs l).drop 1 ↔ g∈subs l/\g ≠ []:=by
 obtain⟨hs,e,h⟩:=subs_drop l
 rw [e,List.drop_succ_cons,List.drop_zero,Yl]
 exact⟨λhg=>⟨.inr hg,h g hg⟩,λ⟨hg,hn⟩=>hg.resolve_left hn⟩
noncomputable def meanQ(rs:List (Nat × Rat))(hf:Str->Nat)(cs:Nat->Int)(B:Nat)(A:List Str):Rat:=Rat.divInt (cst rs hf cs A) ((B:Int) * A.length)
structure Best(rs:List (Nat × Rat))(hf:Str->Nat)(cs:Nat->Int)(B:Nat)(done:List (List Str))(b:Option Rat)(some':List Str):Prop where
 hnone:b=none->done=[]/\some'=[]
 hsome:∀ q,b=some q->(∃ A∈done,meanQ rs hf cs B A=q)/\(∀ A∈done,q<=meanQ rs hf cs B A)/\∀ z,z∈some' ↔ ∃ A∈done,meanQ rs hf cs B A=q/\z∈A
 nd:some'.Nodup
section
variable {rs:List (Nat × Rat)}{hf:Str->Nat}{cs:Nat->Int}{B:Nat}{done:List (List Str)}{b:Option Rat}{sm' A:List Str}
def Best.less(h:Best rs hf cs B done b sm')(hA:A.Nodup)(hlt:∀ q,b=some q->meanQ rs hf cs B A < q):Best rs hf cs B (done ++ [A]) (some (meanQ rs hf cs B A)) A:=by
 refine⟨(λe=>by cases e),λq e=>?_,hA⟩
 cases e
 have hle:∀ A'∈done,¬ meanQ rs hf cs B A'=meanQ rs hf cs B A/\meanQ rs hf cs B A<=meanQ rs hf cs B A':=λA' hA'=>by
  cases b with
  | none=>rw [(h.hnone rfl).1] at hA'; cases hA'
  | some q =>
   have h1:=(h.hsome q rfl).2.1 A' hA'
   have h2:=hlt q rfl
   refine⟨λe=>?_,Rat.le_trans (Rat.le_of_lt h2) h1⟩
   rw [e] at h1
   exact Rat.not_le.mpr h2 h1
 refine⟨⟨A,Yq _ (.head _),rfl⟩,λA' hA'=>?_,λz=>⟨λhz=>⟨A,Yq _ (.head _),rfl,hz⟩,?_⟩⟩
 ·rcases Yp.mp hA' with hA' | hA'
  ·exact (hle A' hA').2
  ·rw [YB.mp hA']; exact Rat.le_refl
 ·rintro⟨A',hA',e,hz⟩
  rcases Yp.mp hA' with hA' | hA'
  ·exact absurd e (hle A' hA').1
  ·rw [YB.mp hA'] at hz; exact hz
def Best.same(h:Best rs hf cs B done (some q) sm')(hA:A.Nodup)(e:meanQ rs hf cs B A=q):Best rs hf cs B (done ++ [A]) (some q) (sm' ++ A.filter λz=>!decide (z∈sm')):=by
 obtain⟨h1,h2,h3⟩:=h.hsome q rfl
 refine⟨(λe=>by cases e),λq' e'=>?_,Vn.mpr ⟨h.nd,hA.filter _,λa ha c hc e=>?_⟩⟩
 ·cases e'
  refine⟨let ⟨A',a1,a2⟩:=h1; ⟨A',Y0 _ a1,a2⟩,λA' hA'=>?_,λz=>?_⟩
  ·rcases Yp.mp hA' with hA' | hA'
   ·exact h2 A' hA'
   ·rw [YB.mp hA',e]; exact Rat.le_refl
  ·rw [Yp,Yz]
   constructor
   ·rintro (hz | ⟨a1,_⟩)
    ·obtain⟨A',a1,a2⟩:=(h3 z).mp hz
     exact⟨A',Y0 _ a1,a2⟩
    ·exact⟨A,Yq _ (.head _),e,a1⟩
   ·rintro⟨A',a1,a2,a3⟩
    rcases Yp.mp a1 with a1 | a1
    ·exact .inl ((h3 z).mpr ⟨A',a1,a2,a3⟩)
    ·rw [YB.mp a1] at a3
     by_cases c:z∈sm'
     ·exact .inl c
     ·exact .inr ⟨a3,by simpa using c⟩
 ·subst e
  have:=(Yz.mp hc).2
  simp at this
  exact this ha
def Best.more(h:Best rs hf cs B done (some q) sm')(h1:¬ meanQ rs hf cs B A < q)(h2:¬ meanQ rs hf cs B A=q):Best rs hf cs B (done ++ [A]) (some q) sm':=by
 obtain⟨g1,g2,g3⟩:=h.hsome q rfl
 refine⟨(λe=>by cases e),λq' e'=>?_,h.nd⟩
 cases e'
 refine⟨let ⟨A',a1,a2⟩:=g1; ⟨A',Y0 _ a1,a2⟩,λA' hA'=>?_,λz=>(g3 z).trans ⟨λ⟨A',a1,a2⟩=>⟨A',Y0 _ a1,a2⟩,?_⟩⟩
 ·rcases Yp.mp hA' with hA' | hA'
  ·exact g2 A' hA'
  ·rw [YB.mp hA']; exact Rat.not_lt.mp h1
 ·rintro⟨A',a1,a2,a3⟩
  rcases Yp.mp a1 with a1 | a1
  ·exact⟨A',a1,a2,a3⟩
  ·rw [YB.mp a1] at a2; exact absurd a2 h2
def Best.all{ss J L:List Str}(hB0:0 < B)(hC:Cheap rs hf cs ss J)(hL:L.Nodup)(hm:∀ z,z∈L ↔ z∈ss)(h:Best rs hf cs B ((subs L).drop 1) b sm'):b=some (meanQ rs hf cs B J)/\sm'.Perm J:=by
 have le_iff:∀ A:List Str,A ≠ []->A.Nodup->(∀ z∈A,z∈ss)->meanQ rs hf cs B J<=meanQ rs hf cs B A/\(meanQ rs hf cs B A=meanQ rs hf cs B J->∀ z∈A,z∈J):=λA hA0 hAn hAs=>by
  obtain⟨l1,l2⟩:=hC.least A hAn hAs
  have pA:=List.length_pos_iff.mpr hA0
  have pJ:=List.length_pos_iff.mpr hC.ne
  have bA:0 < (B:Int) * A.length:=Int.mul_pos (by omega) (by omega)
  have bJ:0 < (B:Int) * J.length:=Int.mul_pos (by omega) (by omega)
  unfold meanQ
  have e1:cst rs hf cs J * ((B:Int) * A.length)=(B:Int) * (cst rs hf cs J * A.length):=by rw [Int.mul_left_comm]
  have e2:cst rs hf cs A * ((B:Int) * J.length)=(B:Int) * (J.length * cst rs hf cs A):=by rw [Int.mul_left_comm,Int.mul_comm (cst rs hf cs A)]
  refine⟨?_,λe=>l2 ?_⟩
  ·rw [Rat.le_iff_sub_nonneg,Rat.divInt_sub_divInt _ _ (Int.ne_of_gt bA) (Int.ne_of_gt bJ),Rat.divInt_nonneg_iff_of_pos_right (Int.mul_pos bA bJ),e1,e2]
   have:=Int.mul_le_mul_of_nonneg_left l1 (show (0:Int)<=(B:Int) by omega)
   omega
  ·rw [Rat.divInt_eq_divInt_iff (Int.ne_of_gt bA) (Int.ne_of_gt bJ),e1,e2] at e
   exact (Int.eq_of_mul_eq_mul_left (by omega) e).symm
 have hJm:(L.filter λz=>decide (z∈J))∈(subs L).drop 1:=mem_drop1.mpr ⟨by have:=filt_subs (λz=>decide (z∈J)) L [[]] [] (.head _); simpa [subs] using this,λc=>by
  obtain⟨z,hz⟩:=List.exists_mem_of_ne_nil _ hC.ne
  have:z∈L.filter λz=>decide (z∈J):=List.mem_filter.mpr ⟨(hm z).mpr (hC.sub z hz),by simpa using hz⟩
  rw [c] at this
  cases this⟩
 have hJp:(L.filter λz=>decide (z∈J)).Perm J:=(List.perm_ext_iff_of_nodup (hL.filter _) hC.nd).mpr λz=>by
  rw [Yz,hm z]
  simp
  exact hC.sub z
 have hJe:meanQ rs hf cs B (L.filter λz=>decide (z∈J))=meanQ rs hf cs B J:=by
  unfold meanQ cst
  rw [hJp.length_eq,cst_mem λz=>hJp.mem_iff]
 have hg:∀ A∈(subs L).drop 1,A ≠ []/\A.Nodup/\∀ z∈A,z∈ss:=λA hA=>by
  obtain⟨a1,a2⟩:=mem_drop1.mp hA
  exact⟨a2,(subs_sub a1).nodup hL,λz hz=>(hm z).mp ((subs_sub a1).subset hz)⟩
 cases b with
 | none =>
  rw [(h.hnone rfl).1] at hJm
  cases hJm
 | some q =>
  obtain⟨⟨A,a1,a2⟩,g2,g3⟩:=h.hsome q rfl
  obtain⟨b1,b2,b3⟩:=hg A a1
  have hq:q=meanQ rs hf cs B J:=Rat.le_antisymm (by rw [<- hJe]; exact g2 _ hJm) (by rw [<- a2]; exact (le_iff A b1 b2 b3).1)
  subst hq
  refine⟨rfl,(List.perm_ext_iff_of_nodup h.nd hC.nd).mpr λz=>?_⟩
  rw [g3 z]
  constructor
  ·rintro⟨A',c1,c2,c3⟩
   obtain⟨d1,d2,d3⟩:=hg A' c1
   exact (le_iff A' d1 d2 d3).2 c2 z c3
  ·intro hz
   exact⟨_,hJm,hJe,List.mem_filter.mpr ⟨(hm z).mpr (hC.sub z hz),by simpa using hz⟩⟩
end
section
variable {rs:List (Nat × Rat)}{hf:Str->Nat}{cs:Nat->Int}{js:List (List Str)}{B:Nat}{H H0 H0':Hp}{tl tl':Addr}{xs ys:List V}
def told_eq{a b:Addr}(h:ToldV rs hf cs B H0 H tl xs js)(h':ToldV rs hf cs B H0' H tl' ys js)(ha:H a=some (.lst xs))(hb:H b=some (.lst ys)):EqD H (.ref a) (.ref b) true 3:=by
 have hh:=EqD.lst (e:=λ_=>true) (n:=2) ha hb (h.1.trans h'.1.symm) λj x y h1 h2=>by
  obtain⟨t,g,v,rfl,e1,e2,_,_,r⟩:=h.2 j x h1
  obtain⟨t',g',v',rfl,e1',e2',_,_,r'⟩:=h'.2 j y h2
  obtain⟨p,c,rfl,rfl,hr⟩:=eqd_rat r r'
  have:=EqD.tup (e:=λ_=>true) (n:=1) e1 e1' λj x y h1 h2=>by
   match j,h1,h2 with
   | 0,h1,h2=>cases h1; cases h2; exact eqd_strs e2 e2'
   | 1,h1,h2=>cases h1; cases h2; exact hr
   | j + 2,h1,h2=>simp at h1
  rw [all_range λ_ _=>rfl] at this
  exact this
 rw [all_range λ_ _=>rfl] at hh
 exact hh
end
def eqd_ratD{x y:V}{p q:Rat}(hx:RatV H x p)(hy:RatV H y q):∃ a c,x=.ref a/\y=.ref c/\EqD H x y (decide (p=q)) 1:=by
 obtain⟨a,rfl,ha⟩:=hx
 obtain⟨c,rfl,hc⟩:=hy
 refine⟨a,c,rfl,rfl,?_⟩
 have h:=EqD.tup (e:=λj=>if j=0 then decide (p.num=q.num) else decide ((p.den:Int)=(q.den:Int))) (n:=0) ha hc λj x y h1 h2=>by
  match j,h1,h2 with
  | 0,h1,h2=>cases h1; cases h2; exact .flat rfl rfl
  | 1,h1,h2=>cases h1; cases h2; exact .flat rfl rfl
  | j + 2,h1,h2=>simp at h1
 have e:((List.range (min [V.int p.num,V.int (p.den:Int)].length [V.int q.num,V.int (q.den:Int)].length)).all λj=>if j=0 then decide (p.num=q.num) else decide ((p.den:Int)=(q.den:Int)))=decide (p=q):=by
  rw [Vc,Y7]
  show ([0,1].all _)=true ↔ _
  simp
  constructor
  ·rintro⟨h1,h2⟩
   exact Rat.ext h1 (by omega)
  ·rintro rfl
   exact⟨rfl,rfl⟩
 rw [e] at h
 simpa using h
def csG_srt{F:List Str}:csG rs hf cs (srt F)=csG rs hf cs F:=by
 funext k
 unfold csG
 rw [cst_mem λz=>(srt_perm F).mem_iff]
def mean_low{B:Nat}{m:Int}(hB:0 < B)(hn:0 < n):Rat.divInt (frac B m).num (((frac B m).den:Int) * (n:Int))=Rat.divInt m ((B:Int) * (n:Int)):=by
 have hd:=(frac B m).den_pos
 have e:Rat.divInt (frac B m).num ((frac B m).den:Int)=Rat.divInt m (B:Int):=Vv _
 rw [Rat.divInt_eq_divInt_iff (by omega) (by omega)] at e
 rw [Rat.divInt_eq_divInt_iff (Int.ne_of_gt (Int.mul_pos (by omega) (by omega))) (Int.ne_of_gt (Int.mul_pos (by omega) (by omega))),<- Int.mul_assoc,e,Int.mul_assoc]
def sp_due:Sp:=λvs H Q _=>∃ (p d:Addr) (o:Obj) (xs:List V) (rs:List (Nat × Rat)) (ss:List Str) (hf:Str->Nat) (js:List (List Str)),vs=[.ref p,.ref d]/\H p=some (.lst xs)/\RoadsV H xs rs/\H d=some (.frz o (.dK (hmL ss hf)))/\Place rs hf ss/\(∀ r∈rs,SzQ 110 r.2/\0<=r.2.num)/\ss.length<=5/\ChainOk rs hf (csT rs hf ss) ss js/\(∀ z∈ss,z∈js.flatten) /\
 ∀ q H' xs',H q=none->Same H H'->H' q=some (.lst xs')->ToldV rs hf (csT rs hf ss) (botL rs hf ss) H H' q xs' js->Q (.ref q) H'
def Pdu(H0:Hp)(p d fo:Addr)(rs:List (Nat × Rat))(hf:Str->Nat)(ss:List Str)(js:List (List Str))(Z:St)(H:Hp):Prop:=∃ (i:Nat) (a l:Addr) (o5 o6 o7 o8 o9:Option V) (xs:List V) (L:List Str),Z=[some (.ref p),some (.ref d),some (.ref a),some (.ref fo),some (.ref l),o5,o6,o7,o8,o9]/\Same H0 H/\i<=js.length/\a ≠ fo/\l ≠ fo/\H a=some (.lst ((srt (flatN js i)).map V.str))/\H fo=some (.lst xs)/\ToldV rs hf (csT rs hf ss) (botL rs hf ss) H0 H fo xs (js.take i)/\H l=some (.lst (L.map V.str))/\L.Nodup/\∀ z,z∈L ↔ z∈restG ss (flatN js i)
def muD(Z:St)(H:Hp):Nat:=match Z[4]? with
 | some (some (V.ref g))=>(match H g with | some (.lst xs)=>xs.length | _=>0)
 | _=>0
theorem muD_at{g:Addr}(h:Z[4]?=some (some (.ref g)))(hg:H g=some (.lst xs)):muD Z H=xs.length:=by unfold muD; rw [h]; dsimp only; rw [hg]
def Pin(H5:Hp)(p d a fo l:Addr)(rs:List (Nat × Rat))(hf:Str->Nat)(cs:Nat->Int)(B:Nat)(L:List Str)(j:Nat)(Z:St)(H:Hp):Prop:=∃ (bv:V) (b:Option Rat) (sp:Addr) (S:List Str) (o7 o8 o9:Option V),Z=[some (.ref p),some (.ref d),some (.ref a),some (.ref fo),some (.ref l),some bv,some (.ref sp),o7,o8,o9]/\Same H5 H/\sp ≠ fo/\H sp=some (.lst (S.map V.str))/\(b=none->bv=.non)/\(∀ q,b=some q->RatV H bv q/\SzQ 3000 q)/\Best rs hf cs B (((subs L).drop 1).take j) b S
def ok_due(F:Fun K "_law_due" "_law_due" s_law_due f fd)(n_sorted:mg "sorted"=none)(n_len:mg "len"=none)(n_list:mg "list"=none)(F_law_groups:Fn P w K mg base CX0 1 "_law_groups" ["_law_names_here"] sp_groups42)(F_law_left:Fn P w K mg base CX0 5 "_law_left" ["_law_roads_here","_law_homes_here","_law_group","_law_ahead"] sp_left)(F_law_low:Fn P w K mg base CX0 1 "_law_low" ["_law_top","_law_bottom"] sp_lowQ)(F_law_under:Fn P w K mg base CX0 1 "_law_under" ["_law_one","_law_other"] sp_lunder):FnOk P w K mg base CX0 6 f fd ["_law_roads_here","_law_homes_here"] sp_due:=by
 refine okR F sc_law_due λcdv A outer s H vs Q E hr h=>?_
 obtain⟨p,d,o,xr,rs,ss,hf,js,rfl,hp,hR,hd,hP,hz,h5,hCh,hcov,q⟩:=h
 refine⟨_,(b_cons (s_set 2 sc_law_due.nd (q_lst a_nil))
   (b_cons (s_set 3 sc_law_due.nd (q_lst a_nil))
   (b_cons (s_set 4 sc_law_due.nd (q_sortD rfl n_sorted (a_c (q_v 1) a_nil)))
   (b_cons (s_while Ys (t_neD hr (q_v 4) (q_lst a_nil)) (b_cons (s_set 5 sc_law_due.nd q_non)
   (b_cons (s_set 6 sc_law_due.nd (q_lst a_nil))
   (b_cons (s_for Ys (i_list (qfn F_law_groups hr (a_c (q_v 4) a_nil))) (g_name 7 sc_law_due.nd) (b_cons (s_set 8 sc_law_due.nd (qfn F_law_left hr (a_c (q_v 0) (a_c (q_v 1) (a_c (q_v 7) (a_c (q_v 2) a_nil))))))
   (b_cons (s_set 9 sc_law_due.nd (qfn F_law_low hr (a_c (q_ixT (q_v 8) q_int) (a_c (q_mulL (q_ixT (q_v 8) q_int) (q_len rfl n_len (a_c (q_v 7) a_nil))) a_nil))))
   (b_one (s_if (t_w (w_or (t_isN (q_v 5) q_non) (w_or1 (t_val (qfn F_law_under hr (a_c (q_v 9) (a_c (q_v 5) a_nil))))))) (b_cons (s_set 5 sc_law_due.nd (q_v 9))
   (b_one (s_set 6 sc_law_due.nd (q_list rfl n_list (a_c (q_v 7) a_nil))))) (b_one (s_if (t_eqD hr (q_v 9) (q_v 5)) (b_one (s_set 6 sc_law_due.nd (q_cat (q_v 6) (q_compT (blkC ["_law_name"] [6] ["_law_some"]) (i_list (q_v 7)) (by exact λs H fp=>(g_name 0 (show List.Nodup (["_law_name","_law_some"]:List Str) from by decide +kernel))) (by exact λs H fp=>ts_one (t_ninLK K (q_v 0) (q_v 1))) (by exact λs H fp=>(q_v 0)))))) b_nil)))))))
   (b_cons (s_set 2 sc_law_due.nd (q_sortStr rfl n_sorted (a_c (q_cat (q_v 2) (q_v 6)) a_nil)))
   (b_cons (s_expr (q_app (q_v 3) (a_c (q_tup (a_c (q_list rfl n_list (a_c (q_v 2) a_nil)) (a_c (q_v 5) a_nil))) a_nil)))
   (b_one (s_setCompT 4 (blkC ["_law_name"] [6] ["_law_some"]) (i_list (q_v 4)) (by exact λs H fp=>(g_name 0 (show List.Nodup (["_law_name","_law_some"]:List Str) from by decide +kernel))) (by exact λs H fp=>ts_one (t_ninLK K (q_v 0) (q_v 1))) (by exact λs H fp=>(q_v 0)) (g_name 4 sc_law_due.nd)))))))))
   (b_one (s_ret (q_v 3))))))),?_⟩
 rw [show start ["_law_roads_here","_law_homes_here","_law_ahead","_law_found","_law_left_here","_law_best","_law_some","_law_group","_law_price_here","_law_mean"] [.ref p,.ref d]=[some (.ref p),some (.ref d),none,none,none,none,none,none,none,none] from rfl]
 have hz1:∀ r∈rs,SzQ 110 r.2:=λr hr=>(hz r hr).1
 obtain⟨hB0,hB1,hBd⟩:=bot_ok hP hz1
 have hcT:=csT_fine hP hz
 have hn:=hP.n
 walk_at "rd"
 intro a H1 ha s1 e1 fo H2 hfo s2 e2
 refine⟨_,.inr ⟨_,(s1.trans s2) _ _ hd⟩,ss,hm_keys,by omega,λl H3 ts hl s3 e3 hpw hpm=>?_⟩
 have hfo0:H fo=none:=s1.free hfo
 refine while_w (Pdu H p d fo rs hf ss js) muD ⟨0,a,l,_,_,_,_,_,[],ts,rfl,s1.trans (s2.trans s3),Nat.zero_le _,ne_of_none e1 hfo,(ne_of_none e2 hl).symm,by rw [show flatN js 0=[] by simp [flatN],srt_nil]; exact (s2.trans s3) _ _ e1,s3 _ _ e2,⟨rfl,λi x h=>by simp at h⟩,e3,hpm.symm.nodup hP.nd,λz=>by rw [hpm.mem_iff,mem_rest]; simp [flatN]⟩ ?_
 rintro Z H4 ⟨i,a,l,o5,o6,o7,o8,o9,xs,L,rfl,s4,hij,haf,hlf,ea,ef,hTo,el,hLn,hLm⟩
 walk_at "rd"
 intro pn H5 hpn s5 e5
 refine⟨decide ((L.map V.str).length=0),1,l,pn,rfl,rfl,eqd_none (s5 _ _ el) e5,by decide,_,rfl,?_⟩
 by_cases hL0:L=[]
 ·subst hL0
  rw [if_neg (by decide)]
  walk_at "rd"
  have hi:i=js.length:=Nat.le_antisymm hij (Nat.le_of_not_lt λc=>by
   have hC:=(hCh i _ (Yb c)).2
   obtain⟨z,hz⟩:=List.exists_mem_of_ne_nil _ hC.ne
   cases (hLm z).mpr (hC.sub z hz))
  subst hi
  rw [YJ] at hTo
  exact q fo H5 xs hfo0 (s4.trans s5) (s5 _ _ ef) (hTo.keep (λb ys e=>s5 _ _ e) λb ys _ e=>s5 _ _ e)
 ·have hLl:L.length<=5:=Yi (YH hLn λz hz=>(mem_rest.mp ((hLm z).mp hz)).1) h5
  have hL1:=List.length_pos_iff.mpr hL0
  rw [if_pos (by rw [List.length_map]; simp [hL0])]
  have hi:i < js.length:=Nat.lt_of_not_le λc=>by
   obtain⟨z,hz⟩:=List.exists_mem_of_ne_nil _ hL0
   obtain⟨z1,z2⟩:=mem_rest.mp ((hLm z).mp hz)
   refine z2 ?_
   rw [show i=js.length by omega,flat_len]
   exact hcov z z1
  have hJ:=Yb hi
  obtain⟨_,hC⟩:=hCh i _ hJ
  obtain⟨fn0,fs0⟩:=hCh.flat i hij
  obtain⟨fn1,fs1⟩:=hCh.flat (i + 1) hi
  have hf0l:=Yi (YH fn0 fs0) h5
  have hf1l:=Yi (YH fn1 fs1) h5
  have s45:=s4.trans s5
  refine⟨λZ' H'=>muD Z' H' < L.length/\Pdu H p d fo rs hf ss js Z' H',λZ' H' hN=>⟨_,by rw [muD_at rfl el,Yg]; exact hN.1,rfl,hN.2⟩,?_⟩
  intro sp H6 hsp s6 e6
  rw [tFor_list]
  walk_at "rd"
  have s46:=s45.trans s6
  refine⟨l,L,rfl,(s5.trans s6) _ _ el,hLl,λpg H7 xg hpg s7 e7 hG=>?_⟩
  have S7:=s46.trans s7
  have hgl:((subs L).drop 1).length<=32:=by rw [List.length_drop,len_subs]; have:=Vt (show 0 < 2 by decide) hLl; omega
  refine listK_of (xs:=xg) (Pin H7 p d a fo l rs hf (csG rs hf (csT rs hf ss) (flatN js i)) (botL rs hf ss) L) ⟨.non,none,sp,[],_,_,_,rfl,λ_ _ z=>z,(ne_of_none (s5 _ _ ef) hsp).symm,s7 _ _ e6,λ_=>rfl,λq e=>(by cases e),⟨λ_=>⟨by simp,rfl⟩,(λq e=>by cases e),List.nodup_nil⟩⟩ (λj Z H' _ ⟨_,_,_,_,_,_,_,_,sm,_⟩=>.of (sm _ _ e7)) (λj y Z H8 hj hPv=>?_) (λZ H8 hPv=>?_)
  ·obtain⟨bv,b,sp,S,o7,o8,o9,rfl,s8,hsf,es,hb0,hb1,hBe⟩:=hPv
   have hjg:j < ((subs L).drop 1).length:=by rw [<- hG.1]; exact (Yf.mp hj).1
   have hgj:=Yb hjg
   obtain⟨g,rfl,_,eg⟩:=hG.2 j y _ hj hgj
   generalize ((subs L).drop 1)[j]=A at hgj eg
   obtain⟨hA1,hA0⟩:=mem_drop1.mp (Yo hgj)
   have hAs:=subs_sub hA1
   have hAn:A.Nodup:=hAs.nodup hLn
   have hAL:∀ z∈A,z∈ss:=λz hz=>(mem_rest.mp ((hLm z).mp (hAs.subset hz))).1
   have hAl:A.length<=5:=Yi hAs.length_le hLl
   have eg8:H8 g=some (.lst (A.map V.str)):=s8 _ _ eg
   have S8:=S7.trans s8
   have T8:=(s5.trans s6).trans (s7.trans s8)
   refine seq_go λR1 hR1=>?_
   walk_at "rd"
   refine⟨p,d,g,a,o,xr,rs,ss,A,srt (flatN js i),hf,rfl,S8 _ _ hp,hR.same S8,S8 _ _ hd,hP,hz,eg8,T8 _ _ ea,hAL,λz hz=>fs0 z ((srt_perm _).mem_iff.mp hz),by omega,by rw [(srt_perm _).length_eq]; omega,λr9 H9 s9 v9=>?_⟩
   rw [csG_srt] at v9
   obtain⟨pr,rfl,hpr⟩:=v9
   have hcG:Fine (csG rs hf (csT rs hf ss) (flatN js i)):=csG_fine hcT _
   have szf:SzQ 3000 (frac (botL rs hf ss) (cst rs hf (csG rs hf (csT rs hf ss) (flatN js i)) A)):=frac_sz hB0 (Yx hB1 (Nat.pow_lt_pow_right (by decide) (by decide))) (pow_mono (cst_small hn hcG).2 (by decide))
   have hAp:=List.length_pos_iff.mpr hA0
   have hdp:=(frac (botL rs hf ss) (cst rs hf (csG rs hf (csT rs hf ss) (flatN js i)) A)).den_pos
   subst hR1
   try dsimp only
   refine seq_go λR1 hR1=>?_
   walk_at "rd"
   simp only [sp_lowQ]
   walk_at "rd"
   refine⟨_,hpr,_,rfl,_,hpr,_,rfl,_,.inl (s9 _ _ eg8),?_⟩
   rw [Yg]
   have hAz:((A.length:Nat):Int).natAbs < 2 ^ 40:=by omega
   refine⟨_,rfl,mulOk (den_lt szf) hAz (by decide),_,rfl,Big.of (mul_lt_pow (den_lt szf) hAz) (by decide),Int.mul_pos (by omega) (by omega),λmv H10 s10 v10=>?_⟩
   rw [mean_low hB0 hAp] at v10
   have vm:RatV H10 mv (meanQ rs hf (csG rs hf (csT rs hf ss) (flatN js i)) (botL rs hf ss) A):=v10
   have szm:SzQ 3000 (meanQ rs hf (csG rs hf (csT rs hf ss) (flatN js i)) (botL rs hf ss) A):=by
    have hb:0 < (botL rs hf ss:Int) * (A.length:Int):=Int.mul_pos (by omega) (by omega)
    have hBs:((botL rs hf ss:Nat):Int).natAbs < 2 ^ 2201:=by rw [VE]; exact Yx hB1 (Nat.pow_lt_pow_right (by decide) (by decide))
    exact SzQ.of (Int.ne_of_gt hb) (pow_mono (cst_small hn hcG).2 (by decide)) (pow_mono (mul_lt_pow hBs hAz) (by decide))
   have S10:=s9.trans s10
   have es10:=S10 _ _ es
   have eg10:=S10 _ _ eg8
   have tkA:((subs L).drop 1).take (j + 1)=((subs L).drop 1).take j ++ [A]:=by rw [Yy,hgj]; rfl
   subst hR1
   try dsimp only
   refine if_go λA0 hA0 C0 hC0=>?_
   have yes:∀ H11,Same H10 H11->(∀ q,b=some q->meanQ rs hf (csG rs hf (csT rs hf ss) (flatN js i)) (botL rs hf ss) A < q)->A0 [some (V.ref p),some (V.ref d),some (V.ref a),some (V.ref fo),some (V.ref l),some bv,some (V.ref sp),some (V.ref g),some (V.ref pr),some mv] H11:=λH11 s11 hlt=>by
    subst hA0
    walk_at "rd"
    simp only [rList]
    walk_at "rd"
    refine⟨_,.inl (.of (s11 _ _ eg10)),λl12 H12 hl12 s12 e12=>?_⟩
    exact⟨mv,some (meanQ rs hf (csG rs hf (csT rs hf ss) (flatN js i)) (botL rs hf ss) A),l12,A,_,_,_,rfl,s8.trans (S10.trans (s11.trans s12)),(ne_of_none ((T8.trans (S10.trans s11)) _ _ ef) hl12).symm,e12,(λe=>by cases e),(λq e=>by cases e; exact⟨vm.same (s11.trans s12),szm⟩),by rw [tkA]; exact hBe.less hAn hlt⟩
   walk_at "rd"
   cases b with
   | none =>
    have:=hb0 rfl
    subst this
    rw [if_pos rfl]
    exact yes H10 (λ_ _ z=>z) λq e=>(by cases e)
   | some q =>
    obtain⟨hbq,szb⟩:=hb1 q rfl
    have hbn:bv ≠ .non:=by obtain⟨_,rfl,_⟩:=hbq; exact nofun
    rw [if_neg hbn]
    refine⟨mv,bv,_,_,rfl,vm,hbq.same S10,szm,szb,_,rfl,?_⟩
    by_cases hlt:meanQ rs hf (csG rs hf (csT rs hf ss) (flatN js i)) (botL rs hf ss) A < q
    ·rw [YX hlt,if_pos rfl]
     exact yes H10 (λ_ _ z=>z) λq' e=>(by cases e; exact hlt)
    ·rw [YQ hlt,if_neg (by decide)]
     subst hC0
     refine if_go λA1 hA1 C1 hC1=>?_
     walk_at "rd"
     obtain⟨q1,q2,e1',e2',heq⟩:=eqd_ratD vm (hbq.same S10)
     refine⟨_,1,q1,q2,e1',e2',heq,by decide,_,rfl,?_⟩
     by_cases hme:meanQ rs hf (csG rs hf (csT rs hf ss) (flatN js i)) (botL rs hf ss) A=q
     ·rw [YX hme,if_pos rfl]
      subst hA1
      walk_at "rd"
      simp only [tCompT,iList,cxK]
      walk_at "rd"
      refine⟨⟨_,.of eg10⟩,?_⟩
      rw [show capOf [some (V.ref p),some (V.ref d),some (V.ref a),some (V.ref fo),some (V.ref l),some bv,some (V.ref sp),some (V.ref g),some (V.ref pr),some mv] [6]=[some (V.ref sp)] from rfl]
      have hSl:S.length<=5:=by
       refine Yi (YH hBe.nd λz hz=>?_) h5
       obtain⟨A',a1,_,a3⟩:=((hBe.hsome q rfl).2.2 z).mp hz
       exact (mem_rest.mp ((hLm z).mp ((subs_sub (mem_drop1.mp (List.mem_of_mem_take a1)).1).subset a3))).1
      refine blk_pick (λz=>!decide (z∈S)) eg10 (by omega) (λz H' k sm hk=>?_) (λp11 H11 hp11 s11 e11=>?_)
      ·walk_at "rd"
       simp only [rIn]
       walk_at "rd"
       refine⟨_,.inl (.of (sm _ _ es10)),rfl,flat_strs _,?_⟩
       rw [inV_str]
       exact hk
      ·have hfl:=Vi (λz=>!decide (z∈S)) A
       refine⟨p11,rfl,_,s11 _ _ es10,_,e11,?_,λp12 hp12=>?_⟩
       ·rw [Yg,Yg]
        exact Yi (show _<=100 by omega) (by decide)
       have s12:Same H11 (upd H11 p12 (.lst (S.map V.str ++ (A.filter λz=>!decide (z∈S)).map V.str))):=same_upd hp12 λ_ _ z=>z
       exact⟨bv,some q,p12,_,_,_,_,rfl,s8.trans (S10.trans (s11.trans s12)),(ne_of_none ((T8.trans (S10.trans s11)) _ _ ef) hp12).symm,by rw [upd_same,<- YN],(λe=>by cases e),(λq' e=>by cases e; exact⟨hbq.same (S10.trans (s11.trans s12)),szb⟩),by rw [tkA]; exact hBe.same hAn hme⟩
     ·rw [YQ hme,if_neg (by decide)]
      subst hC1
      walk_at "rd"
      exact⟨bv,some q,sp,S,_,_,_,rfl,s8.trans S10,hsf,es10,(λe=>by cases e),(λq' e=>by cases e; exact⟨hbq.same S10,szb⟩),by rw [tkA]; exact hBe.more hlt hme⟩
  ·obtain⟨bv,b,sp,S,o7,o8,o9,rfl,s8,hsf,es,hb0,hb1,hBe⟩:=hPv
   rw [hG.1,YJ] at hBe
   obtain⟨rfl,hSJ⟩:=hBe.all hB0 hC hLn hLm
   obtain⟨hbq,szb⟩:=hb1 _ rfl
   have T8:=(s5.trans s6).trans (s7.trans s8)
   have S8:=s4.trans T8
   have hJl:js[i].length<=5:=Yi (YH hC.nd λz hz=>(mem_rest.mp (hC.sub z hz)).1) h5
   have hSl:S.length=js[i].length:=hSJ.length_eq
   have hF0:(srt (flatN js i)).length=(flatN js i).length:=(srt_perm _).length_eq
   walk_at "rd"
   refine⟨_,T8 _ _ ea,_,es,?_,λp9 hp9=>?_⟩
   ·rw [Yg,Yg]
    exact Yi (show _<=100 by omega) (by decide)
   have s9:Same H8 (upd H8 p9 (.lst ((srt (flatN js i)).map V.str ++ S.map V.str))):=same_upd hp9 λ_ _ z=>z
   refine⟨srt (flatN js i) ++ S,by rw [upd_same,YN],by rw [YE]; omega,λl10 H10 ts hl10 s10 e10 hpw hpm=>?_⟩
   have ets:ts=srt (flatN js (i + 1)):=srt_is hpw (hpm.trans (by rw [flat_succ hJ]; exact (srt_perm _).append hSJ))
   subst ets
   have S10:=T8.trans (s9.trans s10)
   simp only [rList,cxK]
   walk_at "rd"
   refine⟨⟨_,S10 _ _ ef⟩,_,.inl (.of e10),λl11 H11 hl11 s11 e11 t12 H12 ht12 s12 e12=>⟨_,(S10.trans (s11.trans s12)) _ _ ef,?_,?_⟩⟩
   ·have:=hTo.1
    rw [YG] at this
    have:=chain_len hCh i hij
    omega
   have S12:=S10.trans (s11.trans s12)
   have hl10f:l10 ≠ fo:=(ne_of_none ((T8.trans s9) _ _ ef) hl10).symm
   have hl11f:l11 ≠ fo:=(ne_of_none (S10 _ _ ef) hl11).symm
   have hlf':=hlf
   simp only [tCompT,iList,cxK]
   walk_at "rd"
   have kt:∀ b ys o',H12 b=some (.tup ys)->upd H12 fo (.lst o') b=some (.tup ys):=λb ys o' e=>by rw [upd_ne (ne_of e (S12 _ _ ef) (by intro z; cases z))]; exact e
   have el13:upd H12 fo (.lst (xs ++ [.ref t12])) l=some (.lst (L.map V.str)):=by rw [upd_ne hlf]; exact S12 _ _ el
   have es13:upd H12 fo (.lst (xs ++ [.ref t12])) sp=some (.lst (S.map V.str)):=by rw [upd_ne hsf]; exact (s9.trans (s10.trans (s11.trans s12))) _ _ es
   have ea13:upd H12 fo (.lst (xs ++ [.ref t12])) l10=some (.lst ((srt (flatN js (i + 1))).map V.str)):=by rw [upd_ne hl10f]; exact (s11.trans s12) _ _ e10
   have ef13:upd H12 fo (.lst (xs ++ [.ref t12])) fo=some (.lst (xs ++ [.ref t12])):=upd_same
   have s13:Same H (upd H12 fo (.lst (xs ++ [.ref t12]))):=same_upd hfo0 (s4.trans S12)
   have hTo13:ToldV rs hf (csT rs hf ss) (botL rs hf ss) H (upd H12 fo (.lst (xs ++ [.ref t12]))) fo (xs ++ [.ref t12]) (js.take (i + 1)):=by
    rw [Yy,hJ]
    refine ToldV.snoc ((hTo.keep (H':=H12) (λb ys e=>S12 _ _ e) λb ys _ e=>S12 _ _ e).keep (λb ys e=>kt b ys _ e) λb ys hb e=>by rw [upd_ne hb]; exact e) (kt _ _ _ e12) ?_ hl11f ((s4.trans S10).free hl11) ?_
    ·rw [upd_ne hl11f,show (js.take i).flatten ++ js[i]=flatN js (i + 1) from (flat_succ hJ).symm]
     exact s12 _ _ e11
    ·exact (hbq.same (s9.trans (s10.trans (s11.trans s12)))).keep λb ys e=>kt b ys _ e
   generalize upd H12 fo (.lst (xs ++ [.ref t12]))=H13 at el13 es13 ea13 ef13 s13 hTo13
   refine⟨⟨_,.of el13⟩,?_⟩
   rw [show capOf [some (V.ref p),some (V.ref d),some (V.ref l10),some (V.ref fo),some (V.ref l),some bv,some (V.ref sp),o7,o8,o9] [6]=[some (V.ref sp)] from rfl]
   refine blk_pick (λz=>!decide (z∈S)) el13 (by omega) (λz H' k sm hk=>?_) (λp14 H14 hp14 s14 e14=>?_)
   ·walk_at "rd"
    simp only [rIn]
    walk_at "rd"
    refine⟨_,.inl (.of (sm _ _ es13)),rfl,flat_strs _,?_⟩
    rw [inV_str]
    exact hk
   ·refine⟨?_,i + 1,l10,p14,_,_,_,_,_,xs ++ [.ref t12],_,rfl,s13.trans s14,hi,hl10f,(ne_of_none ef13 hp14).symm,s14 _ _ ea13,s14 _ _ ef13,hTo13.keep (λb ys e=>s14 _ _ e) λb ys _ e=>s14 _ _ e,e14,hLn.filter _,λz=>?_⟩
    ·rw [muD_at rfl e14,Yg]
     obtain⟨z,hz⟩:=List.exists_mem_of_ne_nil _ hC.ne
     refine List.length_filter_lt_length_iff_exists.mpr ⟨z,(hLm z).mpr (hC.sub z hz),?_⟩
     have:=hSJ.mem_iff.mpr hz
     simp [this]
    ·rw [Yz,hLm z,mem_rest,mem_rest,flat_succ hJ,Yp,not_or]
     simp only [Bool.not_eq_true',decide_eq_false_iff_not,hSJ.mem_iff]
     exact⟨λ⟨⟨h1,h2⟩,h3⟩=>⟨h1,h2,h3⟩,λ⟨h1,h2,h3⟩=>⟨⟨h1,h2⟩,h3⟩⟩
def ok_law(F:Fun K "law" "law" s_law f fd)(n_dict:mg "dict"=none)(F_law_roads:Fn P w K mg base CX0 3 "_law_roads" ["_law_script","_law_most"] (sp_roadsG K))(F_law_homes:Fn P w K mg base CX0 3 "_law_homes" ["_law_script","_law_roads_here","_law_most"] (sp_homesG K))(F_law_copy:Fn P w K mg base CX0 8 "_law_copy" ["_law_roads_here"] (sp_lcopy CT))
  (F_stairs:Fn P w K mg base CX0 11 "stairs" ["tree","homes"] (sp_stairs pt CT)) (F_law_due:Fn P w K mg base CX0 6 "_law_due" ["_law_roads_here","_law_homes_here"] sp_due):FnOk P w K mg base CX0 12 f fd ["_law_script"] (sp_law pt K):=by
 refine okR F sc_law λcdv A outer s H vs Q E hr h=>?_
 obtain⟨a,ns,rfl,hS,hTb,q⟩:=h
 refine⟨_,(b_cons (s_set 1 sc_law.nd (qfn F_law_roads hr (a_c (q_v 0) (a_c q_int a_nil))))
   (b_cons (s_set 2 sc_law.nd (qfn F_law_homes hr (a_c (q_v 0) (a_c (q_v 1) (a_c q_int a_nil)))))
   (b_one (s_ret (q_eqD hr (qfn F_stairs hr (a_c (qfn F_law_copy hr (a_c (q_v 1) a_nil)) (a_c (q_dictF rfl n_dict (a_c (q_v 2) a_nil)) a_nil))) (qfn F_law_due hr (a_c (q_v 1) (a_c (q_v 2) a_nil)))))))),?_⟩
 rw [show start ["_law_script","_law_roads_here","_law_homes_here"] [.ref a]=[some (.ref a),none,none] from rfl]
 refine seq_go λR0 hR0=>?_
 walk_at "rd"
 refine⟨a,ns,7,rfl,hS,by decide,by decide,λp H1 xs rs hp s1 e1 hR hT hl hn=>?_⟩
 have hxl:=hR.1
 subst hR0
 try dsimp only
 refine seq_go λR0 hR0=>?_
 walk_at "rd"
 refine⟨a,p,ns,xs,5,rfl,s1.seq hS,e1,by omega,by decide,by decide,λd H2 kvs o hd s2 e2 hHV hND hkl=>?_⟩
 rw [hxl] at hHV
 obtain⟨ss,hf,rfl,hnd,hle⟩:=hm_of hHV hND
 have hkl2:ss.length<=5:=by simp [hmL] at hkl; omega
 have hP:Place rs hf ss:=⟨hT,hl,hle,hnd,by omega⟩
 subst hR0
 try dsimp only
 walk_at "rd"
 refine⟨p,xs,rs,rfl,s2 _ _ e1,hR.same s2,hT,hl,hn,λx H3 s3 hTr=>?_⟩
 refine⟨d,_,rfl,.inr ⟨_,s3 _ _ e2⟩,λd3 o3 H4 hd3 s4 e4=>?_⟩
 have s14:=s1.trans (s2.trans (s3.trans s4))
 refine⟨x,rs,d3,o3,ss,hf,rfl,hTr.same s4,e4,hP,hn,(let ⟨t,ht⟩:=hTb; ⟨t,s14 _ _ ht⟩),λp5 H5 xs5 js hp5 s5 e5 hTo hCh hcov=>?_⟩
 have s25:=s2.trans (s3.trans (s4.trans s5))
 refine⟨p,d,o,xs,rs,ss,hf,js,rfl,s25 _ _ e1,hR.same s25,(s3.trans (s4.trans s5)) _ _ e2,hP,hn,hkl2,hCh,hcov,λp6 H6 xs6 hp6 s6 e6 hTo6=>?_⟩
 exact⟨true,3,p5,p6,rfl,rfl,told_eq (hTo.keep (λb ys e=>s6 _ _ e) λb ys _ e=>s6 _ _ e) hTo6 (s6 _ _ e5) e6,by decide,q H6⟩
variable {Pr:List Value->Prop}
def len1(us:List Value)(h:us.length=1)(k:∀ a,Pr [a]):Pr us:=by
 match us,h with
 | [a],_=>exact k a
def len2(us:List Value)(h:us.length=2)(k:∀ a b,Pr [a,b]):Pr us:=by
 match us,h with
 | [a,b],_=>exact k a b
def len3(us:List Value)(h:us.length=3)(k:∀ a b c,Pr [a,b,c]):Pr us:=by
 match us,h with
 | [a,b,c],_=>exact k a b c
def len4(us:List Value)(h:us.length=4)(k:∀ a b c d,Pr [a,b,c,d]):Pr us:=by
 match us,h with
 | [a,b,c,d],_=>exact k a b c d
def len5(us:List Value)(h:us.length=5)(k:∀ a b c d e,Pr [a,b,c,d,e]):Pr us:=by
 match us,h with
 | [a,b,c,d,e],_=>exact k a b c d e
variable {ps:List Str}
def fn_mk{P:Program}{w:World}{base h:Heap}{x:Str}{sp:Sp}{f:Addr}(X:K.In h)(G:h.Ns mainGlobals mg)(a:nsIn K mainGlobals x=some (some (.ref f)))
  (kp:keepIn K (.ref f)=true) (b:Binds K fd ps []) (o:FnOk P w K mg base CX0 k f fd ps sp):Fn P w K mg base CX0 k x ps sp:=⟨f,fd,o,b,kp,mg_of X G a⟩
structure DefIn(K:PySem.W.Frag)(x:Str)(st:Stmt)(f:Addr)(fd:FuncData):Prop where
 a:nsIn K mainGlobals x=some (some (.ref f))
 k:keepIn K (.ref f)=true
 u:Fun K x x st f fd
theorem def_in{x:Str}{st:Stmt}{f:Addr}{oc:Value}{od an:Option Addr}{osl:Array (Option Value)}{kV doc pm cdv ct:Value}(a:nsIn K mainGlobals x=some (some (.ref f)))(l:K.lookup f=some ⟨oc,od,.func (fnOf x x (defArgs st) (defBody st) (defScope st) .none kV doc pm an cdv ct),osl⟩)(c:codeIn K cdv x=true)(k:keepIn K (.ref f)=true):DefIn K x st f (fnOf x x (defArgs st) (defBody st) (defScope st) .none kV doc pm an cdv ct):=⟨a,k,fun_mk l c k⟩
def def_fn{P:Program}{w:World}{base h:Heap}{x:Str}{sp:Sp}{f:Addr}{st:Stmt}(X:K.In h)(G:h.Ns mainGlobals mg)(z:DefIn K x st f fd)(b:Binds K fd ps [])(o:FnOk P w K mg base CX0 k f fd ps sp):Fn P w K mg base CX0 k x ps sp:=fn_mk X G z.a z.k b o
def bn1(h:∀ a:Value,bindArgs fd ⟨[a],[]⟩=pure (List.zip ps [a])):∀ us:List Value,us.length=1->bindArgs fd ⟨us,[]⟩=pure (List.zip ps us):=λus hl=>len1 (Pr:=λus=>bindArgs fd ⟨us,[]⟩=pure (List.zip ps us)) us hl h
def bn2(h:∀ a b:Value,bindArgs fd ⟨[a,b],[]⟩=pure (List.zip ps [a,b])):∀ us:List Value,us.length=2->bindArgs fd ⟨us,[]⟩=pure (List.zip ps us):=λus hl=>len2 (Pr:=λus=>bindArgs fd ⟨us,[]⟩=pure (List.zip ps us)) us hl h
def bn3(h:∀ a b c:Value,bindArgs fd ⟨[a,b,c],[]⟩=pure (List.zip ps [a,b,c])):∀ us:List Value,us.length=3->bindArgs fd ⟨us,[]⟩=pure (List.zip ps us):=λus hl=>len3 (Pr:=λus=>bindArgs fd ⟨us,[]⟩=pure (List.zip ps us)) us hl h
def bn4(h:∀ a b c d:Value,bindArgs fd ⟨[a,b,c,d],[]⟩=pure (List.zip ps [a,b,c,d])):∀ us:List Value,us.length=4->bindArgs fd ⟨us,[]⟩=pure (List.zip ps us):=λus hl=>len4 (Pr:=λus=>bindArgs fd ⟨us,[]⟩=pure (List.zip ps us)) us hl h
def bn5(h:∀ a b c d e:Value,bindArgs fd ⟨[a,b,c,d,e],[]⟩=pure (List.zip ps [a,b,c,d,e])):∀ us:List Value,us.length=5->bindArgs fd ⟨us,[]⟩=pure (List.zip ps us):=λus hl=>len5 (Pr:=λus=>bindArgs fd ⟨us,[]⟩=pure (List.zip ps us)) us hl h
def all_mk{l:PySem.W.OpenLaw}{w:World}{h:Heap}{fa:Addr}{f0 f1 f2 f4 f5 f6 f7 f8 f10 f11 f20 f22 f23 f24 f25 f26 f27 f28 f29 f30 f31 f32 f33 f34 f35 f36 f37 f38 f39 f40 f41 f42 f43 f44 f45 f46:Addr}{e0 e1 e2 e4 e5 e6 e7 e8 e10 e11 e20 e22 e23 e24 e25 e26 e27 e28 e29 e30 e31 e32 e33 e34 e35 e36 e37 e38 e39 e40 e41 e42 e43 e44 e45 e46:FuncData}{f3:Addr}{od3 an3:Option Addr}{sl3:Array (Option Value)}{oc3 kV3 dc3 pm3 cd3 ct3:Value}{T3 tn3:Nat}{tc3:Value}{td3:Option Addr}{ts3:Array (Option Value)}{tk3_0:Tok}{tk_MOST_ROADS:Tok}{cTree:Addr}{f13:Addr}{od13 an13:Option Addr}{sl13:Array (Option Value)}{oc13 kV13 dc13 pm13 cd13 ct13:Value}{f14:Addr}{od14 an14:Option Addr}{sl14:Array (Option Value)}{oc14 kV14 dc14 pm14 cd14 ct14:Value}{f15:Addr}{od15 an15:Option Addr}{sl15:Array (Option Value)}{oc15 kV15 dc15 pm15 cd15 ct15:Value}{f16:Addr}{od16 an16:Option Addr}{sl16:Array (Option Value)}{oc16 kV16 dc16 pm16 cd16 ct16:Value}{f17:Addr}{od17 an17:Option Addr}{sl17:Array (Option Value)}{oc17 kV17 dc17 pm17 cd17 ct17:Value}{f18:Addr}{od18 an18:Option Addr}{sl18:Array (Option Value)}{oc18 kV18 dc18 pm18 cd18 ct18:Value}{f19:Addr}{od19 an19:Option Addr}{sl19:Array (Option Value)}{oc19 kV19 dc19 pm19 cd19 ct19:Value}{f21:Addr}{od21 an21:Option Addr}{sl21:Array (Option Value)}{oc21 kV21 dc21 pm21 cd21 ct21:Value}{cc21:Addr}{f47:Addr}{od47 an47:Option Addr}{sl47:Array (Option Value)}{oc47 kV47 dc47 pm47 cd47 ct47:Value}
  (X:K.In h) (G:h.Ns mainGlobals mg) (hfa:mg "law"=some (.ref fa))
  (z0:DefIn K "is_whole" s_is_whole f0 e0)
  (z1:DefIn K "greatest_divisor" s_greatest_divisor f1 e1)
  (z2:DefIn K "is_ratio" s_is_ratio f2 e2)
  (a3:nsIn K mainGlobals "ratio"=some (some (.ref f3)))
  (l3:K.lookup f3=some ⟨oc3,od3,.func (fnOf "ratio" "ratio" (defArgs s_ratio) (defBody s_ratio) (defScope s_ratio) (.ref T3) kV3 dc3 pm3 an3 cd3 ct3),sl3⟩)
  (c3:codeIn K cd3 "ratio"=true)
  (k3:keepIn K (.ref f3)=true)
  (t3:K.lookup T3=some ⟨tc3,td3,.seq #[.int 1 tk3_0] tn3,ts3⟩)
  (z4:DefIn K "least_multiple" s_least_multiple f4 e4)
  (z5:DefIn K "common_bottom" s_common_bottom f5 e5)
  (z6:DefIn K "top_over" s_top_over f6 e6)
  (z7:DefIn K "is_price" s_is_price f7 e7)
  (z8:DefIn K "is_road" s_is_road f8 e8)
  (a_MOST_ROADS:nsIn K mainGlobals "MOST_ROADS"=some (some (.int 40 tk_MOST_ROADS)))
  (z10:DefIn K "look_roads" s_look_roads f10 e10)
  (z11:DefIn K "way_from" s_way_from f11 e11)
  (a_Tree:nsIn K mainGlobals "Tree"=some (some (.ref cTree)))
  (pg_Tree:plainGet K cTree Str.empty=true)
  (hd_Tree:hasDictIn K cTree=true)
  (po_Tree:plainOver K cTree=true)
  (sa_Tree:PySem.W.findIn K (.ref cTree) "__setattr__"=some (some (.builtin "object.__setattr__")))
  (nf_lanes:PySem.W.findIn K (.ref cTree) "lanes"=some none)
  (nf_ways:PySem.W.findIn K (.ref cTree) "ways"=some none)
  (a13:PySem.W.findIn K (.ref cTree) "__init__"=some (some (.ref f13)))
  (l13:K.lookup f13=some ⟨oc13,od13,.func (fnOf "__init__" "Tree.__init__" (defArgs s_Tree___init__) (defBody s_Tree___init__) (defScope s_Tree___init__) .none kV13 dc13 pm13 an13 cd13 ct13),sl13⟩)
  (c13:codeIn K cd13 "Tree.__init__"=true)
  (k13:keepIn K (.ref f13)=true)
  (i13:isFn K (.ref f13)=true)
  (mk13:makesIn K cTree=true)
  (kc13:keepIn K (.ref cTree)=true)
  (a14:PySem.W.findIn K (.ref cTree) "many"=some (some (.ref f14)))
  (l14:K.lookup f14=some ⟨oc14,od14,.func (fnOf "many" "Tree.many" (defArgs s_Tree_many) (defBody s_Tree_many) (defScope s_Tree_many) .none kV14 dc14 pm14 an14 cd14 ct14),sl14⟩)
  (c14:codeIn K cd14 "Tree.many"=true)
  (k14:keepIn K (.ref f14)=true)
  (i14:isFn K (.ref f14)=true)
  (a15:PySem.W.findIn K (.ref cTree) "look_crossing"=some (some (.ref f15)))
  (l15:K.lookup f15=some ⟨oc15,od15,.func (fnOf "look_crossing" "Tree.look_crossing" (defArgs s_Tree_look_crossing) (defBody s_Tree_look_crossing) (defScope s_Tree_look_crossing) .none kV15 dc15 pm15 an15 cd15 ct15),sl15⟩)
  (c15:codeIn K cd15 "Tree.look_crossing"=true)
  (k15:keepIn K (.ref f15)=true)
  (i15:isFn K (.ref f15)=true)
  (a16:PySem.W.findIn K (.ref cTree) "look_road"=some (some (.ref f16)))
  (l16:K.lookup f16=some ⟨oc16,od16,.func (fnOf "look_road" "Tree.look_road" (defArgs s_Tree_look_road) (defBody s_Tree_look_road) (defScope s_Tree_look_road) .none kV16 dc16 pm16 an16 cd16 ct16),sl16⟩)
  (c16:codeIn K cd16 "Tree.look_road"=true)
  (k16:keepIn K (.ref f16)=true)
  (i16:isFn K (.ref f16)=true)
  (a17:PySem.W.findIn K (.ref cTree) "way"=some (some (.ref f17)))
  (l17:K.lookup f17=some ⟨oc17,od17,.func (fnOf "way" "Tree.way" (defArgs s_Tree_way) (defBody s_Tree_way) (defScope s_Tree_way) .none kV17 dc17 pm17 an17 cd17 ct17),sl17⟩)
  (c17:codeIn K cd17 "Tree.way"=true)
  (k17:keepIn K (.ref f17)=true)
  (i17:isFn K (.ref f17)=true)
  (a18:PySem.W.findIn K (.ref cTree) "price"=some (some (.ref f18)))
  (l18:K.lookup f18=some ⟨oc18,od18,.func (fnOf "price" "Tree.price" (defArgs s_Tree_price) (defBody s_Tree_price) (defScope s_Tree_price) .none kV18 dc18 pm18 an18 cd18 ct18),sl18⟩)
  (c18:codeIn K cd18 "Tree.price"=true)
  (k18:keepIn K (.ref f18)=true)
  (i18:isFn K (.ref f18)=true)
  (a19:PySem.W.findIn K (.ref cTree) "leads_to"=some (some (.ref f19)))
  (l19:K.lookup f19=some ⟨oc19,od19,.func (fnOf "leads_to" "Tree.leads_to" (defArgs s_Tree_leads_to) (defBody s_Tree_leads_to) (defScope s_Tree_leads_to) .none kV19 dc19 pm19 an19 cd19 ct19),sl19⟩)
  (c19:codeIn K cd19 "Tree.leads_to"=true)
  (k19:keepIn K (.ref f19)=true)
  (i19:isFn K (.ref f19)=true)
  (z20:DefIn K "needed" s_needed f20 e20)
  (a21:nsIn K mainGlobals "far_roads_first"=some (some (.ref f21)))
  (l21:K.lookup f21=some ⟨oc21,od21,.func (fnOf "far_roads_first" "far_roads_first" (defArgs s_far_roads_first) (defBody s_far_roads_first) (defScope s_far_roads_first) .none kV21 dc21 pm21 an21 cd21 ct21),sl21⟩)
  (c21:codeIn K cd21 "far_roads_first"=true)
  (k21:keepIn K (.ref f21)=true)
  (hcd21:cd21=.ref cc21)
  (hC21:codeHdIn K cc21 129=true)
  (z22:DefIn K "bottom_of_prices" s_bottom_of_prices f22 e22)
  (z23:DefIn K "whole_prices" s_whole_prices f23 e23)
  (z24:DefIn K "whole_cost" s_whole_cost f24 e24)
  (z25:DefIn K "homes_without" s_homes_without f25 e25)
  (z26:DefIn K "is_paid" s_is_paid f26 e26)
  (z27:DefIn K "who_can_pay" s_who_can_pay f27 e27)
  (z28:DefIn K "cheapest" s_cheapest f28 e28)
  (z29:DefIn K "stairs" s_stairs f29 e29)
  (z30:DefIn K "_law_cell_at" s_law_cell_at f30 e30)
  (z31:DefIn K "_law_drawn" s_law_drawn f31 e31)
  (z32:DefIn K "_law_low" s_law_low f32 e32)
  (z33:DefIn K "_law_plus" s_law_plus f33 e33)
  (z34:DefIn K "_law_under" s_law_under f34 e34)
  (z35:DefIn K "_law_less" s_law_less f35 e35)
  (z36:DefIn K "_law_total" s_law_total f36 e36)
  (z37:DefIn K "_law_price" s_law_price f37 e37)
  (z38:DefIn K "_law_roads" s_law_roads f38 e38)
  (z39:DefIn K "_law_names" s_law_names f39 e39)
  (z40:DefIn K "_law_homes" s_law_homes f40 e40)
  (z41:DefIn K "_law_way" s_law_way f41 e41)
  (z42:DefIn K "_law_cost" s_law_cost f42 e42)
  (z43:DefIn K "_law_copy" s_law_copy f43 e43)
  (z44:DefIn K "_law_groups" s_law_groups f44 e44)
  (z45:DefIn K "_law_left" s_law_left f45 e45)
  (z46:DefIn K "_law_due" s_law_due f46 e46)
  (a47:nsIn K mainGlobals "law"=some (some (.ref f47)))
  (l47:K.lookup f47=some ⟨oc47,od47,.func (fnOf "law" "law" (defArgs s_law) (defBody s_law) (defScope s_law) .none kV47 dc47 pm47 an47 cd47 ct47),sl47⟩)
  (c47:codeIn K cd47 "law"=true)
  (k47:keepIn K (.ref f47)=true)
  (z_isinstance:nsIn K mainGlobals "isinstance"=some none)
  (z_int:nsIn K mainGlobals "int"=some none)
  (z_bool:nsIn K mainGlobals "bool"=some none)
  (z_abs:nsIn K mainGlobals "abs"=some none)
  (z_tuple:nsIn K mainGlobals "tuple"=some none)
  (z_len:nsIn K mainGlobals "len"=some none)
  (z_list:nsIn K mainGlobals "list"=some none)
  (z_range:nsIn K mainGlobals "range"=some none)
  (z_sorted:nsIn K mainGlobals "sorted"=some none)
  (z_set:nsIn K mainGlobals "set"=some none)
  (z_sum:nsIn K mainGlobals "sum"=some none)
  (z_all:nsIn K mainGlobals "all"=some none)
  (z_enumerate:nsIn K mainGlobals "enumerate"=some none)
  (z_min:nsIn K mainGlobals "min"=some none)
  (z_dict:nsIn K mainGlobals "dict"=some none)
  : ∃ fd:FuncData,(∀ (s:Shared) (v:Value),BindsTo s fd ⟨[v],[]⟩ [("_law_script",v)])/\∀ base:Heap,K.In base->base.Ns mainGlobals mg->L2.BltMod mg base->FnOk l.prog w K mg base CX0 12 fa fd ["_law_script"] (sp_law 129 K):=by
 have e:=hfa.symm.trans (mg_of X G a47)
 cases e
 have n_dict:=mg_none_of X G z_dict
 have n_min:=mg_none_of X G z_min
 have n_enumerate:=mg_none_of X G z_enumerate
 have n_all:=mg_none_of X G z_all
 have n_sum:=mg_none_of X G z_sum
 have n_set:=mg_none_of X G z_set
 have n_sorted:=mg_none_of X G z_sorted
 have n_range:=mg_none_of X G z_range
 have n_list:=mg_none_of X G z_list
 have n_len:=mg_none_of X G z_len
 have n_tuple:=mg_none_of X G z_tuple
 have n_abs:=mg_none_of X G z_abs
 have n_bool:=mg_none_of X G z_bool
 have n_int:=mg_none_of X G z_int
 have n_isinstance:=mg_none_of X G z_isinstance
 have U3:=fund_mk (st:=s_ratio) l3 c3 k3
 have b3:Binds K (fnOf "ratio" "ratio" (defArgs s_ratio) (defBody s_ratio) (defScope s_ratio) (.ref T3) kV3 dc3 pm3 an3 cd3 ct3) ["top","bottom"] []:=λs us Y hl=>match us,hl with | [_,_],_=>BindsTo.of_defaults (T:=T3) rfl (Y _ _ t3) rfl rfl rfl
 have b3_1:Binds K (fnOf "ratio" "ratio" (defArgs s_ratio) (defBody s_ratio) (defScope s_ratio) (.ref T3) kV3 dc3 pm3 an3 cd3 ct3) ["top","bottom"] [.int 1 tk3_0]:=λs us Y hl=>by
  have hl2:us.length=1:=by simpa using hl
  exact match us,hl2 with | [_],_=>BindsTo.of_defaults (T:=T3) rfl (Y _ _ t3) rfl rfl rfl
 have g_MOST_ROADS:=mg_of X G a_MOST_ROADS
 have m_Tree:=mg_of X G a_Tree
 have cls_Tree:Cls K cTree:=⟨pg_Tree,hd_Tree,po_Tree,sa_Tree⟩
 have U13:=fun_mk (st:=s_Tree___init__) l13 c13 k13
 have b13:Binds K (fnOf "__init__" "Tree.__init__" (defArgs s_Tree___init__) (defBody s_Tree___init__) (defScope s_Tree___init__) .none kV13 dc13 pm13 an13 cd13 ct13) ["self","roads"] []:=Binds.all λus hl=>len2 (Pr:=λus=>bindArgs _ ⟨us,[]⟩=pure (List.zip _ us)) us hl λ_ _=>rfl
 have U14:=fun_mk (st:=s_Tree_many) l14 c14 k14
 have b14:Binds K (fnOf "many" "Tree.many" (defArgs s_Tree_many) (defBody s_Tree_many) (defScope s_Tree_many) .none kV14 dc14 pm14 an14 cd14 ct14) ["self"] []:=Binds.all λus hl=>len1 (Pr:=λus=>bindArgs _ ⟨us,[]⟩=pure (List.zip _ us)) us hl λ_=>rfl
 have U15:=fun_mk (st:=s_Tree_look_crossing) l15 c15 k15
 have b15:Binds K (fnOf "look_crossing" "Tree.look_crossing" (defArgs s_Tree_look_crossing) (defBody s_Tree_look_crossing) (defScope s_Tree_look_crossing) .none kV15 dc15 pm15 an15 cd15 ct15) ["self","k"] []:=Binds.all λus hl=>len2 (Pr:=λus=>bindArgs _ ⟨us,[]⟩=pure (List.zip _ us)) us hl λ_ _=>rfl
 have U16:=fun_mk (st:=s_Tree_look_road) l16 c16 k16
 have b16:Binds K (fnOf "look_road" "Tree.look_road" (defArgs s_Tree_look_road) (defBody s_Tree_look_road) (defScope s_Tree_look_road) .none kV16 dc16 pm16 an16 cd16 ct16) ["self","k"] []:=Binds.all λus hl=>len2 (Pr:=λus=>bindArgs _ ⟨us,[]⟩=pure (List.zip _ us)) us hl λ_ _=>rfl
 have U17:=fun_mk (st:=s_Tree_way) l17 c17 k17
 have b17:Binds K (fnOf "way" "Tree.way" (defArgs s_Tree_way) (defBody s_Tree_way) (defScope s_Tree_way) .none kV17 dc17 pm17 an17 cd17 ct17) ["self","k"] []:=Binds.all λus hl=>len2 (Pr:=λus=>bindArgs _ ⟨us,[]⟩=pure (List.zip _ us)) us hl λ_ _=>rfl
 have U18:=fun_mk (st:=s_Tree_price) l18 c18 k18
 have b18:Binds K (fnOf "price" "Tree.price" (defArgs s_Tree_price) (defBody s_Tree_price) (defScope s_Tree_price) .none kV18 dc18 pm18 an18 cd18 ct18) ["self","k"] []:=Binds.all λus hl=>len2 (Pr:=λus=>bindArgs _ ⟨us,[]⟩=pure (List.zip _ us)) us hl λ_ _=>rfl
 have U19:=fun_mk (st:=s_Tree_leads_to) l19 c19 k19
 have b19:Binds K (fnOf "leads_to" "Tree.leads_to" (defArgs s_Tree_leads_to) (defBody s_Tree_leads_to) (defScope s_Tree_leads_to) .none kV19 dc19 pm19 an19 cd19 ct19) ["self","k"] []:=Binds.all λus hl=>len2 (Pr:=λus=>bindArgs _ ⟨us,[]⟩=pure (List.zip _ us)) us hl λ_ _=>rfl
 have U21:=fun_mk (st:=s_far_roads_first) l21 c21 k21
 have b21:=U21.binds (ps:=["tree","homes"]) λ_ _ _ _ _ _ us hl=>len2 (Pr:=λus=>bindArgs _ ⟨us,[]⟩=pure (List.zip _ us)) us hl λ_ _=>rfl
 have U47:=fun_mk (st:=s_law) l47 c47 k47
 refine⟨fnOf "law" "law" (defArgs s_law) (defBody s_law) (defScope s_law) .none kV47 dc47 pm47 an47 cd47 ct47,λs v=>.of_eq rfl,λbase _ _ hB=>?_⟩
 have dF:∀ {k:Nat}{x:Str}{ps:List Str}{sp:Sp}{f:Addr}{fd:FuncData}{st:Stmt},DefIn K x st f fd->Binds K fd ps []->FnOk l.prog w K mg base CX0 k f fd ps sp->Fn l.prog w K mg base CX0 k x ps sp:=λz b o=>def_fn X G z b o
 have F_is_whole:=dF z0 (z0.u.binds (ps:=["thing"]) λ_ _ _ _ _ _=>bn1 λ_=>rfl) (ok_is_whole z0.u n_isinstance n_int n_bool)
 have F_greatest_divisor:=dF z1 (z1.u.binds (ps:=["one","other"]) λ_ _ _ _ _ _=>bn2 λ_ _=>rfl) (ok_gcd z1.u n_abs)
 have F_is_ratio:=dF z2 (z2.u.binds (ps:=["thing"]) λ_ _ _ _ _ _=>bn1 λ_=>rfl) (ok_is_ratio z2.u n_isinstance n_tuple n_len F_is_whole F_greatest_divisor)
 have O_ratio:=My.ok_ratio (P:=l.prog) (w:=w) (base:=base) U3 F_is_whole F_greatest_divisor
 have F_ratio:Fn l.prog w K mg base CX0 _ "ratio" ["top","bottom"] _:=⟨f3,_,O_ratio,b3,k3,mg_of X G a3⟩
 have F_least_multiple:=dF z4 (z4.u.binds (ps:=["one","other"]) λ_ _ _ _ _ _=>bn2 λ_ _=>rfl) (ok_lcm z4.u F_greatest_divisor)
 have F_common_bottom:=dF z5 (z5.u.binds (ps:=["some"]) λ_ _ _ _ _ _=>bn1 λ_=>rfl) (ok_common z5.u F_least_multiple)
 have F_top_over:=dF z6 (z6.u.binds (ps:=["one","bottom"]) λ_ _ _ _ _ _=>bn2 λ_ _=>rfl) (ok_top z6.u )
 have F_is_price:=dF z7 (z7.u.binds (ps:=["thing"]) λ_ _ _ _ _ _=>bn1 λ_=>rfl) (ok_is_price z7.u F_is_ratio)
 have F_is_road:=dF z8 (z8.u.binds (ps:=["thing","many"]) λ_ _ _ _ _ _=>bn2 λ_ _=>rfl) (ok_is_road z8.u n_isinstance n_tuple n_len F_is_whole F_is_price)
 have F_look_roads:=dF z10 (z10.u.binds (ps:=["thing"]) λ_ _ _ _ _ _=>bn1 λ_=>rfl) (ok_look z10.u n_isinstance n_list n_len g_MOST_ROADS F_is_road)
 have F_way_from:=dF z11 (z11.u.binds (ps:=["roads","k"]) λ_ _ _ _ _ _=>bn2 λ_ _=>rfl) (ok_wayf z11.u n_len)
 have O_Tree___init__:=My.ok_init (P:=l.prog) (w:=w) (base:=base) U13 n_list n_len n_range cls_Tree nf_lanes nf_ways F_look_roads F_way_from
 have K_Tree:Mkr l.prog w K mg base CX0 _ cTree "Tree" ["self","roads"] _:=⟨f13,_,O_Tree___init__,b13,⟨mk13,a13,i13,kc13⟩,m_Tree⟩
 have O_Tree_many:=My.ok_many (P:=l.prog) (w:=w) (base:=base) U14 n_len cls_Tree nf_ways
 have M_many:Mth l.prog w K mg base CX0 _ cTree "many" ["self"] _:=⟨f14,_,O_Tree_many,b14,⟨a14,i14,k14⟩,cls_Tree⟩
 have O_Tree_look_crossing:=My.ok_cross (P:=l.prog) (w:=w) (base:=base) U15 (CNP:=0) F_is_whole M_many
 have M_look_crossing:Mth l.prog w K mg base CX0 _ cTree "look_crossing" ["self","k"] _:=⟨f15,_,O_Tree_look_crossing,b15,⟨a15,i15,k15⟩,cls_Tree⟩
 have O_Tree_look_road:=My.ok_lookR (P:=l.prog) (w:=w) (base:=base) U16 M_look_crossing
 have M_look_road:Mth l.prog w K mg base CX0 _ cTree "look_road" ["self","k"] _:=⟨f16,_,O_Tree_look_road,b16,⟨a16,i16,k16⟩,cls_Tree⟩
 have O_Tree_way:=My.ok_wayM (P:=l.prog) (w:=w) (base:=base) U17 n_list cls_Tree nf_ways M_look_crossing
 have M_way:Mth l.prog w K mg base CX0 _ cTree "way" ["self","k"] _:=⟨f17,_,O_Tree_way,b17,⟨a17,i17,k17⟩,cls_Tree⟩
 have O_Tree_price:=My.ok_priceM (P:=l.prog) (w:=w) (base:=base) U18 cls_Tree nf_lanes M_look_road
 have M_price:Mth l.prog w K mg base CX0 _ cTree "price" ["self","k"] _:=⟨f18,_,O_Tree_price,b18,⟨a18,i18,k18⟩,cls_Tree⟩
 have O_Tree_leads_to:=My.ok_leadsM (P:=l.prog) (w:=w) (base:=base) U19 cls_Tree nf_lanes M_look_road
 have M_leads_to:Mth l.prog w K mg base CX0 _ cTree "leads_to" ["self","k"] _:=⟨f19,_,O_Tree_leads_to,b19,⟨a19,i19,k19⟩,cls_Tree⟩
 have F_needed:=dF z20 (z20.u.binds (ps:=["tree","homes","group"]) λ_ _ _ _ _ _=>bn3 λ_ _ _=>rfl) (ok_needed z20.u n_sorted n_set M_way)
 have F_far_roads_first:=fn_mk X G a21 k21 b21 (My.ok_far (P:=l.prog) (w:=w) (base:=base) U21 hcd21 hC21 hB n_len n_sorted n_list F_needed M_way)
 have F_bottom_of_prices:=dF z22 (z22.u.binds (ps:=["tree","homes"]) λ_ _ _ _ _ _=>bn2 λ_ _=>rfl) (ok_bottom z22.u n_list F_common_bottom F_needed M_price)
 have F_whole_prices:=dF z23 (z23.u.binds (ps:=["tree","homes","bottom"]) λ_ _ _ _ _ _=>bn3 λ_ _ _=>rfl) (ok_wprices z23.u n_list F_needed F_top_over M_price)
 have F_whole_cost:=dF z24 (z24.u.binds (ps:=["tree","homes","group","prices"]) λ_ _ _ _ _ _=>bn4 λ_ _ _ _=>rfl) (ok_wcost z24.u n_sum F_needed)
 have F_homes_without:=dF z25 (z25.u.binds (ps:=["homes","group"]) λ_ _ _ _ _ _=>bn2 λ_ _=>rfl) (ok_without z25.u )
 have F_is_paid:=dF z26 (z26.u.binds (ps:=["way","left"]) λ_ _ _ _ _ _=>bn2 λ_ _=>rfl) (ok_paid z26.u n_all)
 have F_who_can_pay:=dF z27 (z27.u.binds (ps:=["tree","homes","prices","brought","heads"]) λ_ _ _ _ _ _=>bn5 λ_ _ _ _ _=>rfl) (ok_whocan z27.u M_many F_far_roads_first M_leads_to F_is_paid M_way)
 have F_cheapest:=dF z28 (z28.u.binds (ps:=["tree","homes","prices"]) λ_ _ _ _ _ _=>bn3 λ_ _ _=>rfl) (ok_cheapest z28.u n_list n_len F_who_can_pay F_whole_cost)
 have F_stairs:=dF z29 (z29.u.binds (ps:=["tree","homes"]) λ_ _ _ _ _ _=>bn2 λ_ _=>rfl) (ok_stairs z29.u n_len n_sorted F_bottom_of_prices F_whole_prices F_cheapest F_homes_without F_ratio F_whole_cost F_needed)
 have F_law_cell_at:=dF z30 (z30.u.binds (ps:=["_law_script","_law_k"]) λ_ _ _ _ _ _=>bn2 λ_ _=>rfl) (ok_cell z30.u n_len)
 have F_law_drawn:=dF z31 (z31.u.binds (ps:=["_law_cell","_law_bases"]) λ_ _ _ _ _ _=>bn2 λ_ _=>rfl) (ok_drawn z31.u n_enumerate)
 have F_law_low:=dF z32 (z32.u.binds (ps:=["_law_top","_law_bottom"]) λ_ _ _ _ _ _=>bn2 λ_ _=>rfl) (ok_lowT z32.u n_abs)
 have F_law_plus:=dF z33 (z33.u.binds (ps:=["_law_one","_law_other"]) λ_ _ _ _ _ _=>bn2 λ_ _=>rfl) (ok_ladd z33.u F_law_low)
 have F_law_under:=dF z34 (z34.u.binds (ps:=["_law_one","_law_other"]) λ_ _ _ _ _ _=>bn2 λ_ _=>rfl) (ok_lunder z34.u )
 have F_law_less:=dF z35 (z35.u.binds (ps:=["_law_one","_law_other"]) λ_ _ _ _ _ _=>bn2 λ_ _=>rfl) (ok_lless z35.u F_law_low)
 have F_law_total:=dF z36 (z36.u.binds (ps:=["_law_some"]) λ_ _ _ _ _ _=>bn1 λ_=>rfl) (ok_ltotal z36.u F_law_plus)
 have F_law_price:=dF z37 (z37.u.binds (ps:=["_law_one","_law_other","_law_wide"]) λ_ _ _ _ _ _=>bn3 λ_ _ _=>rfl) (ok_priceG z37.u F_law_low)
 have F_law_roads:=dF z38 (z38.u.binds (ps:=["_law_script","_law_most"]) λ_ _ _ _ _ _=>bn2 λ_ _=>rfl) (ok_roadsG z38.u n_range n_min n_int F_law_cell_at F_law_drawn F_law_price)
 have F_law_names:=dF z39 (z39.u.binds (ps:=["_law_cell","_law_many"]) λ_ _ _ _ _ _=>bn2 λ_ _=>rfl) (ok_namesG z39.u n_range n_int F_law_drawn)
 have F_law_homes:=dF z40 (z40.u.binds (ps:=["_law_script","_law_roads_here","_law_most"]) λ_ _ _ _ _ _=>bn3 λ_ _ _=>rfl) (ok_homesG z40.u n_range n_len F_law_cell_at F_law_drawn F_law_names)
 have F_law_way:=dF z41 (z41.u.binds (ps:=["_law_roads_here","_law_k"]) λ_ _ _ _ _ _=>bn2 λ_ _=>rfl) (ok_way z41.u )
 have F_law_cost:=dF z42 (z42.u.binds (ps:=["_law_roads_here","_law_homes_here","_law_group"]) λ_ _ _ _ _ _=>bn3 λ_ _ _=>rfl) (ok_lcost z42.u F_law_way F_law_total)
 have F_law_copy:=dF z43 (z43.u.binds (ps:=["_law_roads_here"]) λ_ _ _ _ _ _=>bn1 λ_=>rfl) (ok_lcopy z43.u K_Tree)
 have F_law_groups:=dF z44 (z44.u.binds (ps:=["_law_names_here"]) λ_ _ _ _ _ _=>bn1 λ_=>rfl) (ok_groups z44.u )
 have F_law_left:=dF z45 (z45.u.binds (ps:=["_law_roads_here","_law_homes_here","_law_group","_law_ahead"]) λ_ _ _ _ _ _=>bn4 λ_ _ _ _=>rfl) (ok_left z45.u F_law_cost F_law_less)
 have F_law_due:=dF z46 (z46.u.binds (ps:=["_law_roads_here","_law_homes_here"]) λ_ _ _ _ _ _=>bn2 λ_ _=>rfl) (ok_due z46.u n_sorted n_len n_list F_law_groups F_law_left F_law_low F_law_under)
 exact My.ok_law (P:=l.prog) (w:=w) (base:=base) U47 n_dict F_law_roads F_law_homes F_law_copy F_stairs F_law_due
end My
namespace PySem.W.Fast
def tw15606487914064128646:=()
def tw8347052824861621968:=()
def tw16811448997479913418:=()
def tw12155531947052176843:=()
def tw17652914865439297770:=()
def tw12756879757371150005:=()
def tw9360154122329188492:=()
def tw11710108694885867098:=()
def tw11187184392452983153:=()
def tw10165002424860700324:=()
def tw8567370999696313624:=()
def tw1292107228450281577:=()
def tw11164381089503274375:=()
def tw89291066972429285:=()
def tw10652985960831446961:=()
def tw2111066139055582709:=()
def tw16169442536265144399:=()
def tw11650137075565305181:=()
def tw16423769527867311779:=()
def tw15293687551993628468:=()
def tw17509945291595129742:=()
def tw9469061158917601748:=()
def tw110324932294891411:=()
def tw13710278902221723040:=()
def tw11638160834178759144:=()
def tw251487302373829934:=()
def tw1203513801265910383:=()
def tw5565591911641465497:=()
def tw6185667295389446276:=()
def tw10324023926717006141:=()
def tw11303097800055128941:=()
def tw3250063619561652202:=()
def tw16271930501746848678:=()
def tw16936400257053780098:=()
def tw7439170352568188182:=()
def tw17521478906110001478:=()
def tw13095867409077817806:=()
def tw6433447372559998501:=()
def tw8147718504616054838:=()
def tw2198645054986892116:=()
def tw13369523014555639596:=()
def tw14389929715221137657:=()
def tw8262358790574764802:=()
def tw9975268147593862258:=()
def tw10544532834841932469:=()
def tw216569476207415395:=()
def tw8624386278195158768:=()
def tw2344220234844694431:=()
def tw2033901107259077209:=()
def tw4912997146387939184:=()
def tw7346168804737484776:=()
def tw13415996924024913206:=()
def tw6524929694022388875:=()
def tw2392299268721718731:=()
def tw8938867454362855100:=()
def tw15472035936756271419:=()
def tw14949998902412795711:=()
def tw4754241915313420218:=()
def tw9712055494557232127:=()
def tw9511746284951658585:=()
def tw472493819211608494:=()
def tw7341604264718233849:=()
def tw18169533468928614019:=()
def tw9207365468115172494:=()
def tw10092266093906053303:=()
def tw14770910316188279270:=()
def tw6580126050475262521:=()
def tw7551052161144461796:=()
def tw10270490079690265590:=()
def tw592153570496316777:=()
def tw11753880438900342762:=()
def tw8419331355043584710:=()
def tw3256859535551135589:=()
def tw13606839882280127443:=()
def tw5848888851149568782:=()
def tw5912498936133363796:=()
def tw6458811741937874444:=()
def tw11927568249187346178:=()
def tw11943278150426334355:=()
def tw12460074137073752644:=()
def tw11277561749381028144:=()
def tw5068068543417877696:=()
def tw15140676182418518660:=()
def tw12307238084198487748:=()
def tw12195855058953870392:=()
def tw5111302155018421286:=()
def tw5744504270916254029:=()
def tw7772221225160336720:=()
def tw1518328232376165197:=()
def tw9701057830498491185:=()
def tw13715119709307354001:=()
def tw4993414475092041187:=()
def tw4828482758734019565:=()
def tw7081209885425862143:=()
def tw9693341251478199839:=()
def tw13074324739376405061:=()
def tw260237181945218456:=()
def tw4879597704220451058:=()
def tw750463598178184880:=()
def tw13981777104755113345:=()
def tw3259118287648802845:=()
def tw5140388425763623628:=()
def tw5047269371738036136:=()
def tw16759116404238954733:=()
end PySem.W.Fast
open PySem PySem.W PyProof.Rows
local macro_rules | `(tactic| walk_at "zi") => `(tactic| (refine' My.def_in ?a ?l ?c ?k; (case a => k_is); (case l => k_is); (case c => k_is); (case k => k_is)))
set_option maxRecDepth 100000 in
set_option maxHeartbeats 0 in
theorem PySem.Challenge.cw_roadshare_k42_greatest_of_the_least_holds : PySem.Challenge.rw_roadshare_k42_greatest_of_the_least.Holds := by
 w_on; o_law; k_head; (case hw=>w_witness2)
 k_fill
 refine L2.walk_ofKT (l:=PySem.Challenge.rw_roadshare_k42_greatest_of_the_least) (n:=63) (k:=12) (x:="_law_script") (CX:=L2.CX0) (sp:=My.sp_law 129) (λb=>if b=129 then some (Str.ofString "far_roads_first.<locals>.<lambda>") else none) rfl (by decide) rfl ⟨rfl,by decide,by decide⟩ (λw h Y=>km_in_of Y) ?T ?KT ?F ?S ?C
 case T =>
  intro w h Y b q hb
  have e:b=129:=by
   by_cases z:b=129
   ·exact z
   ·rw [if_neg z] at hb; cases hb
  subst e
  exact⟨⟨133,codeHd_of_K (km_in_of Y) (by kernel_rfl)⟩,PySem.W.km_tabs_of Y 129 (by simp)⟩
 case KT =>
  intro w b q hb
  have e:b=129:=by
   by_cases z:b=129
   ·exact z
   ·rw [if_neg z] at hb; cases hb
  subst e
  first | k_is | kernel_rfl
 case S=>exact λK H a ns hl hO hS=>⟨a,ns,rfl,hS,hO 129 _ (if_pos rfl),λ_=>rfl⟩
 case C=>exact λ_ _ _ _ z=>z
 case F =>
  intro w mg fa h KX G hmg
  refine' My.all_mk KX G hmg _ _ _ _ _ _ _ _ _ _ _ _ _ _ _ _ _ _ _ _ _ _ _ _ _ _ _ _ _ _ _ _ _ _ _ _ _ _ _ _ _ _ _ _ _ _ _ _ _ _ _ _ _ _ _ _ _ _ _ _ _ _ _ _ _ ?hcd21 _ _ _ _ _ _ _ _ _ _ _ _ _ _ _ _ _ _ _ _ _ _ _ _ _ _ _ _ _ _ _ _ _ _ _ _ _ _ _ _ _ _ _ _ _
  (case hcd21=>exact rfl)
  all_goals first | walk_at "zi" | k_is | kernel_rfl | skip
#print axioms PySem.Challenge.cw_roadshare_k42_greatest_of_the_least_holds
