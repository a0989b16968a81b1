import PyProof.Rows.All
import Wide.All
import OpenK.AllK
import Wide.FinOn
import Lean
import PyProof.EqAt
import PyProof.EqKinds
import PyProof.TupleCall
import KE.KIntText
import PyProof.SetRoads
import PySem.Challenge.RW_roadshare_k75_two_shires_asked
open PySem.W (instObj methodObj hideAll hideAll_get of_hideAll lookIn plainGet hasDictIn handedIn plainGet_of isFn plainOver takerIn makesIn emptyDict keepIn kitOne kia_one kitx_list kitx_dict callWith_K methodCall_KW cellsFrom_some fnOf codeIn excIn exmOne kdl_call kdl_dict KeqHits codeHdIn codeHd_of_K nsIn mg_of mg_none_of km_in_of)
abbrev Ya:=@PySem.wpAny_bind
abbrev Yb:=@PySem.wpAny_pure
abbrev Yc:=@List.getElem?_eq_getElem
abbrev Yd:=@Nat.le_refl
abbrev Ye:=@PySem.Heap.lt_size
abbrev Yf:=@List.getElem?_eq_some_iff
abbrev Yg:=@PySem.Heap.get?_push_of_some
abbrev Yh:=@List.getElem?_map
abbrev Yi:=@List.length_map
abbrev Yj:=@Nat.le_trans
abbrev Yk:=@List.mem_map
abbrev Yl:=@List.mem_cons
abbrev Ym:=@PySem.Heap.get?_push_size
abbrev Yn:=@Nat.ne_of_lt
abbrev Yo:=@PySem.wpAny_mono
abbrev Yp:=@List.mem_append
abbrev Yq:=@Nat.lt_of_lt_of_le
abbrev Yr:=@Bool.false_ne_true
abbrev Ys:=@List.map_cons
abbrev Yt:=@Nat.le_of_lt
abbrev Yu:=@List.mem_singleton
abbrev Yv:=@Int.emod_nonneg
abbrev Yw:=@Int.emod_lt_of_pos
abbrev Yx:=@List.getElem_mem
abbrev Yy:=@List.mem_append_right
abbrev Yz:=@List.mem_of_getElem?
abbrev YA:=@Nat.zero_le
abbrev YB:=@Array.getElem?_toList
abbrev YC:=@decide_eq_false
abbrev YD:=@PySem.PassesOwn.never
abbrev YE:=@PySem.wpAny_holding
abbrev YF:=@PySem.codeAny_mono
abbrev YG:=@Array.length_toList
abbrev YH:=@List.mem_range
abbrev YI:=@List.getElem?_append_right
abbrev YJ:=@decide_eq_true
abbrev YK:=@List.getElem?_append_left
abbrev YL:=@List.take_add_one
abbrev YM:=@PySem.codeAny_builtin
abbrev YN:=@Nat.lt_of_le_of_lt
abbrev YO:=@List.take_length
abbrev YQ:=@List.map_append
abbrev YR:=@Nat.lt_irrefl
abbrev YS:=@List.getElem?_eq_none
abbrev YT:=@PySem.wpAny_setEntries_of
abbrev YU:=@PySem.wpAny_Call_Name_kw
abbrev YV:=@PySem.wpAny_call_entry
abbrev YW:=@Option.some.inj
abbrev YX:=@Array.getElem?_eq_getElem
abbrev YY:=@List.mem_cons_of_mem
abbrev YZ:=@List.length_append
abbrev Y0:=@List.size_toArray
abbrev Y1:=@PySem.wpAny_truthy_bool
abbrev Y2:=@List.getElem?_of_mem
abbrev Y3:=@PySem.Around.under_plainId
abbrev Y4:=@PySem.mem_of_lookup
abbrev Y5:=@PySem.wpAny_newObj_type
abbrev Y6:=@List.length_take
abbrev Y7:=@List.map_map
abbrev Y8:=@PyProof.Rows.callWith_type1
abbrev Y9:=@Option.map_eq_some_iff
abbrev Va:=@Rat.num_divInt_den
abbrev Vb:=@Int.toNat_natCast
abbrev Vc:=@PySem.wpAny_setState_of
abbrev Vd:=@List.length_cons
abbrev Ve:=@List.mem_filter
abbrev Vf:=@PySem.wpAny_call
abbrev Vg:=@List.getElem?_set_self
abbrev Vh:=@List.getElem?_set_ne
abbrev Vi:=@List.mem_cons_self
abbrev Vj:=@PySem.wpAny_isInstance
abbrev Vk:=@List.append_nil
abbrev Vl:=@PySem.wpAny_passesOwn
abbrev Vm:=@PySem.plainId_quiet
abbrev Vn:=@Nat.le_succ
abbrev Vo:=@PySem.wpAny_rule
abbrev Vp:=@PySem.wpAny_load
abbrev Vq:=@List.Nodup.length_le_of_subset
abbrev Vr:=@PySem.Heap.get?_update_other
abbrev Vs:=@beq_eq_false_iff_ne
abbrev Vt:=@Nat.lt_succ_of_lt
abbrev Vu:=@List.ext_getElem?
abbrev Vv:=@Bool.eq_iff_iff
abbrev Vw:=@PySem.wpAny_ite_split
abbrev Vx:=@PySem.wpAny_execs_nil
abbrev Vy:=@PySem.Heap.size_push
abbrev Vz:=@Nat.ne_of_gt
abbrev VA:=@PySem.wpAny_attempt
abbrev VB:=@beq_iff_eq
abbrev VC:=@Classical.byContradiction
abbrev VD:=@List.mem_append_left
abbrev VE:=@List.map_congr_left
abbrev VF:=@PySem.codeAny_call_builtin
abbrev VG:=@List.pairwise_map
abbrev VH:=@PySem.Calls.spliced_cons
abbrev VI:=@Nat.lt_succ_self
abbrev VJ:=@Nat.not_lt_zero
abbrev VL:=@List.nodup_cons
abbrev VM:=@PySem.wpAny_forIn_list
abbrev VN:=@Int.gcd_pos_of_ne_zero_right
abbrev VO:=@Array.getD_eq_getD_getElem?
abbrev VP:=@PySem.wpAny_callSpecial?_slot
abbrev VQ:=@PySem.Calls.callWith_builtin
abbrev VR:=@List.filterMap_cons
abbrev VS:=@PySem.Heap.get?_update_self
abbrev VT:=@PySem.Calls.evalArgs_plain
abbrev VU:=@PySem.wpAny_tupleItemsOf
abbrev VV:=@Nat.gcd_dvd_left
abbrev VW:=@PySem.wpAny_setEpoch_of
abbrev VX:=@PySem.F.plain_list_iadd
abbrev VY:=@Int.fdiv_eq_ediv_of_nonneg
abbrev VZ:=@List.drop_eq_getElem_cons
abbrev V0:=@List.length_eq_zero_iff
abbrev V1:=@Nat.pow_le_pow_right
abbrev PySem.VSP:=PySem.Value->PySem.Shared->Prop
set_option Elab.async false
set_option linter.all false
set_option maxRecDepth 100000
namespace L2
open PySem PySem.Spec PyProof.Rows
abbrev Je:=Sum Int Str
def Zkf:Je->Value->Bool
 | .inl k,v=>Value.isInt k v
 | .inr x,v=>Value.isStrOf x v
def ZuI(w:World):Je->Int
 | .inl k=>hashInt k
 | .inr x=>hashStr w x
def ZaF:∀ {k:Je}{v:Value},Zkf k v=true->(∃ i t,k=Sum.inl i/\v=Value.int i t)\/(∃ x t,k=Sum.inr x/\v=Value.str x t)
 | .inl i,v,h=>by
  obtain⟨t,e⟩:=Value.isInt_shape (k:=i) (v:=v) h
  exact .inl ⟨i,t,rfl,e⟩
 | .inr x,v,h=>by
  obtain⟨t,e⟩:=Value.isStrOf_shape (x:=x) (v:=v) h
  exact .inr ⟨x,t,rfl,e⟩
theorem ZkB(i:Int)(t:Tok):Zkf (.inl i) (.int i t)=true:=by simp [Zkf,Value.isInt]
theorem ZlX(x:Str)(t:Tok):Zkf (.inr x) (.str x t)=true:=by simp [Zkf,Value.isStrOf]
def ZrI(a b:Int):decide ((Sum.inl a:Je)=Sum.inl b)=(a == b):=by
 by_cases e:a=b
 ·subst e; simp
 ·have h:¬ (Sum.inl a:Je)=Sum.inl b:=λq=>e (Sum.inl.inj q)
  rw [YC h]
  exact (Vs.mpr e).symm
def Zsc(a b:Str):decide ((Sum.inr a:Je)=Sum.inr b)=decide (a=b):=by
 by_cases e:a=b
 ·subst e; simp
 ·have h:¬ (Sum.inr a:Je)=Sum.inr b:=λq=>e (Sum.inr.inj q)
  rw [YC h,YC e]
def Zst(a:Int)(b:Str):decide ((Sum.inl a:Je)=Sum.inr b)=false:=YC (λq=>nomatch q)
def ZrM(a:Str)(b:Int):decide ((Sum.inr a:Je)=Sum.inl b)=false:=YC (λq=>nomatch q)
def ZL(prog:Program)(w:World):PySem.KeyKind prog w Je where
 is:=Zkf
 hash:=ZuI w
 inj:=λv a b ha hb=>by
  rcases ZaF ha with ⟨i,t,rfl,rfl⟩ | ⟨x,t,rfl,rfl⟩
  ·rcases ZaF hb with ⟨j,u,rfl,e⟩ | ⟨y,u,rfl,e⟩
   ·injection e with e1 _; rw [e1]
   ·exact nomatch e
  ·rcases ZaF hb with ⟨j,u,rfl,e⟩ | ⟨y,u,rfl,e⟩
   ·exact nomatch e
   ·injection e with e1 _; rw [e1]
 byValue:=λk v h=>by
  rcases ZaF h with ⟨i,t,rfl,rfl⟩ | ⟨x,t,rfl,rfl⟩ <;> rfl
 pyHash:=λhv h=>by
  rcases ZaF hv with ⟨i,t,rfl,rfl⟩ | ⟨x,t,rfl,rfl⟩
  ·exact wpAny_pyHash_int h
  ·exact wpAny_pyHash_str h
 eqBool:=λhu hv h=>by
  rcases ZaF hu with ⟨i,t,rfl,rfl⟩ | ⟨x,t,rfl,rfl⟩
  ·rcases ZaF hv with ⟨j,u,rfl,rfl⟩ | ⟨y,u,rfl,rfl⟩
   ·rw [ZrI] at h; exact wpAny_eqBool_int h
   ·rw [Zst] at h; exact SeqAt.EqAt.int_str i t y u _ _ _ _ h
  ·rcases ZaF hv with ⟨j,u,rfl,rfl⟩ | ⟨y,u,rfl,rfl⟩
   ·rw [ZrM] at h; exact SeqAt.EqAt.str_int x t j u _ _ _ _ h
   ·rw [Zsc] at h; exact wpAny_eqBool_str h
 «strs»:=λk x t v h=>by
  rcases ZaF h with ⟨i,u,rfl,e⟩ | ⟨y,u,rfl,e⟩
  ·exact nomatch e
  ·injection e with e1 _
   subst e1
   cases v <;> rfl
def ZhF(prog:Program)(w:World)(i:Int)(t:Tok):(ZL prog w).is (.inl i) (.int i t)=true:=ZkB i t
def ZhM(prog:Program)(w:World)(x:Str)(t:Tok):(ZL prog w).is (.inr x) (.str x t)=true:=ZlX x t
inductive V where
 | non | bl (b:Bool) | int (i:Int) | str (x:Str) | byt (b:Array UInt8) | flt (b:UInt64) | ref (a:Addr) | ty (n:String)
 deriving DecidableEq
def ZP:V->Value->Prop
 | .non,u=>u=Value.none
 | .bl b,u=>u=Value.bool b
 | .int i,u=>∃ t,u=Value.int i t
 | .str x,u=>∃ t,u=Value.str x t
 | .byt b,u=>∃ t,u=Value.bytes b t
 | .flt b,u=>∃ t,u=Value.float b t
 | .ref a,u=>u=Value.ref a
 | .ty n,u=>u=Value.type n
abbrev ZD:List V->List Value->Prop:=Paired ZP
variable {us:List Value}
theorem ZD.length{xs:List V}(r:ZD xs us):xs.length=us.length:=Paired.length r
theorem ZD.get:∀ {xs:List V}{us:List Value}{i:Nat}{x:V},ZD xs us->xs[i]?=some x->∃ u,us[i]?=some u/\ZP x u
 | _,_,_,_,.nil,e=>by simp at e
 | _,_,0,_,.cons r _,e=>by simp at e; subst e; exact⟨_,rfl,r⟩
 | _,_,i + 1,x,.cons _ t,e=>by
  obtain⟨u,h1,h2⟩:=ZD.get (i:=i) (x:=x) t (by simpa using e)
  exact⟨u,by simpa using h1,h2⟩
variable {u:Value}
theorem ZD.set{x:V}(r:ZP x u):∀ {xs:List V}{us:List Value}(i:Nat),ZD xs us->ZD (xs.set i x) (us.set i u)
 | _,_,_,.nil=>.nil
 | _,_,0,.cons _ t=>.cons r t
 | _,_,i + 1,.cons q t=>.cons q (ZD.set r i t)
theorem ZD.append:∀ {xs ys:List V}{us ws:List Value},ZD xs us->ZD ys ws->ZD (xs ++ ys) (us ++ ws)
 | _,_,_,_,.nil,s=>s
 | _,_,_,_,.cons r t,s=>.cons r (ZD.append t s)
theorem ZD.take:∀ {xs:List V}{us:List Value}(n:Nat),ZD xs us->ZD (xs.take n) (us.take n)
 | _,_,0,_=>.nil
 | _,_,_ + 1,.nil=>.nil
 | _,_,n + 1,.cons r t=>.cons r (ZD.take n t)
theorem ZD.drop:∀ {xs:List V}{us:List Value}(n:Nat),ZD xs us->ZD (xs.drop n) (us.drop n)
 | _,_,0,r=>r
 | _,_,_ + 1,.nil=>.nil
 | _,_,n + 1,.cons _ t=>ZD.drop n t
def ZD.none_of:∀ {xs:List V}{us:List Value}{i:Nat},ZD xs us->xs[i]?=none->us[i]?=none:=λ{xs us i} r e=>by
 have h1:=r.length
 have h2:xs.length<=i:=List.getElem?_eq_none_iff.mp e
 exact List.getElem?_eq_none_iff.mpr (by omega)
def J0:Option V->Option Value->Prop
 | some v,some u=>ZP v u
 | none,none=>True
 | _,_=>False
def KV{κ:Type}:List (κ × V)->List (κ × Value)->Prop:=Paired λ(p:κ × V) (q:κ × Value)=>p.1=q.1/\ZP p.2 q.2
def kV:Je->V
 | .inl i=>.int i
 | .inr x=>.str x
inductive HO where
 | lst (xs:List V)
 | tup (xs:List V)
 | dK (kvs:List (Je × V)) | dT (kvs:List (List Je × V))
 | set (S:Int->Bool) (n:Nat)
 | ins (C dx:Addr) (fs:List (Str × V))
 | own (x:Addr)
 | xd (fs:List (Str × V))
 | met (f x:Addr)
 | rng (lo hi:Int)
 | frz (o:Obj) (u:HO)
 | tbl (ps:Array Value)
 | ext (φ:Heap->Prop)
abbrev Hp:=Addr->Option HO
def upd(H:Hp)(a:Addr)(o:HO):Hp:=λb=>if b=a then some o else H b
variable {H:Hp}
theorem Zi{a:Addr}{o:HO}:upd H a o a=some o:=by unfold upd; rw [if_pos rfl]
theorem Zj{a b:Addr}{o:HO}(h:b ≠ a):upd H a o b=H b:=by unfold upd; rw [if_neg h]
def JJ{a b:Addr}{o u:HO}(h:H a=some o)(h':H b=some u)(d:o ≠ u):a ≠ b:=by
 intro e; subst e; rw [h] at h'; exact d (YW h')
theorem Zo{a b:Addr}{o:HO}(h:H a=some o)(h':H b=none):a ≠ b:=by
 intro e; subst e; rw [h] at h'; cases h'
section
variable (P:Program)(w:World)
def Ji(H:Hp)(h:Heap)(a:Addr):HO->Prop
 | .lst xs=>xs.length<=sizeLine/\∃ (its:List Value) (n:Nat),ZD xs its/\h.get? a=some { cls:=.type "list",data:=.seq its.toArray n }
 | .tup xs=>xs.length<=sizeLine/\∃ its:List Value,ZD xs its/\IsTup h a its.toArray
 | .dK kvs=>kvs.length<=sizeLine/\(a == sysModules)=false/\∃ vs,KV kvs vs/\h.DictOf (ZL P w) a vs
 | .dT kvs=>kvs.length<=sizeLine/\(a == sysModules)=false/\∃ xs:List (List Je × Addr × Value),
   Paired (λ(p:List Je × V) (q:List Je × Addr × Value)=>p.1=q.1/\H q.2.1=some (.tup (p.1.map kV))/\ZP p.2 q.2.2) kvs xs /\
   ∃ o es ep,h.get? a=some o/\o.ExactDict/\o.data=.dict es ep/\es.toList=xs.map (entryOfKey (tupleKind (ZL P w)))/\(xs.map (·.1)).Nodup
 | .set S n=>h.SetOf (intKind P w) a S n
 | .ins C dx fs=>H dx=some (.own a)/\fs.length<=1000/\dx ≠ a/\h.get? a=some (instObj C dx) /\
   ∃ mA,h.Ns1 dx mA/\(∀ f,J0 (fs.lookup f) (mA f))/\PySem.Within mA (fs.map (·.1))
 | .own _=>∃ o,h.get? a=some o
 | .xd fs=>∃ mA,h.Ns1 a mA/\∀ f,J0 (fs.lookup f) (mA f)
 | .rng lo hi=>∃ t u v,h.get? a=some { cls:=.type "range",data:=.fields #[.int lo t,.int hi u,.int 1 v] }
 | .frz o u=>h.get? a=some o/\Ji H h a u
 | .tbl ps=>∃ qs:Array Value,h.get? a=some { cls:=.none,data:=.fields qs }/\TriplesOk qs.toList/\∀ (pos:Pos) (v:Value),codeAmong pos qs.toList=some v ->
   ∃ (c:Addr) (o:Obj) (vs:Array Value) (q:Str) (t t':Tok),v=.ref c/\H c=some (.frz o (.own a))/\o.data=.fields vs/\vs[1]?=some (.str q t)/\ps[0]?=some (.str q t')
 | .met f x=>h.get? a=some (methodObj (.ref f) (.ref x))
 | .ext φ=>φ h/\(∃ o,h.get? a=some o)/\∀ h1 h2:Heap,φ h1->(∀ o,h1.get? a=some o->h2.get? a=some o)->φ h2
def HOk(H:Hp)(h:Heap):Prop:=∀ a o,H a=some o->Ji P w H h a o
end
section
variable {P:Program}{w:World}{H H':Hp}{h h':Heap}{a:Addr}{o:HO}
def Ji.lt(x:Ji P w H h a o):a < h.objs.size:=by
 cases o with
 | lst xs=>obtain⟨_,_,_,_,e⟩:=x; exact Ye e
 | tup xs=>obtain⟨_,_,_,p⟩:=x; exact p.lt
 | dK kvs=>obtain⟨_,_,_,_,o,_,_,e,_⟩:=x; exact Ye e
 | dT kvs=>obtain⟨_,_,_,_,o,_,_,e,_⟩:=x; exact Ye e
 | set S n=>obtain⟨o,_,_,_,e,_⟩:=x; exact Ye e
 | ins C dx fs=>obtain⟨_,_,_,e,_⟩:=x; exact Ye e
 | own y=>obtain⟨_,e⟩:=x; exact Ye e
 | xd fs=>obtain⟨_,⟨_,_,_,e,_⟩,_⟩:=x; exact Ye e
 | rng lo hi=>obtain⟨_,_,_,e⟩:=x; exact Ye e
 | frz ob u=>obtain⟨e,_⟩:=x; exact Ye e
 | tbl ps=>obtain⟨_,e,_⟩:=x; exact Ye e
 | met f y=>exact Ye (show h.get? a=some _ from x)
 | ext φ=>obtain⟨_,⟨_,e⟩,_⟩:=x; exact Ye e
def Paired.mapP{α β:Type}{F G:α->β->Prop}:∀ {l₁:List α}{l₂:List β},Paired F l₁ l₂->(∀ a b,F a b->G a b)->Paired G l₁ l₂
 | _,_,.nil,_=>.nil
 | _,_,.cons r t,f=>.cons (f _ _ r) (Paired.mapP t f)
def Ji.stay(x:Ji P w H h a o)(k:∀ b u,(b=a\/H b=some (.own a))->h.get? b=some u->h'.get? b=some u)
  (ho:∀ b,H b=some (.own a)->H' b=some (.own a)) (ht:∀ b xs,H b=some (.tup xs)->H' b=some (.tup xs))
  (hf:∀ b o,H b=some (.frz o (.own a))->H' b=some (.frz o (.own a)):=by exact λ_ _ q=>q):Ji P w H' h' a o:=by
 induction o with
 | lst xs=>obtain⟨z,its,n,r,e⟩:=x; exact⟨z,its,n,r,k _ _ (.inl rfl) e⟩
 | tup xs=>obtain⟨z,its,r,ob,e,c⟩:=x; exact⟨z,its,r,ob,k _ _ (.inl rfl) e,c⟩
 | dK kvs=>obtain⟨z,y,vs,r,ob,es,ep,e,c⟩:=x; exact⟨z,y,vs,r,ob,es,ep,k _ _ (.inl rfl) e,c⟩
 | dT kvs =>
  obtain⟨z,y,xs,r,ob,es,ep,e,c⟩:=x
  exact⟨z,y,xs,Paired.mapP r λp q z=>⟨z.1,ht _ _ z.2.1,z.2.2⟩,ob,es,ep,k _ _ (.inl rfl) e,c⟩
 | set S n=>obtain⟨ob,es,ep,t,e,c⟩:=x; exact⟨ob,es,ep,t,k _ _ (.inl rfl) e,c⟩
 | ins C dx fs =>
  obtain⟨d,z,ne,e,mA,⟨od,es,ep,e2,c⟩,r⟩:=x
  exact⟨ho _ d,z,ne,k _ _ (.inl rfl) e,mA,⟨od,es,ep,k _ _ (.inr d) e2,c⟩,r⟩
 | own y=>obtain⟨ob,e⟩:=x; exact⟨ob,k _ _ (.inl rfl) e⟩
 | xd fs=>obtain⟨mA,⟨od,es,ep,e,c⟩,r⟩:=x; exact⟨mA,⟨od,es,ep,k _ _ (.inl rfl) e,c⟩,r⟩
 | rng lo hi=>obtain⟨t,u,v,e⟩:=x; exact⟨t,u,v,k _ _ (.inl rfl) e⟩
 | frz ob u ih=>obtain⟨e,q⟩:=x; exact⟨k _ _ (.inl rfl) e,ih q⟩
 | tbl ps =>
  obtain⟨qs,e,t,f⟩:=x
  exact⟨qs,k _ _ (.inl rfl) e,t,λpos v z=>by
   obtain⟨c,o,vs,q,t,t',e1,e2,r⟩:=f pos v z
   exact⟨c,o,vs,q,t,t',e1,hf _ _ e2,r⟩⟩
 | met f y =>
  have e:h.get? a=some (methodObj (.ref f) (.ref y)):=x
  show h'.get? a=some (methodObj (.ref f) (.ref y))
  exact k a _ (.inl rfl) e
 | ext φ=>obtain⟨p,⟨o,e⟩,st⟩:=x; exact⟨st _ _ p λo q=>k _ _ (.inl rfl) q,⟨o,k _ _ (.inl rfl) e⟩,st⟩
def HOk.lt(x:HOk P w H h)(e:H a=some o):a < h.objs.size:=(x a o e).lt
theorem HOk.fresh(x:HOk P w H h)(e:h.objs.size<=a):H a=none:=by
 cases q:H a with
 | none=>rfl
 | some u=>exact absurd (Yq (x.lt q) e) (YR _)
theorem HOk.kept(x:HOk P w H h)(k:∀ b u,h.get? b=some u->h'.get? b=some u):HOk P w H h':=λa o e =>
 (x a o e).stay (λb u _ q=>k b u q) (λ_ q=>q) λ_ _ q=>q
theorem HOk.laid(x:HOk P w H h)(k:∀ b u,h.get? b=some u->h'.get? b=some u)(hp:h.objs.size<=a)(new:Ji P w (upd H a o) h' a o):HOk P w (upd H a o) h':=λb u e=>by
 have hn:=x.fresh hp
 by_cases hb:b=a
 ·subst hb; rw [Zi] at e; cases e; exact new
 ·rw [Zj hb] at e
  exact (x b u e).stay (λc v _ q=>k c v q) (λc q=>by rw [Zj (Zo q hn)]; exact q) (λc xs q=>by rw [Zj (Zo q hn)]; exact q) λc o q=>by rw [Zj (Zo q hn)]; exact q
end
def Rd(H:Hp)(a:Addr)(u:HO):Prop:=H a=some u\/∃ o,H a=some (.frz o u)
theorem Rd.of{a:Addr}{u:HO}(h:H a=some u):Rd H a u:=.inl h
variable {P:Program}{w:World}
theorem Rd.ok{h:Heap}{a:Addr}{u:HO}(r:Rd H a u)(x:HOk P w H h):Ji P w H h a u:=by
 rcases r with r | ⟨o,r⟩
 ·exact x a u r
 ·obtain⟨_,q⟩:=x a _ r
  exact q
def Mut:Option HO->Prop
 | some (.lst _)=>True
 | some (.dK _)=>True
 | some (.dT _)=>True
 | some (.set _ _)=>True
 | some (.ins _ _ _)=>True
 | some (.ext _)=>True
 | _=>False
section
variable {P:Program}{w:World}{H:Hp}{h h':Heap}{x e:Addr}{o':HO}
def HOk.write(ok:HOk P w H h)(mu:Mut (H x))(he:e=x\/H e=some (.own x))(k:∀ b u,b ≠ e->h.get? b=some u->h'.get? b=some u)(heo:∃ u,h'.get? e=some u)
  (new:Ji P w (upd H x o') h' x o'):HOk P w (upd H x o') h':=λb u q=>by
 have nown:∀ c y,H c=some (.own y)->c ≠ x:=λc y r z=>by subst z; rw [r] at mu; exact mu
 have ntup:∀ c xs,H c=some (.tup xs)->c ≠ x:=λc xs r z=>by subst z; rw [r] at mu; exact mu
 by_cases hb:b=x
 ·subst hb; rw [Zi] at q; cases q; exact new
 ·rw [Zj hb] at q
  by_cases hbe:b=e
  ·have q':H b=some (.own x):=by
    rcases he with z | z
    ·exact absurd (hbe.trans z) hb
    ·rw [hbe]; exact z
   rw [q] at q'; cases q'
   obtain⟨v,hv⟩:=heo
   exact⟨v,by rw [hbe]; exact hv⟩
  ·refine (ok b u q).stay (λc v hc r=>k c v ?_ r) (λc r=>by rw [Zj (nown c b r)]; exact r) (λc xs r=>by rw [Zj (ntup c xs r)]; exact r) λc o r=>by rw [Zj λz=>by subst z; rw [r] at mu; exact mu]; exact r
   rcases hc with rfl | hc
   ·exact hbe
   ·rintro rfl
    rcases he with z | z
    ·exact nown c b hc z
    ·rw [hc] at z; cases z; exact hb rfl
end
structure Un(fs ex:List Addr)(H H':Hp)(h h':Heap):Prop where
 keep:∀ b o,h.get? b=some o->H b=none->b ∉ fs->b ∉ ex->h'.get? b=some o
 slot:∀ b o,h.get? b=some o->H b=none->b∈fs->b ∉ ex->∃ sl,h'.get? b=some { o with slots:=sl }
 free:∀ b o,h.get? b=some o->H b=none->b ∉ ex->H' b=none
 there:∀ b o,h.get? b=some o->b ∉ ex->∃ o',h'.get? b=some o'
 tups:∀ b xs,H b=some (.tup xs)->H' b=some (.tup xs)
 frzs:∀ b o u,H b=some (.frz o u)->H' b=some (.frz o u)
 tbls:∀ b ps,H b=some (.tbl ps)->∃ more,H' b=some (.tbl (ps ++ more))
section
variable {fs fs' ex ex':List Addr}{H H1 H2:Hp}{h h1 h2 h':Heap}{a x e:Addr}{o:HO}
theorem Un.any(u:Un fs ex H H1 h h1){b:Addr}{ob:Obj}(q:h.get? b=some ob)(n:H b=none)(hx:b ∉ ex):∃ sl,h1.get? b=some { ob with slots:=sl }:=by
 by_cases hb:b∈fs
 ·exact u.slot b ob q n hb hx
 ·exact⟨ob.slots,u.keep b ob q n hb hx⟩
theorem Un.trans(a:Un fs ex H H1 h h1)(b:Un fs ex H1 H2 h1 h2):Un fs ex H H2 h h2 where
 keep:=λc ob q n hc hx=>b.keep c ob (a.keep c ob q n hc hx) (a.free c ob q n hx) hc hx
 slot:=λc ob q n hc hx=>by
  obtain⟨sl,e1⟩:=a.slot c ob q n hc hx
  obtain⟨sl',e2⟩:=b.slot c _ e1 (a.free c ob q n hx) hc hx
  exact⟨sl',e2⟩
 free:=λc ob q n hx=>by
  obtain⟨o',e1⟩:=a.there c ob q hx
  exact b.free c o' e1 (a.free c ob q n hx) hx
 there:=λc ob q hx=>by
  obtain⟨o',e1⟩:=a.there c ob q hx
  exact b.there c o' e1 hx
 tups:=λc xs q=>b.tups c xs (a.tups c xs q)
 frzs:=λc ob xs q=>b.frzs c ob xs (a.frzs c ob xs q)
 tbls:=λc ps q=>by
  obtain⟨m1,e1⟩:=a.tbls c ps q
  obtain⟨m2,e2⟩:=b.tbls c _ e1
  exact⟨m1 ++ m2,by rw [e2,Array.append_assoc]⟩
theorem Un.kept(k:∀ b u,h.get? b=some u->h'.get? b=some u):Un fs ex H H h h' :=
 ⟨λb ob q _ _ _=>k b ob q,λb ob q _ _ _=>⟨ob.slots,k b ob q⟩,λ_ _ _ n _=>n,λb ob q _=>⟨ob,k b ob q⟩,λ_ _ q=>q,λ_ _ _ q=>q,λ_ ps q=>⟨#[],by rw [q]; simp⟩⟩
theorem Un.refl:Un fs ex H H h h:=Un.kept λ_ _ q=>q
theorem Un.laid(k:∀ b u,h.get? b=some u->h'.get? b=some u)(hp:h.objs.size<=a)(hn:H a=none):Un fs ex H (upd H a o) h h' where
 keep:=λb u q _ _ _=>k b u q
 slot:=λb u q _ _ _=>⟨u.slots,k b u q⟩
 free:=λb u q n _=>by rw [Zj (Yn (Yq (Ye q) hp))]; exact n
 there:=λb u q _=>⟨u,k b u q⟩
 tups:=λb xs q=>by rw [Zj (Zo q hn)]; exact q
 frzs:=λb u xs q=>by rw [Zj (Zo q hn)]; exact q
 tbls:=λb ps q=>⟨#[],by rw [Zj (Zo q hn),q]; simp⟩
def Un.write(mu:Mut (H x))(he:e=x\/H e=some (.own x))(k:∀ b u,b ≠ e->h.get? b=some u->h'.get? b=some u)(heo:∃ u,h'.get? e=some u):Un fs ex H (upd H x o) h h':=by
 have hx:∀ b,H b=none->b ≠ x:=λb n z=>by subst z; rw [n] at mu; exact mu
 have hb:∀ b,H b=none->b ≠ e:=λb n z=>by
  subst z
  rcases he with r | r
  ·exact hx b n r
  ·rw [n] at r; cases r
 have hm:∀ b u,H b=some u->¬ Mut (some u)->b ≠ x:=λb u q nm z=>by subst z; rw [q] at mu; exact nm mu
 refine⟨λb u q n _ _=>k b u (hb b n) q,λb u q n _ _=>⟨u.slots,k b u (hb b n) q⟩,λb u q n _=>by rw [Zj (hx b n)]; exact n,λb u q _=>?_,
  λb xs q=>by rw [Zj (hm b _ q λz=>z)]; exact q,λb u xs q=>by rw [Zj (hm b _ q λz=>z)]; exact q,λb ps q=>⟨#[],by rw [Zj (hm b _ q λz=>z),q]; simp⟩⟩
 by_cases hbe:b=e
 ·subst hbe; exact heo
 ·exact⟨u,k b u hbe q⟩
theorem Un.mono(u:Un fs ex H H1 h h1)(hs:∀ b∈fs,b∈fs')(hx:∀ b∈ex,b∈ex'):Un fs' ex' H H1 h h1 :=
 ⟨λb ob q n hb he=>u.keep b ob q n (λz=>hb (hs b z)) λz=>he (hx b z),λ_ _ q n _ he=>u.any q n λz=>he (hx _ z),λb ob q n he=>u.free b ob q n λz=>he (hx b z),λb ob q he=>u.there b ob q λz=>he (hx b z),u.tups,u.frzs,u.tbls⟩
end
def trk(h:Heap)(H:Hp):List Addr:=(List.range h.objs.size).filter λa=>(H a).isSome
def Znx(h:Heap)(H:Hp):Heap:=hideAll h (trk h H)
theorem Zl1(h:Heap)(H:Hp):(Znx h H).objs.size=h.objs.size:=PySem.W.hideAll_size _ _
def ZoM{h:Heap}{b:Addr}{o:Obj}(e:h.get? b=some o)(n:H b=none):(Znx h H).get? b=some o :=
 hideAll_get _ e λhm=>by
  have q:(H b).isSome=true:=(Ve.mp hm).2
  rw [n] at q; simp at q
theorem ZpY{h:Heap}{b:Addr}{o:Obj}(e:(Znx h H).get? b=some o):h.get? b=some o/\H b=none:=by
 have e':h.get? b=some o:=of_hideAll (trk h H) e
 refine⟨e',?_⟩
 cases q:H b with
 | none=>rfl
 | some x =>
  have hm:b∈trk h H:=List.mem_filter.mpr ⟨List.mem_range.mpr (Heap.lt_size e'),by simp [q]⟩
  have z:(Znx h H).get? b=none:=PySem.W.hideAll_none (trk h H) hm
  rw [z] at e; cases e
def ZqH(g h:Heap)(L:Addr):List (Addr × Obj):=(List.range h.objs.size).filterMap λa=>if a=L\/(g.get? a).isSome=true then none else (h.get? a).map λo=>(a,o)
def Jh(g h:Heap)(L d:Addr):List (Addr × Obj):=(ZqH g h L).filter λp=>decide (p.1 ≠ d)
structure Mod(K:PySem.W.Frag)(mg:Str->Option Value)(base:Heap):Prop where
 kin:K.In base
 glob:base.Ns mainGlobals mg
 blt:∃ mb,base.Ns builtinsNs mb/\∀ x:Str,x ≠ "__name__"->mb x=bootBuiltins x
 nolimit:base.NoLimit
structure Cx where
 prog:Program
 w:World
 K:PySem.W.Frag
 mg:Str->Option Value
 base:Heap
 A:Around
 N:List Str
 s₀:Shared
 H₀:Hp
 env:Env
 outer:List Env
 stack:List Env
 ex:List Addr
 fn:Str->Bool
 calm:Bool
 pn:List (Addr × Obj)
 xe:VSP
def frs(l:List Env):List Addr:=l.filterMap (·.frame)
abbrev Cx.fs(X:Cx):List Addr:=frs X.outer
def Vis(sc:Scope)(x:Str):Prop:=sc.names.lookup x=some .local\/sc.names.lookup x=some .cell\/sc.names.lookup x=some .free
def Loc(sc:Scope)(x:Str):Prop:=sc.names.lookup x=some .local\/sc.names.lookup x=some .cell
def ZuM(env:Env)(h:Heap)(m:Str->Option Value)(x:Str)(u:Value):Prop :=
 (env.kindOf x=some .local/\m x=some u)\/((env.kindOf x=some .cell\/env.kindOf x=some .free)/\∃ c,env.cells.lookup x=some c/\h.IsCell c (some u))
structure Cx.Ok(X:Cx):Prop where
 mod:Mod X.K X.mg X.base
 kind:X.env.scope.kind=.function
 glob:X.env.globals=mainGlobals
 blt:X.env.builtins=builtinsNs
 above:X.s₀.heap.objs.size<=X.env.locals
 inj:∀ x y c,X.env.cells.lookup x=some c->X.env.cells.lookup y=some c->x=y
 has:∀ x,(X.env.kindOf x=some .cell\/X.env.kindOf x=some .free)->∃ c,X.env.cells.lookup x=some c
 cab:∀ x c,X.fn x=true->X.env.cells.lookup x=some c->X.s₀.heap.objs.size<=c
 hd:X.calm=true->X.A.handled=none
 frames:X.A.frames=some X.stack
 stk:X.stack=X.outer\/(X.stack=X.env :: X.outer/\X.env.frame=some X.env.locals)
 exf:∀ b∈X.ex,b ≠ X.env.locals/\∀ x c,X.env.cells.lookup x=some c->c ≠ b
 bs:∀ b o,X.base.get? b=some o->X.s₀.heap.get? b=some o/\X.H₀ b=none
 bsz:X.base.objs.size<=X.s₀.heap.objs.size
 noex:∀ b o,X.base.get? b=some o->b ∉ X.ex
 exfs:∀ b∈X.ex,b ∉ X.fs
 funs:X.s₀.heap.FunFrames X.base X.outer
 frf:∀ b∈X.fs,X.H₀ b=none
structure Inv(X:Cx)(pins:List (Addr × Obj))(Z:List (Option V))(H:Hp)(s:Shared):Prop where
 ok:X.Ok
 os:s.os=X.s₀.os
 bare:AllBare s.gens
 base:Un X.fs X.ex X.H₀ H X.s₀.heap s.heap
 loc:∃ m,s.heap.Ns X.env.locals m/\∀ (i:Nat) (x:Str) (v:V),X.N[i]?=some x->Z[i]?=some (some v)->Vis X.env.scope x->∃ u,ZP v u/\ZuM X.env s.heap m x u
 cell:∀ x c,X.env.cells.lookup x=some c->∃ v,s.heap.IsCell c v
 free:H X.env.locals=none
 freeC:∀ x c,X.env.cells.lookup x=some c->H c=none
 pin:∀ p∈X.pn ++ pins,s.heap.get? p.1=some p.2/\H p.1=none/\p.1 ≠ X.env.locals/\p.1 ∉ X.fs/\∀ v,p.2.data ≠ .cell v
 hok:HOk X.prog X.w H s.heap
 len:Z.length=X.N.length
section
variable {X:Cx}{pins:List (Addr × Obj)}{Z:List (Option V)}{H H':Hp}{s:Shared}{h':Heap}
def Cx.Ok.nofr(ok:X.Ok){b:Addr}{o:Obj}(e:X.base.get? b=some o):b ∉ X.fs:=λhb=>by
 have:=(ok.funs.mem hb).1
 rw [e] at this; cases this
theorem Inv.bs(I:Inv X pins Z H s):∀ b o,X.base.get? b=some o->s.heap.get? b=some o/\H b=none:=λb o e =>
 ⟨I.base.keep b o (I.ok.bs b o e).1 (I.ok.bs b o e).2 (I.ok.nofr e) (I.ok.noex b o e),I.base.free b o (I.ok.bs b o e).1 (I.ok.bs b o e).2 (I.ok.noex b o e)⟩
def Inv.bk(I:Inv X pins Z H s):∀ b o,X.base.get? b=some o->s.heap.get? b=some o:=λb o e=>(I.bs b o e).1
theorem Inv.mod(I:Inv X pins Z H s):Mod X.K X.mg X.base:=I.ok.mod
theorem Inv.kIn(I:Inv X pins Z H s):X.K.In s.heap:=I.ok.mod.kin.keeps I.bk
def Inv.nolimit(I:Inv X pins Z H s):s.heap.NoLimit:=I.ok.mod.nolimit.keeps I.bk
def Inv.fr(I:Inv X pins Z H s):∃ m,Fr X.base X.env.locals s.heap m :=
 let ⟨m,hn,_⟩:=I.loc
 ⟨m,hn,I.bk,Yj I.ok.bsz I.ok.above⟩
def Inv.lt(I:Inv X pins Z H s):X.env.locals < s.heap.objs.size:=let ⟨_,hn,_⟩:=I.loc; hn.lt
theorem Inv.sz(I:Inv X pins Z H s):X.s₀.heap.objs.size<=s.heap.objs.size:=Yj I.ok.above (Yt I.lt)
def Inv.nofs(I:Inv X pins Z H s){a:Addr}(h:s.heap.objs.size<=a):a ∉ X.fs:=λhb=>by
 obtain⟨_,o,ho,_⟩:=I.ok.funs.mem hb
 exact absurd (Yq (Ye ho) (Yj I.sz h)) (YR _)
theorem Inv.cne(I:Inv X pins Z H s):∀ x c,X.env.cells.lookup x=some c->c ≠ X.env.locals:=λx c e z=>by
 obtain⟨v,o,ho,hd⟩:=I.cell x c e
 obtain⟨m,⟨o',es,ep,ho',hd',_⟩,_⟩:=I.loc
 rw [z,ho'] at ho; cases ho; rw [hd'] at hd; cases hd
theorem Inv.funs(I:Inv X pins Z H s):s.heap.FunFrames X.base X.outer:=by
 have all:∀ (l:List Env),(∀ b∈frs l,b∈X.fs)->X.s₀.heap.FunFrames X.base l->s.heap.FunFrames X.base l:=by
  intro l
  induction l with
  | nil=>intro _ _; trivial
  | cons env r ih =>
   intro hs hl
   obtain⟨hk,⟨L,o,hf,hn,ho,hd⟩,hr⟩:=hl
   have hL:L∈X.fs:=hs L (by unfold frs; rw [List.filterMap_cons,hf]; exact List.mem_cons_self)
   obtain⟨sl,e⟩:=I.base.slot L o ho (I.ok.frf L hL) hL λz=>I.ok.exfs L z hL
   exact⟨hk,⟨L,_,hf,hn,e,hd⟩,ih (λb hb=>hs b (by unfold frs; rw [List.filterMap_cons,hf]; exact List.mem_cons_of_mem _ hb)) hr⟩
 exact all X.outer (λ_ hb=>hb) I.ok.funs
def Inv.stack(I:Inv X pins Z H s):s.heap.FunFrames X.base X.stack:=by
 rcases I.ok.stk with e | ⟨e,hf⟩
 ·rw [e]; exact I.funs
 ·rw [e]
  obtain⟨m,hn,_⟩:=I.loc
  refine .cons (by rw [I.ok.kind]; decide) hf hn ?_ I.funs
  exact Heap.get?_none_of_le (Yj I.ok.bsz I.ok.above)
def Inv.stkSub(I:Inv X pins Z H s):∀ b∈frs X.stack,b∈X.env.locals :: X.fs:=λb hb=>by
 rcases I.ok.stk with e | ⟨e,hf⟩
 ·rw [e] at hb; exact YY _ hb
 ·rw [e] at hb
  unfold frs at hb
  rw [VR,hf] at hb
  exact hb
def Inv.stkFree(I:Inv X pins Z H s):∀ b∈frs X.stack,H b=none:=λb hb=>by
 rcases Yl.mp (I.stkSub b hb) with e | hb
 ·rw [e]; exact I.free
 ·obtain⟨_,o,ho,_⟩:=I.ok.funs.mem hb
  exact I.base.free b o ho (I.ok.frf b hb) λz=>I.ok.exfs b z hb
theorem Inv.step{g':Array GenState}{t':Nat}{d':Drawn}{ch:List Addr}(I:Inv X pins Z H s)
  (hch:∀ b∈ch,(b∈X.ex\/X.s₀.heap.objs.size<=b)/\b ≠ X.env.locals/\(∀ x c,X.env.cells.lookup x=some c->c ≠ b)/\∀ p∈X.pn ++ pins,p.1 ≠ b)
  (keep:∀ b o,b ≠ X.env.locals->b ∉ X.fs->b ∉ ch->s.heap.get? b=some o->H b=none->h'.get? b=some o)
  (slot:∀ b o,b ≠ X.env.locals->b∈X.fs->b ∉ ch->s.heap.get? b=some o->H b=none->∃ sl,h'.get? b=some { o with slots:=sl }) (free:∀ b o,b ∉ ch->s.heap.get? b=some o->H b=none->H' b=none)
  (there:∀ b o,b ∉ ch->s.heap.get? b=some o->∃ o',h'.get? b=some o')
  (tups:∀ b xs,H b=some (.tup xs)->H' b=some (.tup xs)) (frzs:∀ b o u,H b=some (.frz o u)->H' b=some (.frz o u)) (tbls:∀ b ps,H b=some (.tbl ps)->∃ more,H' b=some (.tbl (ps ++ more)))
  (ns:∀ m,s.heap.Ns X.env.locals m->h'.Ns X.env.locals m) (hok:HOk X.prog X.w H' h') (hg:AllBare g') :
  Inv X pins Z H' { s with heap:=h',gens:=g',drawn:=d',toks:=t' }:=by
 have neL:∀ b o,X.s₀.heap.get? b=some o->b ≠ X.env.locals:=λb o e=>Yn (Yq (Ye e) I.ok.above)
 have neC:∀ b o,X.s₀.heap.get? b=some o->b ∉ X.ex->b ∉ ch:=λb o e hx hb=>by
  rcases (hch b hb).1 with z | z
  ·exact hx z
  ·exact absurd (Yq (Ye e) z) (YR _)
 have cellK:∀ x c,X.env.cells.lookup x=some c->∀ v,s.heap.IsCell c v->h'.IsCell c v:=λx c e v ⟨o,ho,hd⟩=>by
  have nch:c ∉ ch:=λz=>(hch c z).2.2.1 x c e rfl
  by_cases hc:c∈X.fs
  ·obtain⟨sl,q⟩:=slot c o (I.cne x c e) hc nch ho (I.freeC x c e)
   exact⟨_,q,hd⟩
  ·exact⟨o,keep c o (I.cne x c e) hc nch ho (I.freeC x c e),hd⟩
 refine⟨I.ok,I.os,hg,⟨λb o e n hb hx=>?_,λb o e n hb hx=>?_,λb o e n hx=>?_,λb o e hx=>?_,λb xs e=>tups b xs (I.base.tups b xs e),λb o xs e=>frzs b o xs (I.base.frzs b o xs e),λb ps e=>?_⟩,?_,λx c e=>?_,?_,λx c e=>?_,λp hp=>?_,hok,I.len⟩
 ·exact keep b o (neL b o e) hb (neC b o e hx) (I.base.keep b o e n hb hx) (I.base.free b o e n hx)
 ·obtain⟨sl,e1⟩:=I.base.slot b o e n hb hx
  obtain⟨sl',e2⟩:=slot b _ (neL b o e) hb (neC b o e hx) e1 (I.base.free b o e n hx)
  exact⟨sl',e2⟩
 ·obtain⟨o',e1⟩:=I.base.there b o e hx
  exact free b o' (neC b o e hx) e1 (I.base.free b o e n hx)
 ·obtain⟨o',e1⟩:=I.base.there b o e hx
  exact there b o' (neC b o e hx) e1
 ·obtain⟨m1,e1⟩:=I.base.tbls b ps e
  obtain⟨m2,e2⟩:=tbls b _ e1
  exact⟨m1 ++ m2,by rw [e2,Array.append_assoc]⟩
 ·obtain⟨m,hn,hl⟩:=I.loc
  refine⟨m,ns m hn,λi x v e1 e2 e3=>?_⟩
  obtain⟨u,r,l⟩:=hl i x v e1 e2 e3
  refine⟨u,r,?_⟩
  rcases l with l | ⟨k,c,e,z⟩
  ·exact .inl l
  ·exact .inr ⟨k,c,e,cellK x c e _ z⟩
 ·obtain⟨v,z⟩:=I.cell x c e
  exact⟨v,cellK x c e v z⟩
 ·obtain⟨m,⟨o,_,_,ho,_⟩,_⟩:=I.loc
  exact free _ o (λz=>(hch _ z).2.1 rfl) ho I.free
 ·obtain⟨v,o,ho,hd⟩:=I.cell x c e
  exact free c o (λz=>(hch c z).2.2.1 x c e rfl) ho (I.freeC x c e)
 ·obtain⟨e,n,ne,nf,d⟩:=I.pin p hp
  have nch:p.1 ∉ ch:=λz=>(hch p.1 z).2.2.2 p hp rfl
  exact⟨keep p.1 p.2 ne nf nch e n,free p.1 p.2 nch e n,ne,nf,d⟩
theorem Inv.un{t':Nat}(I:Inv X pins Z H s)(u:Un X.fs [] H H' s.heap h')(hok:HOk X.prog X.w H' h'):Inv X pins Z H' { s with heap:=h',toks:=t' }:=by
 obtain⟨m,⟨o,es,ep,ho,r⟩,_⟩:=id I.loc
 obtain⟨sl,hL⟩:=u.any ho I.free (by simp)
 exact I.step (g':=s.gens) (d':=s.drawn) (ch:=[]) (λ_ z=>nomatch z) (λb o _ hb _ e n=>u.keep b o e n hb (by simp)) (λb o _ hb _ e n=>u.slot b o e n hb (by simp)) (λb o _ e n=>u.free b o e n (by simp)) (λb o _ e=>u.there b o e (by simp)) u.tups u.frzs u.tbls (λm' hm=>by
  obtain⟨o',es',ep',ho',r'⟩:=hm
  rw [ho] at ho'; cases ho'
  exact⟨_,es',ep',hL,r'⟩) hok I.bare
theorem Inv.call{g':Array GenState}{t':Nat}{d':Drawn}{ch:List Addr}(I:Inv X pins Z H s)(u:Un (frs X.stack) ch H H' s.heap h')(hok:HOk X.prog X.w H' h')(hg:AllBare g')
  (hch:∀ b∈ch,(b∈X.ex\/X.s₀.heap.objs.size<=b)/\b ≠ X.env.locals/\(∀ x c,X.env.cells.lookup x=some c->c ≠ b)/\∀ p∈X.pn ++ pins,p.1 ≠ b) :
  Inv X pins Z H' { s with heap:=h',gens:=g',drawn:=d',toks:=t' }:=by
 obtain⟨m,⟨o,es,ep,ho,r⟩,_⟩:=id I.loc
 obtain⟨sl,hL⟩:=u.any ho I.free λz=>(hch _ z).2.1 rfl
 exact I.step (ch:=ch) hch (λb o hL hb hc e n=>u.keep b o e n (λz=>(Yl.mp (I.stkSub b z)).elim hL hb) hc) (λb o _ _ hc e n=>u.any e n hc) (λb o hc e n=>u.free b o e n hc) (λb o hc e=>u.there b o e hc) u.tups u.frzs u.tbls (λm' hm=>by
  obtain⟨o',es',ep',ho',r'⟩:=hm
  rw [ho] at ho'; cases ho'
  exact⟨_,es',ep',hL,r'⟩) hok hg
theorem Inv.turned{t':Nat}{it:Addr}(I:Inv X pins Z H s)(k:∀ b o,b ≠ it->s.heap.get? b=some o->h'.get? b=some o)(hn:H it=none)(hL:it ≠ X.env.locals)
  (h1:it∈X.ex\/X.s₀.heap.objs.size<=it) (h2:∀ x c,X.env.cells.lookup x=some c->c ≠ it) (h3:∀ p∈X.pn ++ pins,p.1 ≠ it):Inv X pins Z H { s with heap:=h',toks:=t' }:=by
 have nit:∀ b u,H b=some u->b ≠ it:=λb u e z=>by rw [z,hn] at e; cases e
 refine I.step (g':=s.gens) (d':=s.drawn) (ch:=[it]) (λb hb=>?_) (λb o _ _ hc e _=>k b o (λz=>hc (by simp [z])) e) (λb o _ _ hc e _=>⟨o.slots,k b o (λz=>hc (by simp [z])) e⟩) (λ_ _ _ _ n=>n)
  (λb o hc e=>⟨o,k b o (λz=>hc (by simp [z])) e⟩) (λ_ _ e=>e) (λ_ _ _ e=>e) (λb ps e=>⟨#[],by rw [e]; simp⟩) (λm hm=>?_) (λb u e=>?_) I.bare
 ·have e:b=it:=by simpa using hb
  subst e
  exact⟨h1,hL,h2,h3⟩
 ·obtain⟨o,es,ep,ho,r⟩:=hm
  exact⟨o,es,ep,k _ o (Ne.symm hL) ho,r⟩
 ·refine (I.hok b u e).stay (λc v hc q=>k c v ?_ q) (λ_ q=>q) λ_ _ q=>q
  rcases hc with z | z
  ·rw [z]; exact nit b u e
  ·exact nit c _ z
theorem Inv.tok(I:Inv X pins Z H s)(t:Nat):Inv X pins Z H { s with toks:=t }:=I.un (h':=s.heap) (t':=t) Un.refl I.hok
theorem Inv.kept{t':Nat}(I:Inv X pins Z H s)(k:∀ b u,s.heap.get? b=some u->h'.get? b=some u):Inv X pins Z H { s with heap:=h',toks:=t' }:=I.un (Un.kept k) (I.hok.kept k)
theorem Inv.laid{a:Addr}{o:HO}{t':Nat}(I:Inv X pins Z H s)(k:∀ b u,s.heap.get? b=some u->h'.get? b=some u)(hp:s.heap.objs.size<=a)(new:Ji X.prog X.w (upd H a o) h' a o) :
  Inv X pins Z (upd H a o) { s with heap:=h',toks:=t' }:=I.un (Un.laid k hp (I.hok.fresh hp)) (I.hok.laid k hp new)
def Inv.write{x e:Addr}{o:HO}{t':Nat}(I:Inv X pins Z H s)(mu:Mut (H x))(he:e=x\/H e=some (.own x))(k:∀ b u,b ≠ e->s.heap.get? b=some u->h'.get? b=some u)(heo:∃ u,h'.get? e=some u)
  (new:Ji X.prog X.w (upd H x o) h' x o):Inv X pins Z (upd H x o) { s with heap:=h',toks:=t' }:=I.un (Un.write mu he k heo) (I.hok.write mu he k heo new)
def Inv.pins_of{pins':List (Addr × Obj)}(I:Inv X pins Z H s)(h:∀ p∈pins',s.heap.get? p.1=some p.2/\H p.1=none/\p.1 ≠ X.env.locals/\p.1 ∉ X.fs/\∀ v,p.2.data ≠ .cell v):Inv X pins' Z H s :=
 ⟨I.ok,I.os,I.bare,I.base,I.loc,I.cell,I.free,I.freeC,λp hp=>(Yp.mp hp).elim (λz=>I.pin p (VD _ z)) (h p),I.hok,I.len⟩
def ZfR{N:List Str}(hN:N.Nodup){i j:Nat}{x:Str}(a:N[i]?=some x)(b:N[j]?=some x):i=j:=by
 obtain⟨h1,e1⟩:=Yf.mp a
 obtain⟨h2,e2⟩:=Yf.mp b
 exact (List.getElem_inj hN).mp (e1.trans e2.symm)
def ZlC{M:Model}{A:Around}{E:VSP}{i:Nat}{x:Str}{v:V}{Q:Unit->Shared->Prop}(I:Inv X pins Z H s)(hN:X.N.Nodup)(hi:X.N[i]?=some x)(hx:Loc X.env.scope x)(r:ZP v u)
  (h:∀ s',Inv X pins (Z.set i (some v)) H s'->(∃ a,Heap.SameBut a s.heap s'.heap/\(a=X.env.locals\/X.env.cells.lookup x=some a))->Q () s') (hf:X.fn x=true\/X.env.scope.names.lookup x=some .local:=by first | exact .inl rfl | exact .inr rfl | assumption):wpAny M A (storeName X.env x u) Q E s:=by
 obtain⟨m,hn,hl⟩:=id I.loc
 have hcls:(X.env.scope.kind == .class || (X.env.scope.kind == .module && X.env.locals != X.env.globals))=false:=by rw [I.ok.kind]; rfl
 have hiZ:i < Z.length:=by rw [I.len]; exact (Yf.mp hi).1
 have cne:=I.cne
 have tracked:∀ {a:Addr}{h':Heap},(∃ o,s.heap.get? a=some o/\H a=none)->Heap.SameBut a s.heap h'->HOk X.prog X.w H h':=λ{a h'} ha hs b ob e=>by
  obtain⟨_,_,hfree⟩:=ha
  refine (I.hok b ob e).stay (λc w' hc q=>(hs.2 c ?_).trans q) (λ_ q=>q) λ_ _ q=>q
  rintro rfl
  rcases hc with rfl | hc
  ·rw [hfree] at e; cases e
  ·rw [hfree] at hc; cases hc
 rcases hx with hk | hk
 ·refine wpAny_storeName_local hk hn (λh' hn' hs=>?_) hcls
  obtain⟨oL,_,_,hoL,_⟩:=id hn
  refine h _ ⟨I.ok,I.os,I.bare,⟨λb o e n hb hx=>?_,λb o e n hb hx=>?_,I.base.free,λb o e hx=>?_,I.base.tups,I.base.frzs,I.base.tbls⟩,⟨_,hn',λj y v' e1 e2 e3=>?_⟩,λy c e=>?_,I.free,I.freeC,λp hp=>?_,tracked ⟨oL,hoL,I.free⟩ hs,by simpa using I.len⟩ ⟨_,hs,.inl rfl⟩
  ·exact (hs.2 b (Yn (Yq (Ye e) I.ok.above))).trans (I.base.keep b o e n hb hx)
  ·obtain⟨sl,e1⟩:=I.base.slot b o e n hb hx
   exact⟨sl,(hs.2 b (Yn (Yq (Ye e) I.ok.above))).trans e1⟩
  ·obtain⟨o',e1⟩:=I.base.there b o e hx
   exact⟨o',(hs.2 b (Yn (Yq (Ye e) I.ok.above))).trans e1⟩
  ·by_cases hj:j=i
   ·subst hj
    rw [hi] at e1; cases e1
    rw [Vg hiZ] at e2
    cases e2
    exact⟨u,r,.inl ⟨hk,by simp⟩⟩
   ·rw [Vh (Ne.symm hj)] at e2
    obtain⟨u',r',q⟩:=hl j y v' e1 e2 e3
    refine⟨u',r',?_⟩
    rcases q with ⟨k,e⟩ | ⟨k,c,e,z⟩
    ·refine .inl ⟨k,?_⟩
     have:y ≠ x:=λe=>hj (ZfR hN e1 (e ▸ hi))
     simp [this,e]
    ·exact .inr ⟨k,c,e,z.sameBut hs (cne y c e)⟩
  ·obtain⟨w',z⟩:=I.cell y c e
   exact⟨w',z.sameBut hs (cne y c e)⟩
  ·obtain⟨e,n,ne,nf,d⟩:=I.pin p hp
   exact⟨(hs.2 p.1 ne).trans e,n,ne,nf,d⟩
 ·have hfn:X.fn x=true:=by
   rcases hf with z | z
   ·exact z
   ·rw [z] at hk; cases hk
  obtain⟨c,hc⟩:=I.ok.has x (.inl hk)
  obtain⟨w',z⟩:=I.cell x c hc
  refine wpAny_storeName_cell I.ok.kind hk hc z (λh' hc' hs=>?_)
  obtain⟨oc,hoc,hocd⟩:=id z
  refine h { s with heap:=h' } ⟨I.ok,I.os,I.bare,⟨λb o e n hb hx=>?_,λb o e n hb hx=>?_,I.base.free,λb o e hx=>?_,I.base.tups,I.base.frzs,I.base.tbls⟩,⟨m,hn.sameBut hs (Ne.symm (cne x c hc)),λj y v' e1 e2 e3=>?_⟩,λy c' e=>?_,I.free,I.freeC,λp hp=>?_,tracked ⟨oc,hoc,I.freeC x c hc⟩ hs,by simpa using I.len⟩ ⟨c,hs,.inr hc⟩
  ·exact (hs.2 b (Yn (Yq (Ye e) (I.ok.cab x c hfn hc)))).trans (I.base.keep b o e n hb hx)
  ·obtain⟨sl,e1⟩:=I.base.slot b o e n hb hx
   exact⟨sl,(hs.2 b (Yn (Yq (Ye e) (I.ok.cab x c hfn hc)))).trans e1⟩
  ·obtain⟨o',e1⟩:=I.base.there b o e hx
   exact⟨o',(hs.2 b (Yn (Yq (Ye e) (I.ok.cab x c hfn hc)))).trans e1⟩
  ·by_cases hj:j=i
   ·subst hj
    rw [hi] at e1; cases e1
    rw [Vg hiZ] at e2
    cases e2
    exact⟨u,r,.inr ⟨.inl hk,c,hc,hc'⟩⟩
   ·rw [Vh (Ne.symm hj)] at e2
    obtain⟨u',r',q⟩:=hl j y v' e1 e2 e3
    refine⟨u',r',?_⟩
    rcases q with q | ⟨k,c',e,z'⟩
    ·exact .inl q
    ·refine .inr ⟨k,c',e,z'.sameBut hs ?_⟩
     rintro rfl
     exact hj (ZfR hN e1 (I.ok.inj _ _ _ e hc ▸ hi))
  ·by_cases hcc:c'=c
   ·subst hcc; exact⟨_,hc'⟩
   ·obtain⟨w2,z2⟩:=I.cell y c' e
    exact⟨w2,z2.sameBut hs hcc⟩
  ·obtain⟨e,n,ne,nf,d⟩:=I.pin p hp
   refine⟨(hs.2 p.1 ?_).trans e,n,ne,nf,d⟩
   intro q
   rw [q,hoc] at e
   have q':oc=p.2:=YW e
   exact d w' (by rw [<- q']; exact hocd)
def ZdB{M:Model}{A:Around}{E:VSP}{i:Nat}{x:Str}{v:V}{Q:Unit->Shared->Prop}(I:Inv X pins Z H s)(hN:X.N.Nodup)(hi:X.N[i]?=some x)(hx:Loc X.env.scope x)(r:ZP v u)
  (h:∀ s',Inv X pins (Z.set i (some v)) H s'->Q () s') (hf:X.fn x=true\/X.env.scope.names.lookup x=some .local:=by first | exact .inl rfl | exact .inr rfl | assumption):wpAny M A (storeName X.env x u) Q E s :=
 ZlC I hN hi hx r (λs' I' _=>h s' I') hf
def Inv.call'{s':Shared}{ch:List Addr}(I:Inv X pins Z H s)(ho:s'.os=s.os)(u:Un (frs X.stack) ch H H' s.heap s'.heap)(hok:HOk X.prog X.w H' s'.heap)(hg:AllBare s'.gens)
  (hch:∀ b∈ch,(b∈X.ex\/X.s₀.heap.objs.size<=b)/\b ≠ X.env.locals/\(∀ x c,X.env.cells.lookup x=some c->c ≠ b)/\∀ p∈X.pn ++ pins,p.1 ≠ b):Inv X pins Z H' s':=by
 obtain⟨h',g',d',t',o'⟩:=s'
 have e:o'=s.os:=ho
 subst e
 exact I.call (g':=g') (t':=t') (d':=d') u hok hg hch
end
abbrev XK:=Value->Option Addr->Hp->Prop
abbrev St:=List (Option V)
abbrev VK:=V->Hp->Prop
abbrev TE:=St->Hp->VK->Prop
abbrev TT:=St->Hp->(Bool->Hp->Prop)->Prop
abbrev TA:=St->Hp->(List V->Hp->Prop)->Prop
structure Ends where
 nx:St->Hp->Prop
 rt:VK
 bk:St->Hp->Prop:=λ_ _=>False
 ct:St->Hp->Prop:=λ_ _=>False
abbrev TS:=Ends->St->Hp->Prop
def EP(X:Cx)(pins:List (Addr × Obj))(Z:St)(Q:VK)(u:Value)(s':Shared):Prop:=∃ v H',Inv X pins Z H' s'/\ZP v u/\Q v H'
def TP(X:Cx)(pins:List (Addr × Obj))(Z:St)(Q:Bool->Hp->Prop)(b:Bool)(s':Shared):Prop:=∃ H',Inv X pins Z H' s'/\Q b H'
def AP(X:Cx)(pins:List (Addr × Obj))(Z:St)(Q:List V->Hp->Prop)(us:List Value)(s':Shared):Prop:=∃ vs H',Inv X pins Z H' s'/\ZD vs us/\Q vs H'
def SP(X:Cx)(pins:List (Addr × Obj))(D:Ends)(f:Flow)(s':Shared):Prop :=
 match f with
 | .next=>∃ Z' H',Inv X pins Z' H' s'/\D.nx Z' H'
 | .brk=>∃ Z' H',Inv X pins Z' H' s'/\D.bk Z' H'
 | .cont=>∃ Z' H',Inv X pins Z' H' s'/\D.ct Z' H'
 | .ret u=>∃ v Z' H',Inv X pins Z' H' s'/\ZP v u/\D.rt v H'
def PE(X:Cx)(e:Expr)(t:TE):Prop :=
 ∀ (pins:List (Addr × Obj)) (s:Shared) (Z:St) (H:Hp) (Q:VK),Inv X pins Z H s->t Z H Q->wpAny (model X.prog X.w) X.A (eval e X.env) (EP X pins Z Q) X.xe s
def PT(X:Cx)(e:Expr)(t:TT):Prop :=
 ∀ (pins:List (Addr × Obj)) (s:Shared) (Z:St) (H:Hp) (Q:Bool->Hp->Prop),Inv X pins Z H s->t Z H Q->wpAny (model X.prog X.w) X.A (isTrue e X.env (eval e X.env)) (TP X pins Z Q) X.xe s
def PW(X:Cx)(e:Expr)(t:TT):Prop :=
 ∀ (whole:Sem Value) (pins:List (Addr × Obj)) (s:Shared) (Z:St) (H:Hp) (Q:Bool->Hp->Prop),Inv X pins Z H s->t Z H Q->wpAny (model X.prog X.w) X.A (isTrue e X.env whole) (TP X pins Z Q) X.xe s
def PW.pt{X:Cx}{e:Expr}{t:TT}(h:PW X e t):PT X e t:=h _
def PA(X:Cx)(es:List Expr)(t:TA):Prop :=
 ∀ (pos:Pos) (pins:List (Addr × Obj)) (s:Shared) (Z:St) (H:Hp) (Q:List V->Hp->Prop),Inv X pins Z H s->t Z H Q->wpAny (model X.prog X.w) X.A (spliced (backTo pos (starEach es X.env))) (AP X pins Z Q) X.xe s
def PS(X:Cx)(st:Stmt)(t:TS):Prop :=
 ∀ (pins:List (Addr × Obj)) (s:Shared) (Z:St) (H:Hp) (D:Ends),Inv X pins Z H s->t D Z H->wpAny (model X.prog X.w) X.A (exec st X.env) (SP X pins D) X.xe s
def PSs(X:Cx)(st:List Stmt)(t:TS):Prop :=
 ∀ (pins:List (Addr × Obj)) (s:Shared) (Z:St) (H:Hp) (D:Ends),Inv X pins Z H s->t D Z H->wpAny (model X.prog X.w) X.A (execs st X.env) (SP X pins D) X.xe s
variable {A:Around}{E:VSP}{s:Shared}
def Jl{α:Type}{t:Sem α}{Q Q':α->Shared->Prop}{M:Model}(h:wpAny M A t Q E s)(hQ:∀ a s,Q a s->Q' a s):wpAny M A t Q' E s:=Yo h hQ λ_ _ x=>x
section
variable {X:Cx}
def Zis(i:Nat):TE:=λZ H Q=>∃ v,Z[i]?=some (some v)/\Q v H
def tC(v:V):TE:=λ_ H Q=>Q v H
def ZpC{i:Nat}{x:Str}{pos:Pos}(hN:X.N[i]?=some x)(hv:Vis X.env.scope x)(hd:(x == ("__debug__":Str))=false:=by decide)(hcd:(x == ("__classdict__":Str))=false:=by decide):PE X (.Name x pos) (Zis i):=by
 intro pins s Z H Q I h
 obtain⟨v,e,h⟩:=h
 obtain⟨m,hn,hl⟩:=I.loc
 obtain⟨u,r,l⟩:=hl i x v hN e hv
 have fin:EP X pins Z Q u s:=⟨v,H,I,r,h⟩
 rcases l with ⟨hk,hm⟩ | ⟨hk,c,hc,hcell⟩
 ·exact wpAny_Name (wpAny_loadName_local I.ok.kind hk hn hm fin) hd
 ·rcases hk with hk | hk
  ·exact wpAny_Name (wpAny_loadName_cell I.ok.kind hk hc hcell fin) hd
  ·exact wpAny_Name (wpAny_loadName_free I.ok.kind hk hc hcell fin hcd) hd
def Zrr{i j pos}:PE X (.Constant (.int i) j pos) (tC (.int i)):=λ_ _ _ H _ I h=>wpAny_Constant_int ⟨.int i,H,I.tok _,⟨_,rfl⟩,h⟩
def ZtC{b j pos}:PE X (.Constant (.bool b) j pos) (tC (.bl b)):=λ_ _ _ H _ I h=>Constant_bool ⟨.bl b,H,I,rfl,h⟩
def ZsY{j pos}:PE X (.Constant .none j pos) (tC .non):=λ_ _ _ H _ I h=>Constant_none ⟨.non,H,I,rfl,h⟩
def Zr3{x j pos}:PE X (.Constant (.str x) j pos) (tC (.str x)):=λ_ _ _ H _ I h=>Calls.Constant_str ⟨.str x,H,I.tok _,⟨_,rfl⟩,h⟩
def Gl(X:Cx)(x:Str):Prop:=X.env.kindOf x=some .globalImplicit
def ZeG{pins:List (Addr × Obj)}{Z:St}{x:Str}{pos:Pos}{Q:VSP}(I:Inv X pins Z H s)(hg:Gl X x)(hm:X.mg x=some u)(h:Q u s)
  (hd:(x == ("__debug__":Str))=false:=by decide):wpAny (model X.prog X.w) X.A (eval (.Name x pos) X.env) Q E s :=
 Calls.Name_function_global I.ok.kind hg (Calls.loadGlobal_global (by rw [I.ok.glob]; exact I.mod.glob.keeps I.bk) hm h) hd
def Zcw{pins:List (Addr × Obj)}{Z:St}{x:Str}{pos:Pos}{Q:VSP}(I:Inv X pins Z H s)(hg:Gl X x)(hm:X.mg x=none)(hv:bootBuiltins x=some u)(h:Q u s)
  (hn:x ≠ "__name__":=by decide) (hd:(x == ("__debug__":Str))=false:=by decide):wpAny (model X.prog X.w) X.A (eval (.Name x pos) X.env) Q E s:=by
 obtain⟨mb,h1,h2⟩:=I.mod.blt
 exact Calls.Name_function_global I.ok.kind hg (Calls.loadGlobal_builtin (by rw [I.ok.glob]; exact I.mod.glob.keeps I.bk) hm (by rw [I.ok.blt]; exact h1.keeps I.bk) ((h2 x hn).trans hv) h) hd
def Zio{x:Str}{v:V}{pos:Pos}(hg:Gl X x)(hm:X.mg x=some u)(r:ZP v u)(hd:(x == ("__debug__":Str))=false:=by decide):PE X (.Name x pos) (tC v) :=
 λ_ _ _ H _ I h=>ZeG I hg hm ⟨v,H,I,r,h⟩ hd
def ZpW{x:Str}{v:V}{pos:Pos}(hg:Gl X x)(hm:X.mg x=none)(hv:bootBuiltins x=some u)(r:ZP v u)(hn:x ≠ "__name__":=by decide)(hd:(x == ("__debug__":Str))=false:=by decide):PE X (.Name x pos) (tC v) :=
 λ_ _ _ H _ I h=>Zcw I hg hm hv ⟨v,H,I,r,h⟩ hn hd
variable {a b:Expr}{ta tb:TE}{pos:Pos}
def PC(X:Cx)(op:CmpOp)(a b:Expr)(t:TE):Prop :=
 ∀ (pins:List (Addr × Obj)) (s:Shared) (Z:St) (H:Hp) (Q:VK),Inv X pins Z H s->t Z H Q ->
  wpAny (model X.prog X.w) X.A (eval a X.env) (λv s₁=>wpAny (model X.prog X.w) X.A (eval b X.env) (λu s₂=>wpAny (model X.prog X.w) X.A (compareOp op v u) (EP X pins Z Q) X.xe s₂) X.xe s₁) X.xe s
def Zod(b:Expr){op:CmpOp}(h:op ≠ .In)(h2:op ≠ .NotIn):behindInMarks op b=false:=by
 have e1:(op == CmpOp.In)=false:=by cases op <;> first | rfl | exact absurd rfl h
 have e2:(op == CmpOp.NotIn)=false:=by cases op <;> first | rfl | exact absurd rfl h2
 cases b <;> simp [behindInMarks,e1,e2]
def tB(t:TE):TT:=λZ H Q=>t Z H λx H1=>∃ c,x=.bl c/\Q c H1
theorem Zld{op:CmpOp}{t:TE}(h:PC X op a b t)(h1:behindInMarks op b=false:=by first | exact Zod _ (by decide) (by decide) | rfl):PT X (.Compare a [op] [b] pos) (tB t):=by
 intro pins s Z H Q I hw
 refine wpAny_isTrue_Compare1 (Jl (h pins s Z H _ I hw) λv s1 h1=>Jl h1 λu s2 h2=>Jl h2 λc s3 ⟨x,H1,I1,r1,q1⟩=>?_) h1
 obtain⟨d,rfl,q⟩:=q1
 cases r1
 exact Y1 ⟨H1,I1,q⟩
def Zrs{e:Expr}{t:TE}(h:PE X e t)(he:∀ whole,isTrue e X.env whole=(do let v <- whole; standAt e.pos; holding [v] (truthy v)):=by intro _; rfl):PT X e (tB t):=by
 intro pins s Z H Q I hw
 refine isTrue_plain (Jl (h pins s Z H _ I hw) λv s1 ⟨x,H1,I1,r1,q1⟩=>?_) (he _)
 obtain⟨d,rfl,q⟩:=q1
 cases r1
 exact Y1 ⟨H1,I1,q⟩
variable {tA tB':TT}{Jh:List Expr}
def Ztf(t u:TT):TT:=λZ H Q=>t Z H λc H1=>if c=true then u Z H1 Q else Q false H1
def tOr(t u:TT):TT:=λZ H Q=>t Z H λc H1=>if c=true then Q true H1 else u Z H1 Q
def Ztb(t:TT):TT:=λZ H Q=>t Z H λc H1=>Q (!c) H1
def ZqL(ha:PT X a tA):PW X (.BoolOp .And [a] pos) tA:=by
 intro wh pins s Z H Q I h
 refine isTrue_and (Jl (ha pins s Z H Q I h) λc s1 e=>?_)
 cases c with
 | true=>exact isTrue_and_nil e
 | false=>exact e
def Zrq(ha:PT X a tA):PW X (.BoolOp .Or [a] pos) tA:=by
 intro wh pins s Z H Q I h
 refine isTrue_or (Jl (ha pins s Z H Q I h) λc s1 e=>?_)
 cases c with
 | false=>exact isTrue_or_nil e
 | true=>exact e
def ZrA(ha:PT X a tA)(hb:PW X (.BoolOp .And (b :: Jh) pos) tB'):PW X (.BoolOp .And (a :: b :: Jh) pos) (Ztf tA tB'):=by
 intro wh pins s Z H Q I h
 refine isTrue_and (Jl (ha pins s Z H _ I h) λc s1 ⟨H1,I1,q1⟩=>?_)
 cases c with
 | true=>exact hb wh pins s1 Z H1 Q I1 q1
 | false=>exact⟨H1,I1,q1⟩
def ZtH(ha:PT X a tA)(hb:PW X (.BoolOp .Or (b :: Jh) pos) tB'):PW X (.BoolOp .Or (a :: b :: Jh) pos) (tOr tA tB'):=by
 intro wh pins s Z H Q I h
 refine isTrue_or (Jl (ha pins s Z H _ I h) λc s1 ⟨H1,I1,q1⟩=>?_)
 cases c with
 | true=>exact⟨H1,I1,q1⟩
 | false=>exact hb wh pins s1 Z H1 Q I1 q1
def Zso(ha:PT X a tA):PT X (.UnaryOp .Not a pos) (Ztb tA):=by
 intro pins s Z H Q I h
 exact isTrue_not (ha pins s Z H (λc H1=>Q (!c) H1) I h)
def ZnY(ta tb:TE):TE:=λZ H Q=>ta Z H λx H1=>∃ c,x=.bl c/\if c=true then tb Z H1 Q else Q (.bl false) H1
def ZuC(ta tb:TE):TE:=λZ H Q=>ta Z H λx H1=>∃ c,x=.bl c/\if c=true then Q (.bl true) H1 else tb Z H1 Q
def Znn(ta:TE):TE:=λZ H Q=>ta Z H λx H1=>∃ c,x=.bl c/\Q (.bl (!c)) H1
def Zsi{op}{t:TE}(h:PE X a t):PE X (.BoolOp op [a] pos) t:=λpins s Z H Q I hw=>BoolOp_one (h pins s Z H Q I hw)
def Zrw(ha:PE X a ta)(hb:PE X (.BoolOp .And (b :: Jh) pos) tb):PE X (.BoolOp .And (a :: b :: Jh) pos) (ZnY ta tb):=by
 intro pins s Z H Q I h
 refine BoolOp_and (Jl (ha pins s Z H _ I h) λv s1 ⟨x,H1,I1,r1,q1⟩=>?_)
 obtain⟨c,rfl,q1⟩:=q1
 cases r1
 refine Y1 ?_
 cases c with
 | true=>exact hb pins s1 Z H1 Q I1 q1
 | false=>exact⟨.bl false,H1,I1,rfl,q1⟩
def Zsj(ha:PE X a ta):PE X (.UnaryOp .Not a pos) (Znn ta):=by
 intro pins s Z H Q I h
 refine UnaryOp_ (Jl (ha pins s Z H _ I h) λv s1 ⟨x,H1,I1,r1,q1⟩=>?_)
 obtain⟨c,rfl,q1⟩:=q1
 cases r1
 exact not_of (Y1 ⟨.bl (!c),H1,I1,rfl,q1⟩)
def tIf(t:TT)(ta tb:TE):TE:=λZ H Q=>t Z H λc H1=>if c=true then ta Z H1 Q else tb Z H1 Q
end
def JY(K:PySem.W.Frag)(H:Hp)(a:Addr)(xs:List V):Prop :=
 Rd H a (.lst xs) \/
  ∃ (o:Obj) (its:Array Value) (n:Nat),K.lookup a=some o/\o.cls=.type "list"/\o.dict=none/\o.data=.seq its n/\its.size<=sizeLine/\ZD xs its.toList
def SqT(K:PySem.W.Frag)(H:Hp)(a:Addr)(xs:List V):Prop :=
 Rd H a (.tup xs) \/
  ∃ (o:Obj) (its:Array Value) (n:Nat),K.lookup a=some o/\o.cls=.type "tuple"/\o.data=.seq its n/\its.size<=sizeLine/\ZD xs its.toList
def ZuJ:Value->Option V
 | .none=>some .non
 | .bool b=>some (.bl b)
 | .int i _=>some (.int i)
 | .str x _=>some (.str x)
 | .bytes b _=>some (.byt b)
 | .float b _=>some (.flt b)
 | .ref a=>some (.ref a)
 | .type n=>some (.ty n)
 | _=>none
def ZP.abs{x:V}(r:ZP x u):ZuJ u=some x:=by
 cases x with
 | non=>cases r; rfl
 | bl _=>cases r; rfl
 | int _=>obtain⟨t,rfl⟩:=r; rfl
 | str _=>obtain⟨t,rfl⟩:=r; rfl
 | byt _=>obtain⟨t,rfl⟩:=r; rfl
 | flt _=>obtain⟨t,rfl⟩:=r; rfl
 | ref _=>cases r; rfl
 | ty _=>cases r; rfl
def ZP.inj{x y:V}(r:ZP x u)(q:ZP y u):x=y:=YW (r.abs.symm.trans q.abs)
def ZD.inj:∀ {xs ys:List V}{us:List Value},ZD xs us->ZD ys us->xs=ys
 | _,_,_,.nil,.nil=>rfl
 | _,_,_,.cons r t,.cons r' t'=>by rw [r.inj r',ZD.inj t t']
section
variable {X:Cx}{pins:List (Addr × Obj)}{Z:St}{H:Hp}{s:Shared}{a:Addr}{xs ys:List V}
theorem JY.of{K:PySem.W.Frag}(h:H a=some (.lst xs)):JY K H a xs:=.inl (.inl h)
theorem SqT.of{K:PySem.W.Frag}(h:H a=some (.tup xs)):SqT K H a xs:=.inl (.inl h)
theorem Inv.list(I:Inv X pins Z H s)(h:JY X.K H a xs):∃ its:List Value,ZD xs its/\PlainL s.heap a its.toArray/\xs.length<=sizeLine:=by
 rcases h with h | ⟨o,its,n,hk,hc,hd,hs,hz,r⟩
 ·obtain⟨z,its,n,r,e⟩:=h.ok I.hok
  exact⟨its,r,⟨_,n,e,rfl,rfl,rfl⟩,z⟩
 ·refine⟨its.toList,r,⟨o,n,I.kIn a o hk,hc,hd,by simpa using hs⟩,?_⟩
  have e:=r.length
  simp only [Array.length_toList] at e
  omega
theorem Inv.tuple(I:Inv X pins Z H s)(h:SqT X.K H a xs):∃ its:List Value,ZD xs its/\IsTup s.heap a its.toArray/\xs.length<=sizeLine:=by
 rcases h with h | ⟨o,its,n,hk,hc,hs,hz,r⟩
 ·obtain⟨z,its,r,p⟩:=h.ok I.hok
  exact⟨its,r,p,z⟩
 ·refine⟨its.toList,r,⟨o,I.kIn a o hk,hc,n,by simpa using hs⟩,?_⟩
  have e:=r.length
  simp only [Array.length_toList] at e
  omega
def Inv.list_inj(I:Inv X pins Z H s)(h:JY X.K H a xs)(h':JY X.K H a ys):xs=ys:=by
 obtain⟨its,r,⟨o,n,e,_,_,d⟩,_⟩:=I.list h
 obtain⟨its',r',⟨o',n',e',_,_,d'⟩,_⟩:=I.list h'
 rw [e] at e'; cases e'
 rw [d] at d'
 injection d' with d1 _
 have:its=its':=by simpa using congrArg Array.toList d1
 subst this
 exact r.inj r'
end
abbrev Cx.wish(X:Cx)(E:VSP):Cx:={ X with xe:=E }
abbrev Cx.nox(X:Cx):Cx:=X.wish λ_ _=>False
def Cx.Ok.wish{X:Cx}(ok:X.Ok)(E:VSP):(X.wish E).Ok :=
 ⟨ok.mod,ok.kind,ok.glob,ok.blt,ok.above,ok.inj,ok.has,ok.cab,ok.hd,ok.frames,ok.stk,ok.exf,ok.bs,ok.bsz,ok.noex,ok.exfs,ok.funs,ok.frf⟩
def Cx.Ok.unwish{X:Cx}(ok:(X.wish E).Ok):X.Ok :=
 ⟨ok.mod,ok.kind,ok.glob,ok.blt,ok.above,ok.inj,ok.has,ok.cab,ok.hd,ok.frames,ok.stk,ok.exf,ok.bs,ok.bsz,ok.noex,ok.exfs,ok.funs,ok.frf⟩
section
variable {X:Cx}{pins:List (Addr × Obj)}{Z:St}{H:Hp}{s:Shared}{E:VSP}
def Inv.wish(I:Inv X pins Z H s)(E:VSP):Inv (X.wish E) pins Z H s:=⟨I.ok.wish E,I.os,I.bare,I.base,I.loc,I.cell,I.free,I.freeC,I.pin,I.hok,I.len⟩
def Inv.unwish(I:Inv (X.wish E) pins Z H s):Inv X pins Z H s:=⟨I.ok.unwish,I.os,I.bare,I.base,I.loc,I.cell,I.free,I.freeC,I.pin,I.hok,I.len⟩
def SP.unwish{D:Ends}{f:Flow}{s':Shared}(h:SP (X.wish E) pins D f s'):SP X pins D f s':=by
 cases f with
 | next=>obtain⟨Z',H',I,q⟩:=h; exact⟨Z',H',I.unwish,q⟩
 | brk=>obtain⟨Z',H',I,q⟩:=h; exact⟨Z',H',I.unwish,q⟩
 | cont=>obtain⟨Z',H',I,q⟩:=h; exact⟨Z',H',I.unwish,q⟩
 | ret u=>obtain⟨v,Z',H',I,r,q⟩:=h; exact⟨v,Z',H',I.unwish,r,q⟩
def PE.nox{e:Expr}{t:TE}(h:PE X.nox e t):PE X e t:=λpins s Z H Q I hw =>
 Yo (h pins s Z H Q (I.wish _) hw) (λ_ _ ⟨v,H',I',r,q⟩=>⟨v,H',I'.unwish,r,q⟩) λ_ _ z=>False.elim z
def PT.nox{e:Expr}{t:TT}(h:PT X.nox e t):PT X e t:=λpins s Z H Q I hw =>
 Yo (h pins s Z H Q (I.wish _) hw) (λ_ _ ⟨H',I',q⟩=>⟨H',I'.unwish,q⟩) λ_ _ z=>False.elim z
def PSs.nox{st:List Stmt}{t:TS}(h:PSs X.nox st t):PSs X st t:=λpins s Z H D I hw =>
 Yo (h pins s Z H D (I.wish _) hw) (λ_ _ q=>q.unwish) λ_ _ z=>False.elim z
end
section
variable {X:Cx}{st:Stmt}{Jh:List Stmt}{t u:TS}{e:Expr}{te:TE}{pos:Pos}
def Zgp:TS:=λD Z H=>D.nx Z H
def Znj(t u:TS):TS:=λD Z H=>t { D with nx:=u D } Z H
def Zp0:PSs X [] Zgp:=λ_ _ Z H _ I h=>Vx ⟨Z,H,I,h⟩
def Zof(h1:PS X st t)(h2:PSs X Jh u):PSs X (st :: Jh) (Znj t u):=by
 intro pins s Z H D I h
 refine wpAny_execs_cons (Jl (h1 pins s Z H { D with nx:=u D } I h) λf s1 q=>?_)
 cases f with
 | next =>
  obtain⟨Z',H',I',q⟩:=q
  exact h2 pins s1 Z' H' D I' q
 | ret v=>exact q
 | brk=>exact q
 | cont=>exact q
def ZpZ(h1:PS X st t):PSs X [st] t:=by
 intro pins s Z H D I h
 refine wpAny_execs_cons (Jl (h1 pins s Z H D I h) λf s1 q=>?_)
 cases f with
 | next=>exact Vx q
 | ret v=>exact q
 | brk=>exact q
 | cont=>exact q
theorem Inv.quiet{pins:List (Addr × Obj)}{Z:St}(I:Inv X pins Z H s):interactive X.env=false:=by simp [interactive,I.ok.kind]
def ZoR(te:TE):TS:=λD Z H=>te Z H λ_ H1=>D.nx Z H1
def ZqC(he:PE X e te)(hs:swapsWith e none pos.line X.env=pure false:=by rfl):PS X (.Expr e pos) (ZoR te):=by
 intro pins s Z H D I h
 exact wpAny_Expr_any (Jl (he pins s Z H _ I h) λv s1 ⟨x,H1,I1,r1,q1⟩=>⟨Z,H1,I1,q1⟩) I.quiet hs
def Zro(te:TE):TS:=λD Z H=>te Z H D.rt
def Zsp(he:PE X e te):PS X (.Return (some e) pos) (Zro te):=by
 intro pins s Z H D I h
 exact wpAny_Return_some (Jl (he pins s Z H _ I h) λv s1 ⟨x,H1,I1,r1,q1⟩=>⟨x,Z,H1,I1,r1,q1⟩)
def Zs3:TS:=λD _ H=>D.rt .non H
def ZoS(c:TT)(t u:TS):TS:=λD Z H=>c Z H λb H1=>if b=true then t D Z H1 else u D Z H1
def Zt0{c:Expr}{a b:List Stmt}{tc:TT}(hc:PT X c tc)(ha:PSs X a t)(hb:PSs X b u):PS X (.If c a b pos) (ZoS tc t u):=by
 intro pins s Z H D I h
 refine wpAny_If (Jl (hc pins s Z H _ I h) λd s1 ⟨H1,I1,q1⟩=>?_)
 cases d with
 | true=>exact ha pins s1 Z H1 D I1 q1
 | false=>exact hb pins s1 Z H1 D I1 q1
def Zjo:TS:=λ_ _ _=>False
def ZnL:PS X st Zjo:=λ_ _ _ _ _ _ h=>h.elim
def Zlb{sts:List Stmt}:PSs X sts Zjo:=λ_ _ _ _ _ _ h=>h.elim
end
abbrev TG:=V->St->Hp->(St->Hp->Prop)->Prop
abbrev TGs:=List V->St->Hp->(St->Hp->Prop)->Prop
def PG(X:Cx)(target:Expr)(t:TG):Prop :=
 ∀ (pins:List (Addr × Obj)) (s:Shared) (Z:St) (H:Hp) (v:V) (u:Value) (Q:St->Hp->Prop),Inv X pins Z H s->ZP v u->t v Z H Q ->
  wpAny (model X.prog X.w) X.A (assign target X.env u) (λ_ s'=>∃ Z' H',Inv X pins Z' H' s'/\Q Z' H') X.xe s
def PGs(X:Cx)(ts:List Expr)(t:TGs):Prop :=
 ∀ (pins:List (Addr × Obj)) (s:Shared) (Z:St) (H:Hp) (vs:List V) (us:List Value) (Q:St->Hp->Prop),Inv X pins Z H s->ZD vs us->t vs Z H Q ->
  wpAny (model X.prog X.w) X.A (assignInOrder ((assignEach ts X.env).map (·.2)) us) (λ_ s'=>∃ Z' H',Inv X pins Z' H' s'/\Q Z' H') X.xe s
abbrev ZtI:=V->V->V->Hp->(Hp->Prop)->Prop
def Zux(X:Cx)(t:ZtI):Prop :=
 ∀ (pins:List (Addr × Obj)) (s:Shared) (Z:St) (H:Hp) (o i v:V) (ov iv u:Value) (Q:Hp->Prop),Inv X pins Z H s->ZP o ov->ZP i iv->ZP v u->t o i v H Q ->
  wpAny (model X.prog X.w) X.A (setItem ov iv u) (λ_ s'=>∃ H',Inv X pins Z H' s'/\Q H') X.xe s
section
variable {X:Cx}{pos:Pos}
def Zdb(i:Nat):TG:=λv Z H Q=>Q (Z.set i (some v)) H
def Zqi{i:Nat}{x:Str}(hN:X.N.Nodup)(hi:X.N[i]?=some x)(hx:Loc X.env.scope x)(hf:X.fn x=true\/X.env.scope.names.lookup x=some .local:=by first | exact .inl rfl | exact .inr rfl | assumption):PG X (.Name x pos) (Zdb i):=by
 intro pins s Z H v u Q I r h
 exact wpAny_assign_Name (ZdB I hN hi hx r (λs' I'=>⟨_,H,I',h⟩) hf)
def Zti:TGs:=λvs Z H Q=>vs=[]/\Q Z H
def Znb(t:TG)(u:TGs):TGs:=λvs Z H Q=>∃ v r,vs=v :: r/\t v Z H λZ' H'=>u r Z' H' Q
def ZqG:PGs X [] Zti:=by
 intro pins s Z H vs us Q I r h
 obtain⟨e,h⟩:=h
 subst e
 cases r
 exact assignInOrder_nil ⟨Z,H,I,h⟩
def ZoV{e:Expr}{es:List Expr}{t:TG}{u:TGs}(h1:PG X e t)(h2:PGs X es u)
  (hs:(assignEach (e :: es) X.env).map (·.2)=assign e X.env :: (assignEach es X.env).map (·.2):=by rfl):PGs X (e :: es) (Znb t u):=by
 intro pins s Z H vs us Q I r h
 obtain⟨v,vr,e1,h⟩:=h
 subst e1
 cases r with
 | cons r rr =>
  rw [hs]
  refine assignInOrder_cons (Jl (h1 pins s Z H _ _ _ I r h) λ_ s1 ⟨Z1,H1,I1,q1⟩=>?_)
  exact h2 pins s1 Z1 H1 _ _ Q I1 rr q1
def ZuW(K:PySem.W.Frag)(n:Nat)(t:TGs):TG:=λv Z H Q=>∃ a xs,v=.ref a/\SqT K H a xs/\xs.length=n/\t xs Z H Q
def Zsy{es:List Expr}{k:Nat}{t:TGs}{n:Nat}(hc:X.calm=true)(h:PGs X es t)
  (hn:(assignEach es X.env).length=n:=by rfl) (hst:(assignEach es X.env).findIdx? (·.1)=none:=by rfl):PG X (.Tuple es k pos) (ZuW X.K n t):=by
 intro pins s Z H v u Q I r hw
 obtain⟨a,xs,e1,hq,hl,hw⟩:=hw
 subst e1
 cases r
 obtain⟨its,rv,ht,hz⟩:=I.tuple hq
 refine assign_Tuple_tuple (I.ok.hd hc) ht (by simp [hn,<- hl,rv.length]) hst λh' hx=>?_
 have I1:Inv X pins Z H { s with heap:=h' }:=I.kept (t':=s.toks) λb o e=>hx b o (Yn (Ye e)) e
 exact h pins _ Z H xs _ Q I1 (by simpa using rv) hw
def Zte(to ti:TE)(t:ZtI):TG:=λv Z H Q=>to Z H λo H1=>ti Z H1 λi H2=>t o i v H2 λH3=>Q Z H3
def Zrn{o i:Expr}{to ti:TE}{t:ZtI}(ho:PE X o to)(hi:PE X i ti)(hs:Zux X t)
  (ha:∀ v,assign (.Subscript o i pos) X.env v=(do
   let ov <- holding [v] (eval o X.env)
   let iv <- holding [v,ov] (eval i X.env)
   standAt pos
   holding [v,ov,iv] (setItem ov iv v)
   release [v,ov,iv] []):=by intro _; rfl):PG X (.Subscript o i pos) (Zte to ti t):=by
 intro pins s Z H v u Q I r h
 rw [ha]
 refine Ya (YE (Jl (ho pins s Z H _ I h) λov s1 ⟨x,H1,I1,r1,q1⟩=>?_))
 refine Ya (YE (Jl (hi pins s1 Z H1 _ I1 q1) λiv s2 ⟨y,H2,I2,r2,q2⟩=>?_))
 refine Ya (wpAny_standAt (Ya (YE (Jl (hs pins s2 Z H2 x y v ov iv u _ I2 r1 r2 r q2) λ_ s3 ⟨H3,I3,q3⟩=>?_))))
 exact wpAny_release ⟨Z,H3,I3,q3⟩
def Zm4(te:TE)(g:TG):TS:=λD Z H=>te Z H λx H1=>g x Z H1 D.nx
def ZrH{tg e:Expr}{te:TE}{g:TG}(he:PE X e te)(hg:PG X tg g)(hs:swapsWithSole [tg] e pos.line X.env=pure false:=by rfl)(hw:swappedStores [tg] e X.env=pure none:=by rfl)
  (h1:(assignEach [tg] X.env).map (·.2)=[assign tg X.env]:=by rfl):PS X (.Assign [tg] e pos) (Zm4 te g):=by
 intro pins s Z H D I h
 refine wpAny_Assign_stores (Jl (he pins s Z H _ I h) λv s1 ⟨x,H1,I1,r1,q1⟩=>?_) hs hw
 rw [h1]
 exact Jl (hg pins s1 Z H1 x v _ I1 r1 q1) λ_ s2 q=>q
def Zsh{i:Nat}{x:Str}{e:Expr}{te:TE}{pos':Pos}(hN:X.N.Nodup)(hi:X.N[i]?=some x)(hx:Loc X.env.scope x)(he:PE X e te)(hs:swapsWith e (some (.Name x pos')) pos.line X.env=pure false:=by rfl)(hf:X.fn x=true\/X.env.scope.names.lookup x=some .local:=by first | exact .inl rfl | exact .inr rfl | assumption) :
  PS X (.Assign [.Name x pos'] e pos) (Zm4 te (Zdb i)):=by
 intro pins s Z H D I h
 refine wpAny_Assign_Name (Jl (he pins s Z H _ I h) λv s1 ⟨y,H1,I1,r1,q1⟩=>?_) hs
 exact ZdB I1 hN hi hx r1 (λs2 I2=>⟨_,H1,I2,q1⟩) hf
def Ztn(i j:Nat)(ta:TA):TS:=λD Z H=>ta Z H λvs H1=>∃ v w,vs=[v,w]/\D.nx ((Z.set i (some v)).set j (some w)) H1
def ZrP{i j:Nat}{x y:Str}{a b:Expr}{ta:TA}{px py pt:Pos}{kt k2 pt2}(hc:X.calm=true)(hN:X.N.Nodup)(hi:X.N[i]?=some x)(hj:X.N[j]?=some y)(hij:i ≠ j)
  (hx:X.env.scope.names.lookup x=some .local) (hy:X.env.scope.names.lookup y=some .local) (ha:PA X [a,b] ta)
  (hw:swappedStores [.Tuple [.Name x px,.Name y py] kt pt] (.Tuple [a,b] k2 pt2) X.env=pure (some [x,y]))
  (hs:swapsWithSole [.Tuple [.Name x px,.Name y py] kt pt] (.Tuple [a,b] k2 pt2) pos.line X.env=pure false:=by rfl) :
  PS X (.Assign [.Tuple [.Name x px,.Name y py] kt pt] (.Tuple [a,b] k2 pt2) pos) (Ztn i j ta):=by
 intro pins s Z H D I h
 rw [exec_Assign_arm]
 refine Ya (wpAny_standAt ?_)
 rw [hs]
 refine Ya (Yb ?_)
 rw [if_neg (by decide)]
 refine Ya (Tuple_ (Jl (ha _ pins s Z H _ I h) λus s1 ⟨vs,H1,I1,r1,q1⟩=>?_))
 obtain⟨v,w,e1,q1⟩:=q1
 subst e1
 obtain⟨u1,u2,rfl,rv,rw'⟩:∃ u1 u2,us=[u1,u2]/\ZP v u1/\ZP w u2:=by
  cases r1 with
  | cons p q =>
   cases q with
   | cons p' q' =>
    cases q'
    exact⟨_,_,rfl,p,p'⟩
 refine Y5 ?_ (by show 2<=sizeLine; decide)
 have I2:Inv X pins Z H1 { s1 with heap:=s1.heap.push { cls:=.type "tuple",data:=.seq [u1,u2].toArray } }:=I1.kept (t':=s1.toks) λb o e=>Yg _ e
 rw [hw]
 refine Ya (Yb ?_)
 show wpAny (model X.prog X.w) X.A (do rule "assign.swapped-stores"; let items <- unpackItems (.ref s1.heap.objs.size) 2 none; assignInOrder [λv=>bindName X.env y v,λv=>bindName X.env x v] items.reverse; pure Flow.next) _ _ _
 refine Ya (Vo (Ya (unpackItems_tuple (items:=#[u1,u2]) (I.ok.hd hc) (IsTup.new s1.heap _) λh' hx'=>?_)))
 have I3:=I2.kept (h':=h') (t':=s1.toks) λb o e=>hx' b o (Yn (Ye e)) e
 show wpAny _ _ (assignInOrder [λv=>bindName X.env y v,λv=>bindName X.env x v] [u2,u1] >>= λ_=>pure Flow.next) _ _ _
 refine Ya (assignInOrder_cons (wpAny_bindName (ZdB I3 hN hj (.inl hy) rw' (λs2 I4=>?_) (.inr hy))))
 refine assignInOrder_cons (wpAny_bindName (ZdB I4 hN hi (.inl hx) rv (λs3 I5=>assignInOrder_nil (Yb ?_)) (.inr hx)))
 rw [List.set_comm _ _ (Ne.symm hij)] at I5
 exact⟨_,H1,I5,q1⟩
def Zmy(c:TT)(tb:TS):TS:=λD Z H=>∃ W:Nat->St->Hp->Prop,(∃ m,W m Z H)/\∀ m Z H,W m Z H ->
 c Z H λb H1=>if b=true then ∃ N:St->Hp->Prop,(∀ Z' H',N Z' H'->∃ m',m' < m/\W m' Z' H')/\tb { D with nx:=N,ct:=N,bk:=D.nx } Z H1 else D.nx Z H1
def ZnN{c:Expr}{body:List Stmt}{tc:TT}{tb:TS}(hp:PassesOwn (model X.prog X.w) X.A X.env X.xe)(hc:PT X c tc)(hb:PSs X body tb):PS X (.While c body [] pos) (Zmy tc tb):=by
 intro pins s Z H D I h
 obtain⟨W,⟨m0,w0⟩,turn⟩:=h
 refine wpAny_While (codeAny_whileLoop (λn s'=>∃ Z' H',Inv X pins Z' H' s'/\W n Z' H') ?_ m0 ⟨Z,H,I,w0⟩)
 rintro n s1 ⟨Z1,H1,I1,w1⟩
 refine Vl hp (Jl (hc pins s1 Z1 H1 _ I1 (turn n Z1 H1 w1)) λb s2 ⟨H2,I2,q2⟩=>?_)
 cases b with
 | true =>
  obtain⟨N,hN,q2⟩:=q2
  rw [if_pos rfl]
  refine Vl hp (Jl (hb pins s2 Z1 H2 _ I2 q2) λf s3 q3=>?_)
  cases f with
  | next =>
   obtain⟨Z3,H3,I3,n3⟩:=q3
   obtain⟨m',hm,w3⟩:=hN Z3 H3 n3
   exact⟨m',hm,Z3,H3,I3,w3⟩
  | cont =>
   obtain⟨Z3,H3,I3,n3⟩:=q3
   obtain⟨m',hm,w3⟩:=hN Z3 H3 n3
   exact⟨m',hm,Z3,H3,I3,w3⟩
  | brk=>exact q3
  | ret v=>exact q3
 | false =>
  rw [if_neg Yr]
  exact Vx ⟨Z1,H2,I2,q2⟩
end
structure It where
 go:Nat->Hp->Prop
 yld:Nat->Hp->V->Hp->Prop
 stop:Nat->Hp->Prop
def Zkm(X:Cx)(pins:List (Addr × Obj))(H:Hp)(b:Addr):Prop :=
 H b=none/\b ≠ X.env.locals/\b ∉ X.fs/\(b∈X.ex\/X.s₀.heap.objs.size<=b)/\(∀ x c,X.env.cells.lookup x=some c->c ≠ b)/\∀ p∈X.pn ++ pins,p.1 ≠ b
variable {pins:List (Addr × Obj)}{Z:St}
def Inv.fpOk{X:Cx}{H H':Hp}{b:Addr}(I:Inv X pins Z H s)(hb:s.heap.objs.size<=b)(hn:H' b=none):Zkm X pins H' b:=by
 refine⟨hn,Vz (Yq I.lt hb),I.nofs hb,.inr (Yj I.sz hb),λx c e z=>?_,λp hp z=>?_⟩
 ·obtain⟨v,q⟩:=I.cell x c e
  exact absurd (Yq q.lt (by rw [z]; exact hb)) (YR _)
 ·exact absurd (Yq (Ye (I.pin p hp).1) (by rw [z]; exact hb)) (YR _)
structure Turn(P:Program)(w:World)(K:PySem.W.Frag)(tg:Expr)(J:It)(fp:List Addr)(it:Addr)(tn:Nat->Heap->Prop):Prop where
 mem:it∈fp
 obj:∀ i h,tn i h->∀ b∈fp,∃ o,h.get? b=some o/\∀ v,o.data ≠ .cell v
 keep:∀ i h h',tn i h->(∀ b∈fp,∀ o,h.get? b=some o->h'.get? b=some o)->tn i h'
 item:∀ (X:Cx),X.prog=P->X.w=w->X.K=K->X.calm=true->∀ (i:Nat) (pins:List (Addr × Obj)) (s:Shared) (Z:St) (H:Hp) (E:VSP),Inv X pins Z H s->(∀ b∈fp,Zkm X pins H b)->tn i s.heap->J.go i H ->
  wpAny (model P w) X.A (pyNext (.ref it)) (λr s1=>∃ u,r=some u /\
   wpAny (model P w) X.A (letOwnedTupleGo tg (.ref it) u) (λ_ s2=>∃ x H',Inv X pins Z H' s2/\ZP x u/\J.yld i H x H'/\tn (i + 1) s2.heap/\∀ b∈fp,H' b=none) E s1) E s
 done:∀ (X:Cx),X.prog=P->X.w=w->X.K=K->X.calm=true->∀ (i:Nat) (pins:List (Addr × Obj)) (s:Shared) (Z:St) (H:Hp) (E:VSP),Inv X pins Z H s->(∀ b∈fp,Zkm X pins H b)->tn i s.heap->J.stop i H ->
  wpAny (model P w) X.A (pyNext (.ref it)) (λr s1=>r=none/\Inv X pins Z H s1) E s
 self:∀ (A:Around) (i:Nat) (s:Shared) (Q:VSP) (E:VSP),tn i s.heap->Q (.ref it) s->wpAny (model P w) A (pyIter (.ref it)) Q E s
abbrev TI:=St->Hp->(It->Hp->Prop)->Prop
def PIE(X:Cx)(pins:List (Addr × Obj))(Z:St)(tg:Expr)(R:It->Hp->Prop)(itv:Value)(s2:Shared):Prop :=
 ∃ (it:Addr) (fp:List Addr) (tn:Nat->Heap->Prop) (J:It) (H':Hp),itv=.ref it/\Inv X pins Z H' s2/\Turn X.prog X.w X.K tg J fp it tn/\tn 0 s2.heap/\(∀ b∈fp,Zkm X pins H' b)/\R J H'
def PI(X:Cx)(tg iter:Expr)(wi:TI):Prop :=
 ∀ (pins:List (Addr × Obj)) (s:Shared) (Z:St) (H:Hp) (R:It->Hp->Prop),Inv X pins Z H s->wi Z H R ->
  wpAny (model X.prog X.w) X.A (eval iter X.env) (λv s1=>wpAny (model X.prog X.w) X.A (pyIter v) (PIE X pins Z tg R) X.xe s1) X.xe s
variable {Q:Unit->Shared->Prop}
theorem Zoj{M:Model}{tg:Expr}{it:Addr}{o:Obj}{n:String}{vs:Array Value}(ho:s.heap.get? it=some o)(hc:o.cls=.type n)(hd:o.data=.fields vs)
    (hn:["enumerate","zip","dict_itemiterator","dict_reverseitemiterator","odict_iterator","itertools.zip_longest","itertools.pairwise"].contains n=false) (hQ:Q () s):wpAny M A (letOwnedTupleGo tg (.ref it) u) Q E s:=by
  unfold letOwnedTupleGo
  cases tg <;> first
    | exact Yb hQ
    | (cases u <;> first
        | exact Yb hQ
        | (refine Ya (Vp ho ?_)
           rw [hc,hd]
           show wpAny M A (if (["enumerate","zip","dict_itemiterator","dict_reverseitemiterator","odict_iterator","itertools.zip_longest","itertools.pairwise"].contains n && vs[0]? == some (rawInt _))=true then _ else _) Q E s
           rw [if_neg (by intro h; rw [hn,Bool.false_and] at h; cases h)]
           exact Yb hQ))
def Itl(K:PySem.W.Frag)(a:Addr):It :=
 ⟨λi H=>∃ xs x,JY K H a xs/\xs[i]?=some x,λi H x H'=>H'=H/\∀ xs,JY K H a xs->xs[i]?=some x,λi H=>∃ xs,JY K H a xs/\xs.length<=i⟩
def Itr(lo:Int)(n:Nat):It:=⟨λi _=>i < n,λi H x H'=>H'=H/\x=.int (lo + i),λi _=>n<=i⟩
variable {K:PySem.W.Frag}
def ZlL{tg:Expr}(a it:Addr):Turn P w K tg (Itl K a) [it] it (λi h=>h.IsListIter it a i) where
 mem:=by simp
 obj:=λi h st b hb=>by
  have e:b=it:=by simpa using hb
  subst e
  obtain⟨o,e,c,d⟩:=st
  exact⟨o,e,λv z=>by rw [d] at z; cases z⟩
 keep:=λi h h' st k=>st.at λo e=>k it (by simp) o e
 item:=by
  intro X hP hw hK hc i pins s Z H E I hf st hg
  subst hP hw hK
  obtain⟨xs,x,hq,hx⟩:=hg
  obtain⟨its,rv,p,hz⟩:=I.list hq
  obtain⟨u,hu,ru⟩:=rv.get hx
  obtain⟨f0,f1,f2,f3,f4,f5⟩:=hf it (by simp)
  refine wpAny_pyNext_list_item st p.isList (x:=u) (by simpa using hu) λh' st' sb=>?_
  have I1:Inv X pins Z H { s with heap:=h' }:=I.turned (t':=s.toks) (λb o hb e=>(sb.2 b hb).trans e) f0 f1 f3 f4 f5
  obtain⟨o,e,c,d⟩:=id st'
  exact⟨u,rfl,Zoj (s:={ s with heap:=h' }) e c d (by decide) ⟨x,H,I1,ru,⟨rfl,λys hy=>by rw [I.list_inj hy hq]; exact hx⟩,st',λb hb=>(hf b hb).1⟩⟩
 done:=by
  intro X hP hw hK hc i pins s Z H E I hf st hg
  subst hP hw hK
  obtain⟨xs,hq,hx⟩:=hg
  obtain⟨its,rv,p,hz⟩:=I.list hq
  obtain⟨f0,f1,f2,f3,f4,f5⟩:=hf it (by simp)
  have hl:=rv.length
  exact wpAny_pyNext_list_end (I.ok.hd hc) st p.isList (by simp; omega) λh' eb=>⟨rfl,I.turned (t':=s.toks) (λb o hb e=>eb b o hb e) f0 f1 f3 f4 f5⟩
 self:=λ_ _ _ _ _ st h=>wpAny_pyIter_listiter st h
def ZjJ{tg:Expr}(it:Addr)(lo:Int)(n:Nat):Turn P w K tg (Itr lo n) [it] it (λi h=>IsRangeIter h it (lo + (i:Nat) * 1) ((n:Int) - (i:Nat)) 1) where
 mem:=by simp
 obj:=λi h st b hb=>by
  have e:b=it:=by simpa using hb
  subst e
  exact⟨_,st,λv z=>by
   have z':Data.fields _=Data.cell v:=z
   cases z'⟩
 keep:=λi h h' st k=>k it (by simp) _ st
 item:=by
  intro X hP hw hK hc i pins s Z H E I hf st hg
  subst hP hw hK
  obtain⟨f0,f1,f2,f3,f4,f5⟩:=hf it (by simp)
  have W:=Walks.range (prog:=X.prog) (w:=X.w) (I.ok.hd hc) it lo 1 n
  refine W.item i s _ _ hg st λv h' tk hv st' kk=>?_
  obtain⟨t,rfl⟩:=hv
  have I1:Inv X pins Z H { s with heap:=h',toks:=tk }:=I.turned (λb o hb e=>kk b o (by simpa using hb) e) f0 f1 f3 f4 f5
  refine⟨_,rfl,Zoj (s:={ s with heap:=h',toks:=tk }) (n:="range_iterator") st' rfl rfl (by decide) ⟨.int (lo + i),H,I1,⟨t,?_⟩,⟨rfl,rfl⟩,st',λb hb=>(hf b hb).1⟩⟩
  rw [Int.mul_one]
 done:=by
  intro X hP hw hK hc i pins s Z H E I hf st hg
  subst hP hw hK
  obtain⟨f0,f1,f2,f3,f4,f5⟩:=hf it (by simp)
  exact wpAny_pyNext_range_end (I.ok.hd hc) st (by have:n<=i:=hg; omega) λh' eb=>⟨rfl,I.turned (t':=s.toks) (λb o hb e=>eb b o hb e) f0 f1 f3 f4 f5⟩
 self:=λ_ _ _ _ _ st h=>wpAny_pyIter_rangeiter st h
section
variable {X:Cx}{tg:Expr}
def ZjS(K:PySem.W.Frag)(tl:TE):TI:=λZ H R=>tl Z H λx H1=>∃ a,x=.ref a/\(∃ xs,JY K H1 a xs)/\R (Itl K a) H1
def Zq0{l:Expr}{tl:TE}(hl:PE X l tl):PI X tg l (ZjS X.K tl):=by
 intro pins s Z H R I h
 refine Jl (hl pins s Z H _ I h) λv s1 ⟨x,H1,I1,r1,q1⟩=>?_
 obtain⟨a,e,⟨xs,hq⟩,q⟩:=q1
 subst e
 cases r1
 obtain⟨its,rv,p,hz⟩:=I1.list hq
 refine wpAny_pyIter_list p.isList ?_
 refine⟨s1.heap.objs.size,[s1.heap.objs.size],_,_,H1,rfl,I1.kept (t':=s1.toks) λb o e=>Yg _ e,ZlL a _,⟨_,Ym _ rfl,rfl,rfl⟩,λb hb=>?_,q⟩
 have e:b=s1.heap.objs.size:=by simpa using hb
 subst e
 exact I1.fpOk (Yd _) (I1.hok.fresh (Yd _))
theorem Zjn{R:It->Hp->Prop}{lo hi:Int}{t u v:Tok}{tk:Nat}(I:Inv X pins Z H s)(h1:-(2 ^ 62)<=lo)(h2:lo < 2 ^ 62)(h3:-(2 ^ 62)<=hi)(h4:hi < 2 ^ 62)
  (q:R (Itr lo (hi - lo).toNat) H):wpAny (model X.prog X.w) X.A (pyIter (.ref s.heap.objs.size)) (PIE X pins Z tg R) E { s with heap:=s.heap.push { cls:=.type "range",data:=.fields #[.int lo t,.int hi u,.int 1 v] },toks:=tk }:=by
 refine wpAny_pyIter_range (IsRange.new ..) (small_one h1 h2 h3 h4) ?_
 have I1:Inv X pins Z H { s with heap:=s.heap.push { cls:=.type "range",data:=.fields #[.int lo t,.int hi u,.int 1 v] },toks:=tk }:=I.kept λb o e=>Yg _ e
 refine⟨(s.heap.push { cls:=.type "range",data:=.fields #[.int lo t,.int hi u,.int 1 v] }).objs.size,[(s.heap.push { cls:=.type "range",data:=.fields #[.int lo t,.int hi u,.int 1 v] }).objs.size],_,_,H,rfl,
  I1.kept (t':=tk) λb o e=>Yg _ e,ZjJ _ lo (hi - lo).toNat,?_,λb hb=>?_,q⟩
 ·have e1:lo + ((0:Nat):Int) * 1=lo:=by simp
  have e2:(((hi - lo).toNat:Nat):Int) - ((0:Nat):Int)=Builtin.Range.rangeSize lo hi 1:=by rw [rangeSize_one]; split <;> omega
  show IsRangeIter _ _ (lo + ((0:Nat):Int) * 1) ((((hi - lo).toNat:Nat):Int) - ((0:Nat):Int)) 1
  rw [e1,e2]
  exact Ym _ rfl
 ·have e:b=(s.heap.push { cls:=.type "range",data:=.fields #[.int lo t,.int hi u,.int 1 v] }).objs.size:=by simpa using hb
  subst e
  exact I1.fpOk (Yd _) (I1.hok.fresh (Yd _))
def Zkl(ta:TA):TI:=λZ H R=>ta Z H λvs H1=>∃ j:Int,vs=[.int j]/\-(2 ^ 62)<=j/\j < 2 ^ 62/\R (Itr 0 j.toNat) H1
def ZpH(ta:TA):TI:=λZ H R=>ta Z H λvs H1=>∃ i j:Int,vs=[.int i,.int j]/\(-(2 ^ 62)<=i/\i < 2 ^ 62/\-(2 ^ 62)<=j/\j < 2 ^ 62)/\R (Itr i (j - i).toNat) H1
def ZkE{a:Expr}{ta:TA}{p pos:Pos}(hg:Gl X "range")(hm:X.mg "range"=none)(ha:PA X [a] ta)(hs:starEach [a] X.env=[(false,eval a X.env)]:=by rfl):PI X tg (.Call (.Name "range" p) [a] [] pos) (Zkl ta):=by
 intro pins s Z H R I h
 refine Call_ (Zcw I hg hm boot_range (Y8 (Jl (ha pos pins s Z H _ I h) λus s1 ⟨vs,H1,I1,r1,q1⟩=>?_) hs rfl))
 obtain⟨j,e,q1,q2,q⟩:=q1
 subst e
 cases r1 with
 | cons r rr =>
  cases rr
  obtain⟨t,rfl⟩:=r
  exact call_range_1 (Zjn I1 (by omega) (by omega) q1 q2 (by simpa using q))
def Zk4{a b:Expr}{ta:TA}{p pos:Pos}(hg:Gl X "range")(hm:X.mg "range"=none)(ha:PA X [a,b] ta)(hs:starEach [a,b] X.env=[(false,eval a X.env),(false,eval b X.env)]:=by rfl)(hs2:starEach [b] X.env=[(false,eval b X.env)]:=by rfl) :
  PI X tg (.Call (.Name "range" p) [a,b] [] pos) (ZpH ta):=by
 intro pins s Z H R I h
 refine Call_ (Zcw I hg hm boot_range (Y8 (Jl (ha pos pins s Z H _ I h) λus s1 ⟨vs,H1,I1,r1,q1⟩=>?_) (by rw [hs,hs2]) (by rw [hs2]; rfl)))
 obtain⟨i,j,e,⟨q1,q2,q3,q4⟩,q⟩:=q1
 subst e
 cases r1 with
 | cons r rr =>
  cases rr with
  | cons r' rr =>
   cases rr
   obtain⟨t,rfl⟩:=r
   obtain⟨t',rfl⟩:=r'
   exact call_range_2 (Zjn I1 q1 q2 q3 q4 q)
def Zqy(wi:TI)(g:TG)(tb:TS):TS:=λD Z H=>wi Z H λJ H1=>∃ W:Nat->Nat->St->Hp->Prop,(∃ m,W 0 m Z H1)/\∀ i m Z H,W i m Z H ->
 (J.stop i H/\D.nx Z H)\/(J.go i H/\∃ N:St->Hp->Prop,(∀ Z' H',N Z' H'->∃ m',m' < m/\W (i + 1) m' Z' H')/\∀ x H',J.yld i H x H'->g x Z H' λZ2 H2=>tb { D with nx:=N,ct:=N,bk:=D.nx } Z2 H2)
def ZiH(fp:List Addr)(h:Heap):List (Addr × Obj):=fp.filterMap λb=>(h.get? b).map λo=>(b,o)
def ZbL{fp:List Addr}{h:Heap}{b:Addr}{o:Obj}(hb:b∈fp)(e:h.get? b=some o):(b,o)∈ZiH fp h:=List.mem_filterMap.mpr ⟨b,hb,by rw [e]; rfl⟩
def Zmq{fp:List Addr}{h:Heap}{p:Addr × Obj}(hp:p∈ZiH fp h):p.1∈fp/\h.get? p.1=some p.2:=by
 obtain⟨b,hb,e⟩:=List.mem_filterMap.mp hp
 cases q:h.get? b with
 | none=>rw [q] at e; cases e
 | some o =>
  rw [q] at e
  have e':(b,o)=p:=YW e
  subst e'
  exact⟨hb,q⟩
def Inv.pinned{fp:List Addr}(I:Inv X pins Z H s)(hf:∀ b∈fp,Zkm X pins H b)(ho:∀ b∈fp,∃ o,s.heap.get? b=some o/\∀ v,o.data ≠ .cell v):Inv X (pins ++ ZiH fp s.heap) Z H s :=
 I.pins_of λp hp=>(Yp.mp hp).elim (λz=>I.pin p (Yy _ z)) λz=>by
  obtain⟨hb,e⟩:=Zmq z
  obtain⟨f0,f1,f2,_⟩:=hf p.1 hb
  obtain⟨o,e',d⟩:=ho p.1 hb
  rw [e] at e'; cases e'
  exact⟨e,f0,f1,f2,d⟩
def Inv.unpinned{pins pl:List (Addr × Obj)}(I:Inv X (pins ++ pl) Z H s):Inv X pins Z H s:=I.pins_of λp hp=>I.pin p (Yy _ (VD _ hp))
def Zru{iter:Expr}{body:List Stmt}{wi:TI}{g:TG}{tb:TS}{pos:Pos}(hp:PassesOwn (model X.prog X.w) X.A X.env X.xe)(hc:X.calm=true)(hi:PI X tg iter wi)(hg:PG X tg g)(hb:PSs X body tb)
  (hs:∀ x,foldedSetIterable iter X.env x=pure x:=by intro _; rfl):PS X (.For tg iter body [] pos) (Zqy wi g tb):=by
 intro pins s Z H D I h
 refine wpAny_For (Jl (hi pins s Z H _ I h) λv s1 h1=>Jl h1 λitv s2 h2=>?_) hs
 obtain⟨it,fp,tn,J,H2,e,I2,T,st2,f2,W,⟨m0,w0⟩,turn⟩:=h2
 subst e
 -- what stays true of the iterator's objects through the loop
 have stat:∀ {H':Hp},(∀ b∈fp,H' b=none)->∀ b∈fp,Zkm X pins H' b:=λhn b hb=>⟨hn b hb,(f2 b hb).2⟩
 refine codeAny_forLoop_any (λn s'=>∃ i Z' H',Inv X pins Z' H' s'/\tn i s'.heap/\(∀ b∈fp,H' b=none)/\W i n Z' H') ?_ m0 ⟨0,Z,H2,I2,st2,λb hb=>(f2 b hb).1,w0⟩
 rintro n s3 ⟨i,Z3,H3,I3,st3,fr3,w3⟩
 rcases turn i n Z3 H3 w3 with ⟨stop,qn⟩ | ⟨go,N,hN,step⟩
 ·refine Vl hp (Jl (T.done X rfl rfl rfl hc i pins s3 Z3 H3 X.xe I3 (stat fr3) st3 stop) λr s4 ⟨hr,I4⟩=>?_)
  subst hr
  exact Vx ⟨Z3,H3,I4,qn⟩
 ·refine Vl hp (Jl (T.item X rfl rfl rfl hc i pins s3 Z3 H3 X.xe I3 (stat fr3) st3 go) λr s4 ⟨u,hr,h4⟩=>?_)
  subst hr
  refine Vl hp (Jl h4 λ_ s5 ⟨x,H5,I5,r5,y5,st5,fr5⟩=>?_)
  have I5':=I5.pinned (stat fr5) (T.obj _ _ st5)
  refine Vl hp (Jl (hg _ s5 Z3 H5 x u _ I5' r5 (step x H5 y5)) λ_ s6 ⟨Z6,H6,I6,q6⟩=>?_)
  refine Vl hp (Jl (hb _ s6 Z6 H6 _ I6 q6) λf s7 q7=>?_)
  have again:∀ {Z7:St}{H7:Hp},Inv X (pins ++ ZiH fp s5.heap) Z7 H7 s7->N Z7 H7->∃ m,m < n/\∃ i Z' H',Inv X pins Z' H' s7/\tn i s7.heap/\(∀ b∈fp,H' b=none)/\W i m Z' H':=λ{Z7 H7} I7 n7=>by
   obtain⟨m',hm,w7⟩:=hN Z7 H7 n7
   refine⟨m',hm,i + 1,Z7,H7,I7.unpinned,T.keep _ _ _ st5 λb hb o e=>(I7.pin (b,o) (Yy _ (Yy _ (ZbL hb e)))).1,λb hb=>?_,w7⟩
   obtain⟨o,e,d⟩:=T.obj _ _ st5 b hb
   exact (I7.pin (b,o) (Yy _ (Yy _ (ZbL hb e)))).2.1
  cases f with
  | next=>obtain⟨Z7,H7,I7,n7⟩:=q7; exact again I7 n7
  | cont=>obtain⟨Z7,H7,I7,n7⟩:=q7; exact again I7 n7
  | brk=>obtain⟨Z7,H7,I7,q7⟩:=q7; exact⟨Z7,H7,I7.unpinned,q7⟩
  | ret v=>obtain⟨x7,Z7,H7,I7,r7,q7⟩:=q7; exact⟨x7,Z7,H7,I7.unpinned,r7,q7⟩
end
def Zi0{a:Addr}{xs:List V}{g:TG}{tb:TS}{D:Ends}(Pv:Nat->St->Hp->Prop)(h0:Pv 0 Z H)(hl:∀ i Z H,i<=xs.length->Pv i Z H->JY K H a xs)
  (hs:∀ i x Z H,xs[i]?=some x->Pv i Z H->g x Z H λZ2 H2=>tb { D with nx:=Pv (i + 1),ct:=Pv (i + 1),bk:=D.nx } Z2 H2) (hd:∀ Z H,Pv xs.length Z H->D.nx Z H) :
  ∃ W:Nat->Nat->St->Hp->Prop,(∃ m,W 0 m Z H)/\∀ i m Z H,W i m Z H ->
   ((Itl K a).stop i H/\D.nx Z H)\/((Itl K a).go i H/\∃ N:St->Hp->Prop,(∀ Z' H',N Z' H'->∃ m',m' < m/\W (i + 1) m' Z' H')/\∀ x H',(Itl K a).yld i H x H'->g x Z H' λZ2 H2=>tb { D with nx:=N,ct:=N,bk:=D.nx } Z2 H2):=by
 refine⟨λi m Z H=>m=xs.length - i/\i<=xs.length/\Pv i Z H,⟨xs.length,by simp,Nat.zero_le _,h0⟩,?_⟩
 rintro i m Z H ⟨rfl,hi,p⟩
 have q:=hl i Z H hi p
 by_cases hlt:i < xs.length
 ·refine .inr ⟨⟨xs,xs[i],q,by simp [hlt]⟩,Pv (i + 1),λZ' H' p'=>⟨xs.length - (i + 1),by omega,rfl,hlt,p'⟩,λx H' y=>?_⟩
  obtain⟨e,y⟩:=y
  subst e
  exact hs i x Z _ (y xs q) p
 ·have e:i=xs.length:=by omega
  subst e
  exact .inl ⟨⟨xs,q,Yd _⟩,hd Z H p⟩
abbrev R2:=V->V->Hp->VK->Prop
def OpR(X:Cx)(f:Value->Value->Sem Value)(r:R2):Prop :=
 ∀ (pins:List (Addr × Obj)) (s:Shared) (Z:St) (H:Hp) (x y:V) (v u:Value) (Q:VK),Inv X pins Z H s->ZP x v->ZP y u->r x y H Q ->
  wpAny (model X.prog X.w) X.A (f v u) (EP X pins Z Q) X.xe s
def UnR(X:Cx)(f:Value->Sem Value)(r:V->Hp->VK->Prop):Prop :=
 ∀ (pins:List (Addr × Obj)) (s:Shared) (Z:St) (H:Hp) (x:V) (v:Value) (Q:VK),Inv X pins Z H s->ZP x v->r x H Q ->
  wpAny (model X.prog X.w) X.A (f v) (EP X pins Z Q) X.xe s
def JM(X:Cx)(f:Value)(r:List V->Hp->VK->Prop):Prop :=
 ∀ (pins:List (Addr × Obj)) (s:Shared) (Z:St) (H:Hp) (xs:List V) (us:List Value) (Q:VK),Inv X pins Z H s->ZD xs us->r xs H Q ->
  wpAny (model X.prog X.w) X.A (call f us) (EP X pins Z Q) X.xe s
def JT(r:R2)(ta tb:TE):TE:=λZ H Q=>ta Z H λx H1=>tb Z H1 λy H2=>r x y H2 Q
def tUn(r:V->Hp->VK->Prop)(ta:TE):TE:=λZ H Q=>ta Z H λx H1=>r x H1 Q
def rI(C:Int->Int->Prop)(g:Int->Int->V):R2:=λx y H Q=>∃ i j,x=.int i/\y=.int j/\C i j/\Q (g i j) H
def rI0(g:Int->Int->V):R2:=λx y H Q=>∃ i j,x=.int i/\y=.int j/\Q (g i j) H
def rU(g:Int->V):V->Hp->VK->Prop:=λx H Q=>∃ i,x=.int i/\Q (g i) H
section
variable {X:Cx}{a b c:Expr}{ta tb tc:TE}{pos:Pos}
def ZtV(ha:PE X a ta)(hb:PE X b tb){pins:List (Addr × Obj)}{s:Shared}{Z:St}{H:Hp}{R:V->V->Hp->Prop}(I:Inv X pins Z H s)
  (h:ta Z H λx H1=>tb Z H1 λy H2=>R x y H2) {Q:VSP}{f:Value->Value->Sem Value}
  (hf:∀ v u s2 x y H2,Inv X pins Z H2 s2->ZP x v->ZP y u->R x y H2->wpAny (model X.prog X.w) X.A (f v u) Q X.xe s2) :
  wpAny (model X.prog X.w) X.A (eval a X.env) (λv s₁=>wpAny (model X.prog X.w) X.A (eval b X.env) (λu s₂=>wpAny (model X.prog X.w) X.A (f v u) Q X.xe s₂) X.xe s₁) X.xe s:=by
 refine Jl (ha pins s Z H _ I h) λv s1 ⟨x,H1,I1,r1,q1⟩=>?_
 refine Jl (hb pins s1 Z H1 _ I1 q1) λu s2 ⟨y,H2,I2,r2,q2⟩=>?_
 exact hf v u s2 x y H2 I2 r1 r2 q2
def Ze1{op:Operator}{r:R2}(ho:OpR X (binaryOp op) r)(ha:PE X a ta)(hb:PE X b tb):PE X (.BinOp a op b pos) (JT r ta tb):=by
 intro pins s Z H Q I h
 exact wpAny_BinOp (ZtV ha hb I h λv u s2 x y H2 I2 rx ry q=>ho pins s2 Z H2 x y v u Q I2 rx ry q)
def ZtN{op:UnaryOp}{r:V->Hp->VK->Prop}(ho:UnR X (unaryOp op) r)(ha:PE X a ta):PE X (.UnaryOp op a pos) (tUn r ta):=by
 intro pins s Z H Q I h
 exact UnaryOp_ (Jl (ha pins s Z H _ I h) λv s1 ⟨x,H1,I1,r1,q1⟩=>ho pins s1 Z H1 x v Q I1 r1 q1)
def opI{f:Value->Value->Sem Value}{C:Int->Int->Prop}{g:Int->Int->Int}
  (rule:∀ (i j:Int) (t u:Tok) (s:Shared) (Q:VSP) (E:VSP),C i j->Q (.int (g i j) s.toks) { s with toks:=s.toks + 1 }->wpAny (model X.prog X.w) X.A (f (.int i t) (.int j u)) Q E s) :
  OpR X f (rI C λi j=>.int (g i j)):=by
 intro pins s Z H x y v u Q I rx ry h
 obtain⟨i,j,rfl,rfl,hc,q⟩:=h
 obtain⟨t,rfl⟩:=rx
 obtain⟨t',rfl⟩:=ry
 exact rule i j t t' s _ _ hc ⟨.int (g i j),H,I.tok _,⟨_,rfl⟩,q⟩
def Zuq{f:Value->Value->Sem Value}{g:Int->Int->Int}
  (rule:∀ (i j:Int) (t u:Tok) (s:Shared) (Q:VSP) (E:VSP),Q (.int (g i j) s.toks) { s with toks:=s.toks + 1 }->wpAny (model X.prog X.w) X.A (f (.int i t) (.int j u)) Q E s) :
  OpR X f (rI0 λi j=>.int (g i j)):=by
 intro pins s Z H x y v u Q I rx ry h
 obtain⟨i,j,rfl,rfl,q⟩:=h
 obtain⟨t,rfl⟩:=rx
 obtain⟨t',rfl⟩:=ry
 exact rule i j t t' s _ _ ⟨.int (g i j),H,I.tok _,⟨_,rfl⟩,q⟩
def Ztv{f:Value->Value->Sem Value}{g:Int->Int->Bool}
  (rule:∀ (i j:Int) (t u:Tok) (s:Shared) (Q:VSP) (E:VSP),Q (.bool (g i j)) s->wpAny (model X.prog X.w) X.A (f (.int i t) (.int j u)) Q E s) :
  OpR X f (rI0 λi j=>.bl (g i j)):=by
 intro pins s Z H x y v u Q I rx ry h
 obtain⟨i,j,rfl,rfl,q⟩:=h
 obtain⟨t,rfl⟩:=rx
 obtain⟨t',rfl⟩:=ry
 exact rule i j t t' s _ _ ⟨.bl (g i j),H,I,rfl,q⟩
def Zs9(i j:Int):Prop:=0 < j/\j < 1073741824
def Ztp(i j:Int):Prop:=0<=j/\j<=1000000/\i.natAbs < 2 ^ 64
def Zrm(i j:Int):Prop:=(-(2 ^ 64) < i/\i < 2 ^ 64)\/(-(2 ^ 64) < j/\j < 2 ^ 64)
theorem Zrm.ok{i j:Int}(h:Zrm i j):IntMulOk i j:=by
 rcases h with ⟨h1,h2⟩ | ⟨h1,h2⟩
 ·exact .of_left (intBits_le_64 h1 h2)
 ·exact .of_right (intBits_le_64 h1 h2)
def ZsQ:OpR X (binaryOp .Add) (rI0 λi j=>.int (i + j)):=Zuq λ_ _ _ _ _ _ _ q=>add_int q
def Zr0:OpR X (binaryOp .Sub) (rI0 λi j=>.int (i - j)):=Zuq λ_ _ _ _ _ _ _ q=>sub_int q
def Zsd:OpR X (binaryOp .Mult) (rI Zrm λi j=>.int (i * j)):=opI λ_ _ _ _ _ _ _ hc q=>mul_int q hc.ok
def ZqW:OpR X (binaryOp .FloorDiv) (rI Zs9 λi j=>.int (i / j)):=opI λi j _ _ _ _ _ hc q=>by
 have h1:(0:Int) < j:=hc.1
 have h2:j < 1073741824:=hc.2
 exact floordiv_int (by omega) (by rw [VY i (by omega)]; exact q) (.inl (PyProof.noPylong_small (by omega)))
def ZsJ:OpR X (binaryOp .Mod) (rI (λ_ j=>0 < j) λi j=>.int (i % j)):=opI λi j _ _ _ _ _ hc q=>by
 have h1:(0:Int) < j:=hc
 exact mod_int' (by omega) (by rw [Int.fmod_eq_emod_of_nonneg i (by omega)]; exact q)
def ZpN:OpR X (binaryOp .Mod) (rI (λ_ j=>j ≠ 0) λi j=>.int (i.fmod j)):=opI λ_ _ _ _ _ _ _ hc q=>mod_int' hc q
def ZrR:OpR X (binaryOp .Pow) (rI Ztp λi j=>.int (i ^ j.toNat)):=opI λ_ _ _ _ _ _ _ hc q=>pow_int_small hc.1 hc.2.1 hc.2.2 q
def unI{f:Value->Sem Value}{g:Int->Int}
  (rule:∀ (i:Int) (t:Tok) (s:Shared) (Q:VSP) (E:VSP),Q (.int (g i) s.toks) { s with toks:=s.toks + 1 }->wpAny (model X.prog X.w) X.A (f (.int i t)) Q E s) :
  UnR X f (rU λi=>.int (g i)):=by
 intro pins s Z H x v Q I rx h
 obtain⟨i,rfl,q⟩:=h
 obtain⟨t,rfl⟩:=rx
 exact rule i t s _ _ ⟨.int (g i),H,I.tok _,⟨_,rfl⟩,q⟩
def ZsR:UnR X (unaryOp .USub) (rU λi=>.int (-i)):=unI λ_ _ _ _ _ q=>neg_int q
end
def Ztr:V->V->Bool
 | .non,.non=>true | .non,.int _=>true | .int _,.non=>true | .non,.bl _=>true | .bl _,.non=>true | .non,.str _=>true | .str _,.non=>true
 | .int _,.int _=>true | .bl _,.bl _=>true | .str _,.str _=>true | .byt _,.byt _=>true
 | .int _,.str _=>true | .str _,.int _=>true | .bl _,.str _=>true | .str _,.bl _=>true
 | _,_=>false
def rEq:R2:=λx y H Q=>Ztr x y=true/\Q (.bl (decide (x=y))) H
def rNe:R2:=λx y H Q=>Ztr x y=true/\Q (.bl (!decide (x=y))) H
def ZmD{i j:Int}:decide (V.int i=V.int j)=(i == j):=by
 rw [Vv]
 simp
def Zpn{i j:Bool}:decide (V.bl i=V.bl j)=(i == j):=by
 rw [Vv]
 simp
def ZmV{i j:Str}:decide (V.str i=V.str j)=(i == j):=by
 rw [Vv]
 simp
def Zmx{i j:Array UInt8}:decide (V.byt i=V.byt j)=(i.toList == j.toList):=by
 rw [Vv]
 cases i
 cases j
 simp
section
variable {X:Cx}{a b c:Expr}{ta tb tc:TE}{pos:Pos}
theorem ZW{Q:VK}{k k':Bool}(I:Inv X pins Z H s)(q:Q (.bl k) H)(e:k=k'):EP X pins Z Q (.bool k') s:=by
 subst e
 exact⟨.bl k,H,I,rfl,q⟩
def Zs8:OpR X (compareOp .Eq) rEq:=by
 intro pins s Z H x y v u Q I rx ry h
 obtain⟨hs,q⟩:=h
 cases x with
 | non =>
  cases rx
  cases y with
  | non=>cases ry; exact PySem.EqNone.eq_none_none (ZW I q (by simp))
  | bl j=>cases ry; exact PySem.EqNone.eq_none_bool (ZW I q (by simp))
  | int j=>obtain⟨t',rfl⟩:=ry; exact PySem.EqNone.eq_none_int (ZW I q (by simp))
  | str j=>obtain⟨t',rfl⟩:=ry; exact PySem.EqNone.eq_none_str (ZW I q (by simp))
  | _=>exact absurd (show false=true from hs) Yr
 | bl i =>
  cases rx
  cases y with
  | non=>cases ry; exact PySem.EqNone.eq_bool_none (ZW I q (by simp))
  | bl j=>cases ry; exact eq_bool (ZW I q Zpn)
  | str j=>obtain⟨t',rfl⟩:=ry; exact PySem.EqMixed.eq_bool_str (ZW I q (by simp))
  | _=>exact absurd (show false=true from hs) Yr
 | int i =>
  obtain⟨t,rfl⟩:=rx
  cases y with
  | non=>cases ry; exact PySem.EqNone.eq_int_none (ZW I q (by simp))
  | int j=>obtain⟨t',rfl⟩:=ry; exact eq_int (ZW I q ZmD)
  | str j=>obtain⟨t',rfl⟩:=ry; exact PySem.EqMixed.eq_int_str (ZW I q (by simp))
  | _=>exact absurd (show false=true from hs) Yr
 | str i =>
  obtain⟨t,rfl⟩:=rx
  cases y with
  | non=>cases ry; exact PySem.EqNone.eq_str_none (ZW I q (by simp))
  | bl j=>cases ry; exact PySem.EqMixed.eq_str_bool (ZW I q (by simp))
  | int j=>obtain⟨t',rfl⟩:=ry; exact PySem.EqMixed.eq_str_int (ZW I q (by simp))
  | str j=>obtain⟨t',rfl⟩:=ry; exact eq_str (ZW I q ZmV)
  | _=>exact absurd (show false=true from hs) Yr
 | byt i =>
  obtain⟨t,rfl⟩:=rx
  cases y with
  | byt j=>obtain⟨t',rfl⟩:=ry; exact PySem.W.eq_bytes (ZW I q Zmx)
  | _=>exact absurd (show false=true from hs) Yr
 | _=>cases y <;> exact absurd (show false=true from hs) Yr
def ZtU:OpR X (compareOp .NotEq) rNe:=by
 intro pins s Z H x y v u Q I rx ry h
 obtain⟨hs,q⟩:=h
 cases x with
 | non =>
  cases rx
  cases y with
  | non=>cases ry; exact PySem.EqNone.ne_none_none (ZW I q (by simp))
  | bl j=>cases ry; exact PySem.EqNone.ne_none_bool (ZW I q (by simp))
  | int j=>obtain⟨t',rfl⟩:=ry; exact PySem.EqNone.ne_none_int (ZW I q (by simp))
  | str j=>obtain⟨t',rfl⟩:=ry; exact PySem.EqNone.ne_none_str (ZW I q (by simp))
  | _=>exact absurd (show false=true from hs) Yr
 | bl i =>
  cases rx
  cases y with
  | non=>cases ry; exact PySem.EqNone.ne_bool_none (ZW I q (by simp))
  | bl j=>cases ry; exact ne_bool (ZW I q (congrArg not Zpn))
  | str j=>obtain⟨t',rfl⟩:=ry; exact PySem.EqMixed.ne_bool_str (ZW I q (by simp))
  | _=>exact absurd (show false=true from hs) Yr
 | int i =>
  obtain⟨t,rfl⟩:=rx
  cases y with
  | non=>cases ry; exact PySem.EqNone.ne_int_none (ZW I q (by simp))
  | int j=>obtain⟨t',rfl⟩:=ry; exact ne_int (ZW I q (congrArg not ZmD))
  | str j=>obtain⟨t',rfl⟩:=ry; exact PySem.EqMixed.ne_int_str (ZW I q (by simp))
  | _=>exact absurd (show false=true from hs) Yr
 | str i =>
  obtain⟨t,rfl⟩:=rx
  cases y with
  | non=>cases ry; exact PySem.EqNone.ne_str_none (ZW I q (by simp))
  | bl j=>cases ry; exact PySem.EqMixed.ne_str_bool (ZW I q (by simp))
  | int j=>obtain⟨t',rfl⟩:=ry; exact PySem.EqMixed.ne_str_int (ZW I q (by simp))
  | str j=>obtain⟨t',rfl⟩:=ry; exact ne_str (ZW I q (congrArg not ZmV))
  | _=>exact absurd (show false=true from hs) Yr
 | byt i =>
  obtain⟨t,rfl⟩:=rx
  cases y with
  | byt j=>obtain⟨t',rfl⟩:=ry; exact PySem.W.ne_bytes (ZW I q (congrArg not Zmx))
  | _=>exact absurd (show false=true from hs) Yr
 | _=>cases y <;> exact absurd (show false=true from hs) Yr
theorem Zp9:OpR X (compareOp .Lt) (rI0 λi j=>.bl (decide (i < j))):=Ztv λ_ _ _ _ _ _ _ q=>lt_int q
theorem ZpO:OpR X (compareOp .LtE) (rI0 λi j=>.bl (decide (i<=j))):=Ztv λ_ _ _ _ _ _ _ q=>le_int q
def ZtP:OpR X (compareOp .Gt) (rI0 λi j=>.bl (decide (j < i))):=Ztv λ_ _ _ _ _ _ _ q=>gt_int q
def ZrN:OpR X (compareOp .GtE) (rI0 λi j=>.bl (decide (j<=i))):=Ztv λ_ _ _ _ _ _ _ q=>ge_int q
def Zm1:OpR X (compareOp .In) (λx y H Q=>∃ i j,x=.str i/\y=.str j/\Q (.bl (!(Builtin.Str.occurrences j i 0 j.length 1).isEmpty)) H):=by
 intro pins s Z H x y v u Q I rx ry h
 obtain⟨i,j,rfl,rfl,q⟩:=h
 obtain⟨t,rfl⟩:=rx
 obtain⟨t',rfl⟩:=ry
 exact in_str (ZW I q rfl)
def Zcx(b:Expr){op:CmpOp}(h:op ≠ .In:=by decide)(h2:op ≠ .NotIn:=by decide):behindInMarks op b=false:=by
 have e1:(op == CmpOp.In)=false:=by cases op <;> first | rfl | exact absurd rfl h
 have e2:(op == CmpOp.NotIn)=false:=by cases op <;> first | rfl | exact absurd rfl h2
 cases b <;> simp [behindInMarks,e1,e2]
theorem ZdQ{op:CmpOp}{r:R2}(ho:OpR X (compareOp op) r)(ha:PE X a ta)(hb:PE X b tb)(hm:behindInMarks op b=false):PE X (.Compare a [op] [b] pos) (JT r ta tb):=by
 intro pins s Z H Q I h
 exact wpAny_Compare1 (ZtV ha hb I h λv u s2 x y H2 I2 rx ry q=>ho pins s2 Z H2 x y v u Q I2 rx ry q) hm
def JF(t:TE):TT:=λZ H Q=>t Z H λx H'=>∃ k,x=.bl k/\Q k H'
def Zc9{op:CmpOp}{r:R2}(ho:OpR X (compareOp op) r)(ha:PE X a ta)(hb:PE X b tb)(hm:behindInMarks op b=false):PT X (.Compare a [op] [b] pos) (JF (JT r ta tb)):=by
 intro pins s Z H Q I h
 refine wpAny_isTrue_Compare1 (Jl (ha pins s Z H _ I h) λv s1 ⟨x,H1,I1,r1,q1⟩=>Jl (hb pins s1 Z H1 _ I1 q1) λu s2 ⟨y,H2,I2,r2,q2⟩ =>
  Jl (ho pins s2 Z H2 x y v u _ I2 r1 r2 q2) λc s3 ⟨z,H3,I3,r3,k,e,q3⟩=>?_) hm
 subst e
 cases r3
 exact Y1 ⟨H3,I3,q3⟩
def ZfE(r r':R2)(ta tb tc:TE):TE:=λZ H Q=>ta Z H λx H1=>tb Z H1 λy H2=>r x y H2 λz H3=>∃ k,z=.bl k /\
 (if k=true then tc Z H3 λw' H4=>r' y w' H4 Q else Q (.bl false) H3)
theorem Zn4{op op':CmpOp}{r r':R2}(ho:OpR X (compareOp op) r)(ho':OpR X (compareOp op') r')(ha:PE X a ta)(hb:PE X b tb)(hc:PE X c tc)
  (hm:lastMarks [op,op'] [b,c]=false:=by with_unfolding_all rfl):PE X (.Compare a [op,op'] [b,c] pos) (ZfE r r' ta tb tc):=by
 intro pins s Z H Q I h
 refine Compare_chain (Jl (ha pins s Z H _ I h) λv s1 ⟨x,H1,I1,r1,q1⟩=>chain_link (Jl (hb pins s1 Z H1 _ I1 q1) λu s2 ⟨y,H2,I2,r2,q2⟩ =>
  Jl (ho pins s2 Z H2 x y v u _ I2 r1 r2 q2) λd s3 ⟨z,H3,I3,r3,k,e,q3⟩=>?_)) hm
 subst e
 cases r3
 refine Y1 ?_
 cases k with
 | false=>exact ite_ff ⟨.bl false,H3,I3,rfl,q3⟩
 | true=>exact ite_tt (chain_last (Jl (hc pins s3 Z H3 _ I3 q3) λw' s4 ⟨z',H4,I4,r4,q4⟩=>ho' pins s4 Z H4 y z' u w' Q I4 r2 r4 q4))
theorem Zoo{op op':CmpOp}{r r':R2}(ho:OpR X (compareOp op) r)(ho':OpR X (compareOp op') r')(ha:PE X a ta)(hb:PE X b tb)(hc:PE X c tc)
  (hm:lastMarks [op,op'] [b,c]=false:=by with_unfolding_all rfl):PT X (.Compare a [op,op'] [b,c] pos) (JF (ZfE r r' ta tb tc)):=by
 intro pins s Z H Q I h
 refine isTrue_chain (Jl (ha pins s Z H _ I h) λv s1 ⟨x,H1,I1,r1,q1⟩=>test_link (Jl (hb pins s1 Z H1 _ I1 q1) λu s2 ⟨y,H2,I2,r2,q2⟩ =>
  Jl (ho pins s2 Z H2 x y v u _ I2 r1 r2 q2) λd s3 ⟨z,H3,I3,r3,k,e,q3⟩=>?_)) hm
 subst e
 cases r3
 refine Y1 ?_
 cases k with
 | false =>
  obtain⟨k',e',q'⟩:=q3
  cases e'
  exact ite_ff ⟨H3,I3,q'⟩
 | true =>
  refine ite_tt (test_last (Jl (hc pins s3 Z H3 _ I3 q3) λw' s4 ⟨z',H4,I4,r4,q4⟩=>Jl (ho' pins s4 Z H4 y z' u w' _ I4 r2 r4 q4) λd' s5 ⟨z2,H5,I5,r5,k2,e2,q5⟩=>?_))
  subst e2
  cases r5
  exact Y1 ⟨H5,I5,q5⟩
def Zu0(K:PySem.W.Frag)(x:V)(H:Hp)(k:Bool):Prop :=
 match x with
 | .non=>k=false
 | .bl b=>k=b
 | .int i=>k=(i != 0)
 | .str y=>y.length<=sizeLine/\k=((y.length:Int) != 0)
 | .byt y=>y.size<=sizeLine/\k=((y.size:Int) != 0)
 | .ref p=>(∃ xs,JY K H p xs/\k=!xs.isEmpty)\/(∃ xs,SqT K H p xs/\k=!xs.isEmpty)\/∃ kvs,H p=some (.dK kvs)/\k=!kvs.isEmpty
 | _=>False
def ZfA:(sizeLine:Nat) < 2 ^ 63:=by rw [sizeLine_eq]; decide
def Zju:OpR X (binaryOp .Add) (λx y H Q=>∃ i j,x=.str i/\y=.str j/\i.length + j.length<=sizeLine/\Q (.str (i ++ j)) H):=by
 intro pins s Z H x y v u Q I rx ry h
 obtain⟨i,j,rfl,rfl,hz,q⟩:=h
 obtain⟨t,rfl⟩:=rx
 obtain⟨t',rfl⟩:=ry
 exact add_str (λt' tk=>⟨.str (i ++ j),H,I.tok _,⟨_,rfl⟩,q⟩) hz
def Zdh{x:V}(r:ZD [x] us):∃ u,us=[u]/\ZP x u:=by
 cases r with
 | cons r1 r2=>cases r2; exact⟨_,rfl,r1⟩
def ZkY{x y:V}(r:ZD [x,y] us):∃ u w',us=[u,w']/\ZP x u/\ZP y w':=by
 cases r with
 | cons r1 r2 =>
  cases r2 with
  | cons r3 r4=>cases r4; exact⟨_,_,rfl,r1,r3⟩
def Znp:JM X (.builtin "abs") (λxs H Q=>∃ i,xs=[.int i]/\Q (.int (if i < 0 then -i else i)) H):=by
 intro pins s Z H xs us Q I r h
 obtain⟨i,rfl,q⟩:=h
 obtain⟨u,rfl,t,rfl⟩:=Zdh r
 exact call_abs_int λu tk=>⟨.int (if i < 0 then -i else i),H,I.tok _,⟨_,rfl⟩,q⟩
def Zlh(hc:X.calm=true):JM X (.builtin "max") (λxs H Q=>∃ i j,xs=[.int i,.int j]/\Q (.int (if j > i then j else i)) H):=by
 intro pins s Z H xs us Q I r h
 obtain⟨i,j,rfl,q⟩:=h
 obtain⟨u,w',rfl,⟨t,rfl⟩,⟨t',rfl⟩⟩:=ZkY r
 refine max_two_ints (I.ok.hd hc) λh' tk k=>⟨_,H,I.kept k,?_,q⟩
 by_cases hj:j > i
 ·rw [if_pos hj,if_pos hj]; exact⟨_,rfl⟩
 ·rw [if_neg hj,if_neg hj]; exact⟨_,rfl⟩
def Zmr(hc:X.calm=true):JM X (.builtin "min") (λxs H Q=>∃ i j,xs=[.int i,.int j]/\Q (.int (if j < i then j else i)) H):=by
 intro pins s Z H xs us Q I r h
 obtain⟨i,j,rfl,q⟩:=h
 obtain⟨u,w',rfl,⟨t,rfl⟩,⟨t',rfl⟩⟩:=ZkY r
 refine min_two_ints (I.ok.hd hc) λh' tk k=>⟨_,H,I.kept k,?_,q⟩
 by_cases hj:j < i
 ·rw [if_pos hj,if_pos hj]; exact⟨_,rfl⟩
 ·rw [if_neg hj,if_neg hj]; exact⟨_,rfl⟩
end
structure ObjM(h:Heap)(x dx C:Addr)(mA:Str->Option Value):Prop where
 obj:h.get? x=some (instObj C dx)
 ns:h.Ns1 dx mA
 ne:dx ≠ x
def Zmi{h:Heap}{dx:Addr}{mA:Str->Option Value}(n:h.Ns1 dx mA):∃ od,h.get? dx=some od/\∀ name,lookIn name od=some (mA name):=by
 obtain⟨o,es,ep,ho,hd,hk,_,hm⟩:=n
 refine⟨o,ho,λname=>?_⟩
 have e:=hm name
 unfold nsFind findBy at e
 rw [<- Array.find?_toList] at e
 unfold lookIn
 rw [hd]
 dsimp only
 split
 ·rename_i y q
  rw [q] at e
  exact congrArg some e
 ·rename_i q
  rw [q] at e
  have a:es.toList.any (·.refKey)=false:=by
   rw [List.any_eq_false]
   intro y hy
   obtain⟨z,t,hkey⟩:=hk y (Array.mem_toList_iff.mp hy)
   simp [DictEntry.refKey,hkey]
  have a':¬ es.toList.any (·.refKey)=true:=by rw [a]; exact Yr
  rw [if_neg a']
  exact congrArg some e
def ObjM.look{h:Heap}{x dx C:Addr}{mA:Str->Option Value}(I:ObjM h x dx C mA):∃ od,PySem.W.InstAt h x (instObj C dx) C (some od)/\∀ name,lookIn name od=some (mA name) :=
 let ⟨od,ho,hl⟩:=Zmi I.ns
 ⟨od,⟨I.obj,rfl,rfl,ho⟩,hl⟩
section
variable {prog:Program}{w:World}{A:Around}{E:VSP}{s:Shared}{K:PySem.W.Frag}{x dx C f:Addr}{mA:Str->Option Value}{name:Str}{v:Value}
def ZqB{expr:Bool}{Q:VSP}(X:K.In s.heap)(I:ObjM s.heap x dx C mA)(hg:plainGet K C name=true)(hh:hasDictIn K C=true)
  (ha:PySem.W.findIn K (.ref C) name=some none) (hv:mA name=some v) (hv':handedIn v=true) (h:Q v { s with toks:=s.toks + 1 }) :
  wpAny (model prog w) A (getAttr (.ref x) name expr) Q E s:=by
 obtain⟨od,J,hl⟩:=I.look
 exact PySem.W.get_value X J (plainGet_of hg).1 (PySem.W.findObj_own hh ha rfl (by rw [hl,hv])) hv' h
def ZoZ{pl:Sem Bool}{Q:Value × List Value->Shared->Prop}(X:K.In s.heap)(I:ObjM s.heap x dx C mA)(hg:plainGet K C name=true)
  (hf:PySem.W.findIn K (.ref C) name=some (some (.ref f))) (ht:isFn K (.ref f)=true) (hv:mA name=none) (h:Q (.ref f,[.ref x]) s) :
  wpAny (model prog w) A (getMethod (.ref x) name pl) Q E s:=by
 obtain⟨od,J,hl⟩:=I.look
 exact PySem.W.method_fn X J (plainGet_of hg).1 (plainGet_of hg).2 hf (VB.mp ht) (by show (lookIn name od).map (·.isSome)=some false; rw [hl,hv]; rfl) h
def Zqw{ns:List Str}(X:K.In s.heap)(I:ObjM s.heap x dx C mA)
  (hs:PySem.W.findIn K (.ref C) "__setattr__"=some (some (.builtin "object.__setattr__"))) (hp:plainOver K C=true) (ht:takerIn K C name=some none) (hh:hasDictIn K C=true)
  (hw:PySem.Within mA ns) (hsz:ns.length<=sizeLine)
  (h:∀ h',ObjM h' x dx C (λy=>if y=name then some v else mA y)->Heap.SameBut dx s.heap h'->Q () { s with heap:=h',toks:=s.toks + 2 }) :
  wpAny (model prog w) A (setAttr (.ref x) name v) Q E s:=by
 obtain⟨od,J,hl⟩:=I.look
 refine PySem.W.set_plain X J hs (PySem.W.osa_open (s:={ s with toks:=s.toks + 1 }) (r:=none) X J hp ht λb=>?_)
 obtain⟨cd,hc,hd'⟩:=PySem.W.any_some hh
 have hx:s.heap.get? x=some ⟨.ref C,some dx,.plain,#[]⟩:=I.obj
 refine Ya (Yb (Ya (Ya (wpAny_loadPart hx (Ya (PySem.W.Looks.here (s:={ s with toks:=s.toks + 1 }) (PySem.W.looks_clsIn X hc) ?_))))))
 rw [hd']
 refine Yb (a:=some dx) (Ya (Yb (Ya ?_)))
 refine wpAny_nsSet1 (s:={ s with toks:=s.toks + 1 }) I.ns λh' hn2 hs2=>?_
 obtain⟨oD,esD,epD,hoD,hdD,hcD⟩:=hn2.count (PySem.Within.cons name v hw)
 refine Ya (wpAny_lookBehind hoD (by rw [hdD]; exact pastItsLine_dict (Yj hcD (by rw [Vd]; omega))) ?_)
 exact Yb (h _ ⟨(hs2.2 _ (Ne.symm I.ne)).trans I.obj,hn2,I.ne⟩ hs2)
def Znh{R:Result->Shared->Prop}{vs:List Value}{kw:List (Str × Value)}(X:K.In s.heap)(hm:makesIn K C=true)
  (hi:PySem.W.findIn K (.ref C) "__init__"=some (some (.ref f))) (hf:PySem.W.typeIn K (.ref f)=some (.type "function"))
  (h:codeAny (model prog w) (A.under (.builtin "type.__call__" ⟨.ref C :: vs,kw⟩)) (.call (.ref f) ⟨.ref (s.heap.objs.size + 1) :: vs,kw⟩) (PySem.W.InitBack (s.heap.objs.size + 1) R)
   { s with heap:=(s.heap.push emptyDict).push (instObj C s.heap.objs.size) }) :
  codeAny (model prog w) A (.call (.ref C) ⟨vs,kw⟩) R s:=by
 obtain⟨hh,g,d,t,os⟩:=s
 exact PySem.W.make_core (PySem.W.makes_of X hm) (PySem.W.looks_findIn X hi) (λself=>PySem.W.bind_fn X self hf) (.inl rfl) h
end
def JV(f:Str)(v:V):List (Str × V)->List (Str × V)
 | []=>[(f,v)]
 | (g,x) :: r=>if g=f then (g,v) :: r else (g,x) :: JV f v r
def ZeZ(f g:Str)(v:V):∀ fs:List (Str × V),(JV f v fs).lookup g=if g=f then some v else fs.lookup g
 | []=>by
  show List.lookup g [(f,v)]=_
  by_cases h:g=f
  ·have hb:(g == f)=true:=VB.mpr h
   simp only [List.lookup,hb,if_pos h]
  ·have hb:(g == f)=false:=Vs.mpr h
   simp only [List.lookup,hb,if_neg h]
 | (k,x) :: r=>by
  have ih:=ZeZ f g v r
  rw [show JV f v ((k,x) :: r)=(if k=f then (k,v) :: r else (k,x) :: JV f v r) from rfl]
  by_cases hk:k=f
  ·rw [if_pos hk]
   by_cases h:g=k
   ·have hb:(g == k)=true:=VB.mpr h
    simp only [List.lookup,hb,if_pos (h.trans hk)]
   ·have hb:(g == k)=false:=Vs.mpr h
    simp only [List.lookup,hb,if_neg (λe:g=f=>h (e.trans hk.symm))]
  ·rw [if_neg hk]
   by_cases h:g=k
   ·have hb:(g == k)=true:=VB.mpr h
    simp only [List.lookup,hb,if_neg (λe:g=f=>hk (h.symm.trans e))]
   ·have hb:(g == k)=false:=Vs.mpr h
    simp only [List.lookup,hb]
    exact ih
def Zen(f:Str)(v:V):∀ fs:List (Str × V),f∈(JV f v fs).map (·.1)/\∀ g,g∈fs.map (·.1)->g∈(JV f v fs).map (·.1)
 | []=>⟨by simp [JV],λg h=>by simp at h⟩
 | (k,x) :: r=>by
  obtain⟨i1,i2⟩:=Zen f v r
  rw [show JV f v ((k,x) :: r)=(if k=f then (k,v) :: r else (k,x) :: JV f v r) from rfl]
  by_cases hk:k=f
  ·rw [if_pos hk]
   subst hk
   exact⟨by simp,λg h=>by simpa using h⟩
  ·rw [if_neg hk]
   refine⟨?_,λg h=>?_⟩
   ·rw [Ys]
    exact YY _ i1
   ·rw [Ys] at h ⊢
    rcases Yl.mp h with e | e
    ·exact Yl.mpr (.inl e)
    ·exact YY _ (i2 g e)
def Zex(f:Str)(v:V):∀ fs:List (Str × V),(JV f v fs).length<=fs.length + 1
 | []=>by simp [JV]
 | (k,x) :: r=>by
  have ih:=Zex f v r
  rw [show JV f v ((k,x) :: r)=(if k=f then (k,v) :: r else (k,x) :: JV f v r) from rfl]
  by_cases hk:k=f
  ·rw [if_pos hk,Vd,Vd]; omega
  ·rw [if_neg hk,Vd,Vd]; omega
def J0.some_of{v:V}{o:Option Value}(r:J0 (some v) o):∃ u,o=some u/\ZP v u:=by
 cases o with
 | none=>exact (show False from r).elim
 | some u=>exact⟨u,rfl,r⟩
def J0.none_of{o:Option Value}(r:J0 none o):o=none:=by
 cases o with
 | none=>rfl
 | some u=>exact (show False from r).elim
def Zlj{v:V}(r:ZP v u):handedIn u=true:=by
 cases v with
 | non=>cases (show u=Value.none from r); rfl
 | bl b=>cases (show u=Value.bool b from r); rfl
 | int i=>obtain⟨t,e⟩:=(show ∃ t,u=Value.int i t from r); cases e; rfl
 | str x=>obtain⟨t,e⟩:=(show ∃ t,u=Value.str x t from r); cases e; rfl
 | byt b=>obtain⟨t,e⟩:=(show ∃ t,u=Value.bytes b t from r); cases e; rfl
 | flt b=>obtain⟨t,e⟩:=(show ∃ t,u=Value.float b t from r); cases e; rfl
 | ref a=>cases (show u=Value.ref a from r); rfl
 | ty n=>cases (show u=Value.type n from r); rfl
section
variable {P:Program}{w:World}{H H':Hp}{h h':Heap}{a C dx:Addr}{fs fs':List (Str × V)}
def Zgc(hok:HOk P w H h)(e:H a=some (.ins C dx fs)):∃ mA,ObjM h a dx C mA/\(∀ f,J0 (fs.lookup f) (mA f))/\PySem.Within mA (fs.map (·.1))/\fs.length<=1000/\H dx=some (.own a):=by
 obtain⟨d,z,ne,ob,mA,n,r,q⟩:=(show Ji P w H h a (.ins C dx fs) from hok a _ e)
 exact⟨mA,⟨ob,n,ne⟩,r,q,z,d⟩
end
structure Cls(K:PySem.W.Frag)(C:Addr):Prop where
 pg:plainGet K C Str.empty=true
 hd:hasDictIn K C=true
 po:plainOver K C=true
 sa:PySem.W.findIn K (.ref C) "__setattr__"=some (some (.builtin "object.__setattr__"))
theorem Cls.get{C:Addr}(c:Cls K C)(f:Str):plainGet K C f=true:=c.pg
def ZJ(K:PySem.W.Frag)(C:Addr)(f:Str):Prop:=PySem.W.findIn K (.ref C) f=some none
def ZJ.taker{C:Addr}{f:Str}(n:ZJ K C f):takerIn K C f=some none:=by
 unfold takerIn
 rw [show PySem.W.findIn K (.ref C) f=some none from n]
 rfl
structure Con(K:PySem.W.Frag)(C:Addr)(f:Str)(v:V)(u:Value):Prop where
 at_:PySem.W.findIn K (.ref C) f=some (some u)
 rel:ZP v u
 get:PySem.W.specialIn K u "__get__"=some none
 cp:PySem.W.copiedNames.contains f=false
structure Meth(K:PySem.W.Frag)(C:Addr)(m:Str)(f:Addr):Prop where
 at_:PySem.W.findIn K (.ref C) m=some (some (.ref f))
 fn:isFn K (.ref f)=true
 kp:keepIn K (.ref f)=true
section
variable {X:Cx}{pins:List (Addr × Obj)}{Z:St}{H:Hp}{s:Shared}{a C dx:Addr}{fs:List (Str × V)}{f:Str}{v:V}{A:Around}{E:VSP}
def Zkk{b:Bool}{Q:VSP}(I:Inv X pins Z H s)(e:H a=some (.ins C dx fs))(c:Cls X.K C)(n:ZJ X.K C f)(l:fs.lookup f=some v)
  (h:∀ u s',Inv X pins Z H s'->ZP v u->Q u s'):wpAny (model X.prog X.w) A (getAttr (.ref a) f b) Q E s:=by
 obtain⟨mA,O,r,_,_,_⟩:=Zgc I.hok e
 obtain⟨u,hu,ru⟩:=J0.some_of (v:=v) (o:=mA f) (by rw [<- l]; exact r f)
 exact ZqB I.kIn O (c.get f) c.hd n hu (Zlj ru) (h u _ (I.tok _) ru)
def ZdM{m:Str}{g:Addr}{pl:Sem Bool}{Q:Value × List Value->Shared->Prop}(I:Inv X pins Z H s)(e:H a=some (.ins C dx fs))(c:Cls X.K C)(k:Meth X.K C m g)(l:fs.lookup m=none)
  (h:Q (.ref g,[.ref a]) s):wpAny (model X.prog X.w) A (getMethod (.ref a) m pl) Q E s:=by
 obtain⟨mA,O,r,_,_,_⟩:=Zgc I.hok e
 have hn:mA m=none:=J0.none_of (by rw [<- l]; exact r m)
 exact ZoZ I.kIn O (c.get m) k.at_ k.fn hn h
def Zjy{y:V}(I:Inv X pins Z H s)(e:H a=some (.ins C dx fs))(c:Cls X.K C)(n:ZJ X.K C f)(hl:fs.length < 1000)(ry:ZP y u)
  (h:∀ s',Inv X pins Z (upd H a (.ins C dx (JV f y fs))) s'->Q () s'):wpAny (model X.prog X.w) A (setAttr (.ref a) f u) Q E s:=by
 obtain⟨mA,O,r,wi,_,ho⟩:=Zgc I.hok e
 have hz:(fs.map (·.1)).length<=sizeLine:=by rw [Yi,sizeLine_eq]; omega
 refine Zqw I.kIn O c.sa c.po n.taker c.hd wi hz λh' O' sb=>h _ ?_
 have hd:∃ o,h'.get? dx=some o:=let ⟨o,_,_,e',_⟩:=O'.ns; ⟨o,e'⟩
 refine I.write (x:=a) (e:=dx) (by rw [e]; exact True.intro) (.inr ho) (λb q hb z=>(sb.2 b hb).trans z) hd ?_
 refine⟨by rw [Zj O.ne]; exact ho,?_,O.ne,O'.obj,_,O'.ns,λg=>?_,λg hg=>?_⟩
 ·have:=Zex f y fs; omega
 ·show J0 ((JV f y fs).lookup g) (if g=f then some u else mA g)
  rw [ZeZ]
  by_cases q:g=f
  ·rw [if_pos q,if_pos q]; exact ry
  ·rw [if_neg q,if_neg q]; exact r g
 ·by_cases q:g=f
  ·rw [q]; exact (Zen f y fs).1
  ·refine (Zen f y fs).2 g (wi g λz=>hg ?_)
   show (if g=f then some u else mA g)=none
   rw [if_neg q]; exact z
def Inv.made(I:Inv X pins Z H s):Inv X pins Z (upd (upd H s.heap.objs.size (.own (s.heap.objs.size + 1))) (s.heap.objs.size + 1) (.ins C s.heap.objs.size []))
  { s with heap:=(s.heap.push emptyDict).push (instObj C s.heap.objs.size) }:=by
 have e1:(s.heap.push emptyDict).get? s.heap.objs.size=some emptyDict:=Ym s.heap rfl
 have e2:((s.heap.push emptyDict).push (instObj C s.heap.objs.size)).get? (s.heap.objs.size + 1)=some (instObj C s.heap.objs.size):=by
  have:=Ym (s.heap.push emptyDict) (o:=instObj C s.heap.objs.size) rfl
  rwa [Vy] at this
 have e3:(s.heap.push emptyDict).Ns s.heap.objs.size (λ_=>none):=⟨emptyDict,#[],_,e1,rfl,(λe he=>absurd he (by simp)),λ_=>rfl⟩
 have I1:=I.laid (a:=s.heap.objs.size) (o:=.own (s.heap.objs.size + 1)) (h':=s.heap.push emptyDict) (t':=s.toks) (λb u q=>Yg _ q) (Yd _) ⟨_,e1⟩
 refine I1.laid (a:=s.heap.objs.size + 1) (o:=.ins C s.heap.objs.size []) (t':=s.toks) (λb u q=>Yg _ q) (Nat.le_of_eq (Vy _ _)) ?_
 have ne:s.heap.objs.size ≠ s.heap.objs.size + 1:=Yn (VI _)
 refine⟨by rw [Zj ne,Zi],YA _,ne,e2,λ_=>none,(Heap.Ns1.of_empty e3).at λo q=>Yg _ q,λ_=>True.intro,λy hy=>absurd rfl hy⟩
def Zp3{prog:Program}{env:Env}{e:Expr}{f:Str}{pos:Pos}{Q:VSP}(hb:attributeBase e f env (eval e env)=eval e env)
  (h:wpAny (model prog w) A (eval e env) (λo s₁=>wpAny (model prog w) A (getAttr o f true) Q E s₁) E s):wpAny (model prog w) A (eval (.Attribute e f pos) env) Q E s :=
 Attribute_any_ h (by rw [arm_eval_Attribute,hb])
end
def Ztd(K:PySem.W.Frag)(ta:TE)(f:Str):TE:=λZ H Q=>ta Z H λx H1=>∃ a C dx fs v,x=.ref a/\H1 a=some (.ins C dx fs)/\Cls K C/\ZJ K C f/\fs.lookup f=some v/\Q v H1
def Zty(K:PySem.W.Frag)(ta tv:TE)(f:Str):TS:=λD Z H=>tv Z H λy H1=>ta Z H1 λx H2=>∃ a C dx fs,x=.ref a/\H2 a=some (.ins C dx fs)/\Cls K C/\ZJ K C f/\fs.length < 1000 /\
 D.nx Z (upd H2 a (.ins C dx (JV f y fs)))
section
variable {X:Cx}{o e value:Expr}{f:Str}{pos pos' tpos:Pos}{ta tv:TE}
def ZrO(he:PE X e ta)(hb:attributeBase e f X.env (eval e X.env)=eval e X.env):PE X (.Attribute e f pos) (Ztd X.K ta f):=by
 intro pins s Z H Q I h
 refine Zp3 hb (Jl (he pins s Z H _ I h) λu s1 ⟨x,H1,I1,rx,a,C,dx,fs,v,ex,ea,c,n,l,q⟩=>?_)
 subst ex
 obtain rfl:u=Value.ref a:=rx
 exact Zkk I1 ea c n l λu' s2 I2 ru=>⟨v,H1,I2,ru,q⟩
def ZrQ(ha:PE X o ta)(hv:PE X value tv)(hs:swapsWith value (some (.Attribute o f pos')) pos.line X.env=pure false):PS X (.Assign [.Attribute o f pos'] value pos) (Zty X.K ta tv f):=by
 intro pins s Z H D I h
 refine plainObj_wpAny_Assign_Attribute (Jl (hv pins s Z H _ I h) λu s1 ⟨y,H1,I1,ry,q⟩=>Jl (ha pins s1 Z H1 _ I1 q) λov s2 ⟨x,H2,I2,rx,a,C,dx,fs,ex,ea,c,n,l,q2⟩=>?_) hs
 subst ex
 obtain rfl:ov=Value.ref a:=rx
 exact Zjy I2 ea c n l ry λs3 I3=>⟨Z,_,I3,q2⟩
end
section
variable {X:Cx}{pins:List (Addr × Obj)}{Z:St}{H:Hp}{s:Shared}{A:Around}{E:VSP}{Q:VSP}{c:Value}{b:Bool}
inductive TyOf (K:PySem.W.Frag) (H:Hp):V->Value->Prop where
 | non:TyOf K H .non (.type "NoneType")
 | bl (x:Bool):TyOf K H (.bl x) (.type "bool")
 | int (i:Int):TyOf K H (.int i) (.type "int")
 | str (x:Str):TyOf K H (.str x) (.type "str")
 | flt (x:UInt64):TyOf K H (.flt x) (.type "float")
 | lst {a:Addr}{xs:List V}(e:H a=some (.lst xs)):TyOf K H (.ref a) (.type "list")
 | frz {a:Addr}{o:Obj}{xs:List V}(e:H a=some (.frz o (.lst xs))):TyOf K H (.ref a) (.type "list")
 | tup {a:Addr}{xs:List V}(e:H a=some (.tup xs)):TyOf K H (.ref a) (.type "tuple")
 | dK {a:Addr}{kvs:List (Je × V)}(e:H a=some (.dK kvs)):TyOf K H (.ref a) (.type "dict")
 | dT {a:Addr}{kvs:List (List Je × V)}(e:H a=some (.dT kvs)):TyOf K H (.ref a) (.type "dict")
 | ins {a C dx:Addr}{fs:List (Str × V)}(e:H a=some (.ins C dx fs)) (cl:Cls K C) (ha:PySem.W.findIn K (.ref C) "__class__"=some (some (.builtin "object.__class__")))
   (hn:PySem.W.specialIn K (.builtin "object.__class__") "__get__"=some (some (.builtin "getset_descriptor.__get__"))) (htk:PySem.W.takesIn K (.builtin "object.__class__")=some true)
   (hm:PySem.W.mroIn K C (.type "object")=some true):TyOf K H (.ref a) (.ref C)
def Zhl{x:V}{u t:Value}(I:Inv X pins Z H s)(rx:ZP x u)(ty:TyOf X.K H x t)(e:kitOne X.K t c=some b)(h:∀ tk,Q (.bool b) { s with toks:=tk }) :
  wpAny (model X.prog X.w) A (call (.builtin "isinstance") [u,c]) Q E s:=by
 cases ty with
 | non=>cases (show u=Value.none from rx); exact kia_one PySem.W.kitx_none I.kIn True.intro e (λz=>nomatch z) h
 | bl y=>cases (show u=Value.bool y from rx); exact kia_one PySem.W.kitx_bool I.kIn True.intro e (λz=>nomatch z) h
 | int i=>obtain⟨t,q⟩:=(show ∃ t,u=Value.int i t from rx); cases q; exact kia_one PySem.W.kitx_int I.kIn True.intro e (λz=>nomatch z) h
 | str y=>obtain⟨t,q⟩:=(show ∃ t,u=Value.str y t from rx); cases q; exact kia_one PySem.W.kitx_str I.kIn True.intro e (λz=>nomatch z) h
 | flt y=>obtain⟨t,q⟩:=(show ∃ t,u=Value.float y t from rx); cases q; exact kia_one PySem.W.kitx_float I.kIn True.intro e (λz=>nomatch z) h
 | @lst a xs ea =>
  cases (show u=Value.ref a from rx)
  obtain⟨_,_,n,_,h1⟩:=(show Ji X.prog X.w H s.heap a (.lst xs) from I.hok a _ ea)
  exact kia_one kitx_list I.kIn ⟨_,h1,rfl⟩ e (λz=>nomatch z) h
 | @frz a ob xs ea =>
  cases (show u=Value.ref a from rx)
  obtain⟨_,_,_,n,_,h1⟩:=(show Ji X.prog X.w H s.heap a (.frz ob (.lst xs)) from I.hok a _ ea)
  exact kia_one kitx_list I.kIn ⟨_,h1,rfl⟩ e (λz=>nomatch z) h
 | @tup a xs ea =>
  cases (show u=Value.ref a from rx)
  obtain⟨_,_,_,p⟩:=(show Ji X.prog X.w H s.heap a (.tup xs) from I.hok a _ ea)
  obtain⟨o,h1,h2,_⟩:=p
  exact kia_one PySem.W.kitx_tuple I.kIn ⟨o,h1,h2⟩ e (λz=>nomatch z) h
 | @dK a kvs ea =>
  cases (show u=Value.ref a from rx)
  obtain⟨_,_,vs,_,p⟩:=(show Ji X.prog X.w H s.heap a (.dK kvs) from I.hok a _ ea)
  obtain⟨o,es,ep,h1,h2,_⟩:=p
  exact kia_one kitx_dict I.kIn ⟨o,h1,h2.1⟩ e (λz=>nomatch z) h
 | @dT a kvs ea =>
  cases (show u=Value.ref a from rx)
  obtain⟨_,_,xs,_,o,es,ep,h1,h2,_⟩:=(show Ji X.prog X.w H s.heap a (.dT kvs) from I.hok a _ ea)
  exact kia_one kitx_dict I.kIn ⟨o,h1,h2.1⟩ e (λz=>nomatch z) h
 | @ins a C dx fs ea cl ha hn htk hm =>
  cases (show u=Value.ref a from rx)
  obtain⟨mA,O,_⟩:=Zgc I.hok ea
  obtain⟨od,J,_⟩:=O.look
  exact kia_one (PySem.W.kitx_own (cl.get _) cl.hd ha hn htk hm) I.kIn J e (λz=>nomatch z) h
end
structure Room(k:Nat)(A:Around):Prop where
 hd:A.handled=none
 dp:A.depth + 3 * k + 5 < recursionLimit
 un:A.units + 16 * k + 200 < cLine
theorem Room.mono{j k:Nat}(r:Room k A)(h:j<=k):Room j A:=⟨r.hd,by have:=r.dp; omega,by have:=r.un; omega⟩
variable {k:Nat}
def Room.deeper(r:Room (k + 1) A)(env:Env):Room k (A.deeper env) :=
 ⟨r.hd,by have:=r.dp; show A.depth + 1 + 3 * k + 5 < _; omega,by have:=r.un; show A.units + 3 + 16 * k + 200 < _; omega⟩
theorem Room.in1(r:Room (k + 1) A):Room k A.in1 :=
 ⟨r.hd,by have:=r.dp; show A.depth + 3 * k + 5 < _; omega,by have:=r.un; show A.units + 1 + 16 * k + 200 < _; omega⟩
def ZjX{C:Addr}{kw:List (Str × Value)}:(A.under (.builtin "type.__call__" ⟨.ref C :: us,kw⟩)).depth=A.depth + 1:=by
 first | rfl | simp [Around.under,Code.weight,Code.isCreation,Code.isGuard,Code.isCaller,Code.frames,Code.isFrame,guardIds]
def ZjO{C:Addr}{kw:List (Str × Value)}:(A.under (.builtin "type.__call__" ⟨.ref C :: us,kw⟩)).units=A.units + 1:=by
 first | rfl | simp [Around.under,Code.cUnits,Code.frames,Code.isFrame]
def Room.make(r:Room (k + 1) A)(C:Addr)(us:List Value)(kw:List (Str × Value)):Room k (A.under (.builtin "type.__call__" ⟨.ref C :: us,kw⟩)) :=
 ⟨r.hd,by have:=r.dp; rw [ZjX]; omega,by have:=r.un; rw [ZjO]; omega⟩
def Room.depth(r:Room k A):A.depth < recursionLimit:=by have:=r.dp; omega
theorem Room.units(r:Room k A):A.units + 64 < cLine:=by have:=r.un; omega
def Zrl:TA:=λ_ H Q=>Q [] H
def Zj2(ta:TE)(tr:TA):TA:=λZ H Q=>ta Z H λx H1=>tr Z H1 λxs H2=>Q (x :: xs) H2
section
variable {X:Cx}{e:Expr}{es:List Expr}{te:TE}{t:TA}{pos:Pos}
def ZsX:PA X [] Zrl:=λ_ _ _ _ H Q I h=>Calls.spliced_nil ⟨[],H,I,.nil,h⟩
def Zqm(ha:PE X e te)(hr:PA X es t)(hs:starEach (e :: es) X.env=(false,eval e X.env) :: starEach es X.env:=by rfl):PA X (e :: es) (Zj2 te t):=by
 intro pos pins s Z H Q I h
 rw [hs]
 show wpAny _ _ (spliced ((false,eval e X.env) :: backTo pos (starEach es X.env))) _ _ s
 refine VH (Jl (ha pins s Z H _ I h) λu s1 ⟨x,H1,I1,r1,q1⟩=>?_)
 exact Jl (hr pos pins s1 Z H1 _ I1 q1) λus s2 ⟨xs,H2,I2,r2,q2⟩=>⟨x :: xs,H2,I2,.cons r1 r2,q2⟩
end
abbrev Sp:=List V->Hp->VK->XK->Prop
abbrev CXT:=List Env->Hp->Shared->XK->Value->Shared->Prop
structure Env0(P:Program)(w:World)(K:PySem.W.Frag)(mg:Str->Option Value)(base:Heap)(A:Around)(outer:List Env)(s:Shared)(H:Hp):Prop where
 frames:A.frames=some outer
 mod:Mod K mg base
 bs:∀ b o,base.get? b=some o->s.heap.get? b=some o/\H b=none
 bsz:base.objs.size<=s.heap.objs.size
 funs:s.heap.FunFrames base outer
 frf:∀ b∈frs outer,H b=none
 hok:HOk P w H s.heap
 bare:AllBare s.gens
def CE(outer:List Env)(P:Program)(w:World)(H:Hp)(s:Shared)(Q:VK)(u:Value)(s':Shared):Prop :=
 ∃ v H',s'.os=s.os/\AllBare s'.gens/\Un (frs outer) [] H H' s.heap s'.heap/\HOk P w H' s'.heap/\ZP v u/\Q v H'
def CR(CX:CXT)(outer:List Env)(P:Program)(w:World)(H:Hp)(s:Shared)(Q:VK)(E:XK)(r:Result)(s':Shared):Prop :=
 match r with
 | .ok (.ret u)=>CE outer P w H s Q u s'
 | .ok _=>False
 | .error e=>CX outer H s E e s'
structure FnOk(P:Program)(w:World)(K:PySem.W.Frag)(mg:Str->Option Value)(base:Heap)(CX:CXT)(k:Nat)(f:Addr)(fd:FuncData)(ps:List Str)(sp:Sp):Prop where
 len:∀ vs H Q E,sp vs H Q E->vs.length=ps.length
 run:∀ (A:Around) (outer:List Env) (s:Shared) (H:Hp) (args:Args) (us:List Value) (vs:List V) (Q:VK) (E:XK),Room k A->Env0 P w K mg base A outer s H->BindsTo s fd args (ps.zip us)->ZD vs us->sp vs H Q E ->
  codeAny (model P w) A (.call (.ref f) args) (CR CX outer P w H s Q E) s
variable {mg:Str->Option Value}
theorem FnOk.mono{base:Heap}{CX:CXT}{j k:Nat}{f:Addr}{fd:FuncData}{ps:List Str}{sp:Sp}(F:FnOk P w K mg base CX j f fd ps sp)(h:j<=k) :
  FnOk P w K mg base CX k f fd ps sp:=⟨F.len,λA outer s H args us vs Q E hr=>F.run A outer s H args us vs Q E (hr.mono h)⟩
def FnOk.imp{base:Heap}{CX:CXT}{f:Addr}{fd:FuncData}{ps:List Str}{sp sp':Sp}(F:FnOk P w K mg base CX k f fd ps sp)
  (h:∀ vs H Q E,sp' vs H Q E->sp vs H Q E):FnOk P w K mg base CX k f fd ps sp' :=
 ⟨λvs H Q E q=>F.len vs H Q E (h _ _ _ _ q),λA outer s H args us vs Q E hr he hb hv hs=>F.run A outer s H args us vs Q E hr he hb hv (h _ _ _ _ hs)⟩
def Env0.make{base:Heap}{outer:List Env}(e:Env0 P w K mg base A outer s H)(C:Addr)(us:List Value)(kw:List (Str × Value)) :
  Env0 P w K mg base (A.under (.builtin "type.__call__" ⟨.ref C :: us,kw⟩)) outer s H:=⟨by first | exact e.frames | (simpa [Around.under,Code.envs,Code.isFrame,pushEnvs] using e.frames),e.mod,e.bs,e.bsz,e.funs,e.frf,e.hok,e.bare⟩
theorem Env0.in1{base:Heap}{outer:List Env}(e:Env0 P w K mg base A outer s H) :
  Env0 P w K mg base A.in1 outer s H:=⟨e.frames,e.mod,e.bs,e.bsz,e.funs,e.frf,e.hok,e.bare⟩
section
variable {X:Cx}{pins:List (Addr × Obj)}{Z:St}{H:Hp}{s s':Shared}
def Inv.env0(I:Inv X pins Z H s):Env0 X.prog X.w X.K X.mg X.base X.A X.stack s H :=
 ⟨I.ok.frames,I.ok.mod,I.bs,Yj I.ok.bsz I.sz,I.stack,I.stkFree,I.hok,I.bare⟩
def Inv.after{Q:VK}(I:Inv X pins Z H s)(h:CE X.stack X.prog X.w H s Q u s'):EP X pins Z Q u s':=by
 obtain⟨v,H',os,bare,un,hok,r,q⟩:=h
 obtain⟨hh,g,d,t,os'⟩:=s'
 obtain rfl:os'=s.os:=os
 exact⟨v,H',I.call (h':=hh) (g':=g) (d':=d) (t':=t) (ch:=[]) un hok bare (λb z=>absurd z (by simp)),r,q⟩
end
def Zh3(sp:Sp)(dvs:List V)(E:XK)(t:TA):TE:=λZ H Q=>t Z H λvs H1=>sp (vs ++ dvs) H1 Q E
def ZhO(C:Addr)(m:Str)(sp:Sp)(dvs:List V)(E:XK)(ta:TE)(t:TA):TE:=λZ H Q=>ta Z H λx H1=>∃ a dx fs,x=.ref a/\H1 a=some (.ins C dx fs)/\fs.lookup m=none /\
 t Z H1 λvs H2=>sp (x :: (vs ++ dvs)) H2 Q E
def Zni(C:Addr)(sp:Sp)(dvs:List V)(E:XK)(t:TA):TE:=λZ H Q=>t Z H λvs H1=>∀ x dx,H1 x=none->H1 dx=none->dx ≠ x ->
 sp (.ref x :: (vs ++ dvs)) (upd (upd H1 dx (.own x)) x (.ins C dx [])) (λv H2=>v=.non/\Q (.ref x) H2) E
def Zy(K:PySem.W.Frag)(fd:FuncData)(ps:List Str)(ds:List Value):Prop :=
 ∀ (s:Shared) (us:List Value),K.In s.heap->(us ++ ds).length=ps.length->BindsTo s fd ⟨us,[]⟩ (ps.zip (us ++ ds))
def Zy.all{fd:FuncData}{ps:List Str}(h:∀ us:List Value,us.length=ps.length->bindArgs fd ⟨us,[]⟩=pure (ps.zip us)):Zy K fd ps []:=λs us _ hl=>by
 rw [Vk] at hl ⊢
 exact .of_eq (h us hl)
def Zd1(CX:CXT)(X:Cx)(E:XK):Prop:=∀ (pins:List (Addr × Obj)) (Z:St) (H:Hp) (s:Shared) (e:Value) (s':Shared),Inv X pins Z H s->CX X.stack H s E e s'->X.xe e s'
section
variable {X:Cx}{CX:CXT}{k:Nat}{f C:Addr}{fd:FuncData}{ps:List Str}{sp:Sp}{dvs:List V}{ds:List Value}{E:XK}{x m:Str}{p pos apos:Pos}{e o:Expr}{es:List Expr}{ta:TE}{t:TA}
def ZmL{Q:VK}{vs:List V}(F:FnOk X.prog X.w X.K X.mg X.base CX k f fd ps sp)(hr:Room k X.A)(hb:Zy X.K fd ps ds)(hd:ZD dvs ds)(hx:Zd1 CX X E)
  (I:Inv X pins Z H s) (r:ZD vs us) (h:sp (vs ++ dvs) H Q E):wpAny (model X.prog X.w) X.A (call (.ref f) us) (EP X pins Z Q) X.xe s:=by
 have r2:ZD (vs ++ dvs) (us ++ ds):=r.append hd
 have hl:(us ++ ds).length=ps.length:=by rw [<- r2.length]; exact F.len _ _ _ _ h
 refine Vf (YF (F.run X.A X.stack s H ⟨us,[]⟩ (us ++ ds) (vs ++ dvs) Q E hr I.env0 (hb s us I.kIn hl) r2 h) λr s' hq=>?_)
 cases r with
 | error e=>exact hx pins Z H s e s' I hq
 | ok fl =>
  cases fl with
  | ret u=>exact I.after hq
  | next=>exact False.elim hq
  | brk=>exact False.elim hq
  | cont=>exact False.elim hq
def Zk6(F:FnOk X.prog X.w X.K X.mg X.base CX k f fd ps sp)(hr:Room k X.A)(hg:Gl X x)(hm:X.mg x=some (.ref f))(hk:keepIn X.K (.ref f)=true)(hb:Zy X.K fd ps ds)(hd:ZD dvs ds)(hx:Zd1 CX X E)
  (ha:PA X (e :: es) t) (hdb:(x == ("__debug__":Str))=false:=by decide) (he:starEach (e :: es) X.env=(false,eval e X.env) :: starEach es X.env:=by rfl) (hpl:(backTo pos (starEach es X.env)).any (·.1)=false:=by rfl) :
  PE X (.Call (.Name x p) (e :: es) [] pos) (Zh3 sp dvs E t):=by
 intro pins s Z H Q I h
 refine YU (ZeG I hg hm ?_ hdb)
 refine callWith_K (h₀:=X.base) I.ok.mod.kin hk (Jl (ha pos pins s Z H _ I h) λus s1 ⟨vs,H1,I1,r,q⟩=>⟨I1.kIn,?_⟩) he hpl
 exact ZmL F hr hb hd hx I1 r q
def Zlx{pl:Sem Bool}(he:PE X o ta)(c:Cls X.K C)(hm:Meth X.K C m f)(F:FnOk X.prog X.w X.K X.mg X.base CX k f fd ps sp)(hr:Room k X.A)(hb:Zy X.K fd ps ds)(hd:ZD dvs ds)(hx:Zd1 CX X E)(ha:PA X (e :: es) t)
  (hst:starEach (e :: es) X.env=(false,eval e X.env) :: starEach es X.env:=by rfl) (hpl:(backTo pos (starEach es X.env)).any (·.1)=false:=by rfl)
  (ht:eval (.Call (.Attribute o m apos) (e :: es) [] pos) X.env=(do
   let ov <- eval o X.env
   standAt apos.atName
   let (f,first) <- holding [ov] (getMethod ov m pl)
   callWith pos f first (backTo pos (starEach (e :: es) X.env)) (backToKw pos (keywordEach [] X.env))):=by rfl) :
  PE X (.Call (.Attribute o m apos) (e :: es) [] pos) (ZhO C m sp dvs E ta t):=by
 intro pins s Z H Q I h
 refine methodCall_KW (pl:=pl) (Jl (he pins s Z H _ I h) λu s1 ⟨x,H1,I1,rx,a,dx,fs,ex,ea,l,q⟩=>?_) ht
 subst ex
 obtain rfl:u=Value.ref a:=rx
 refine ZdM I1 ea c hm l ?_
 refine callWith_K (first:=[.ref a]) (h₀:=X.base) I.ok.mod.kin hm.kp (Jl (ha pos pins s1 Z H1 _ I1 q) λus s2 ⟨vs,H2,I2,r,q2⟩=>⟨I2.kIn,?_⟩) hst hpl
 exact ZmL (us:=.ref a :: us) (vs:=.ref a :: vs) F hr hb hd hx I2 (.cons rfl r) q2
def Znw{pl:Sem Bool}(he:PE X o ta)(c:Cls X.K C)(hm:Meth X.K C m f)(F:FnOk X.prog X.w X.K X.mg X.base CX k f fd ps sp)(hr:Room k X.A)(hb:Zy X.K fd ps ds)(hd:ZD dvs ds)(hx:Zd1 CX X E)
  (ht:eval (.Call (.Attribute o m apos) [] [] pos) X.env=(do
   let ov <- eval o X.env
   standAt apos.atName
   let (f,first) <- holding [ov] (getMethod ov m pl)
   callWith pos f first (backTo pos (starEach [] X.env)) (backToKw pos (keywordEach [] X.env))):=by rfl) :
  PE X (.Call (.Attribute o m apos) [] [] pos) (ZhO C m sp dvs E ta Zrl):=by
 intro pins s Z H Q I h
 refine methodCall_KW (pl:=pl) (Jl (he pins s Z H _ I h) λu s1 ⟨x,H1,I1,rx,a,dx,fs,ex,ea,l,q⟩=>?_) ht
 subst ex
 obtain rfl:u=Value.ref a:=rx
 refine ZdM I1 ea c hm l ?_
 exact PySem.W.callWith_K0 (first:=[.ref a]) I1.kIn hm.kp (ZmL (us:=[.ref a]) (vs:=[.ref a]) F hr hb hd hx I1 (.cons rfl .nil) q)
structure Mk(K:PySem.W.Frag)(C f:Addr):Prop where
 makes:makesIn K C=true
 init:PySem.W.findIn K (.ref C) "__init__"=some (some (.ref f))
 fn:isFn K (.ref f)=true
 kp:keepIn K (.ref C)=true
def Zox{Q:VK}{vs:List V}(M:Mk X.K C f)(F:FnOk X.prog X.w X.K X.mg X.base CX k f fd ps sp)(hr:Room (k + 1) X.A)(hb:Zy X.K fd ps ds)(hd:ZD dvs ds)
  (hx:Zd1 CX X E) (I:Inv X pins Z H s) (r:ZD vs us)
  (h:∀ x dx,H x=none->H dx=none->dx ≠ x->sp (.ref x :: (vs ++ dvs)) (upd (upd H dx (.own x)) x (.ins C dx [])) (λv H2=>v=.non/\Q (.ref x) H2) E) :
  wpAny (model X.prog X.w) X.A (call (.ref C) us) (EP X pins Z Q) X.xe s:=by
 have hq:=h (s.heap.objs.size + 1) s.heap.objs.size (I.hok.fresh (Vn _)) (I.hok.fresh (Yd _)) (Yn (VI _))
 have I2:=Inv.made (C:=C) I
 have r2:ZD (V.ref (s.heap.objs.size + 1) :: (vs ++ dvs)) (Value.ref (s.heap.objs.size + 1) :: (us ++ ds)):=.cons rfl (r.append hd)
 have hl:(Value.ref (s.heap.objs.size + 1) :: us ++ ds).length=ps.length:=by
  have e:=r2.length
  rw [F.len _ _ _ _ hq] at e
  exact e.symm
 refine Vf (Znh (f:=f) I.kIn M.makes M.init (VB.mp M.fn) (YF (F.run _ X.stack _ _ ⟨Value.ref (s.heap.objs.size + 1) :: us,[]⟩ (Value.ref (s.heap.objs.size + 1) :: (us ++ ds)) _ _ E (hr.make C us [])
  (I2.env0.make C us []) (hb _ (Value.ref (s.heap.objs.size + 1) :: us) I2.kIn hl) r2 hq) λr s' hq'=>?_))
 cases r with
 | error e=>exact hx pins Z _ _ e s' I2 hq'
 | ok fl =>
  cases fl with
  | ret u =>
   obtain⟨v,H',I3,rv,ev,q3⟩:=I2.after hq'
   subst ev
   exact⟨rv,⟨V.ref (s.heap.objs.size + 1),H',I3,rfl,q3⟩⟩
  | next=>exact False.elim hq'
  | brk=>exact False.elim hq'
  | cont=>exact False.elim hq'
def Zqj(M:Mk X.K C f)(F:FnOk X.prog X.w X.K X.mg X.base CX k f fd ps sp)(hr:Room (k + 1) X.A)(hg:Gl X x)(hm:X.mg x=some (.ref C))(hb:Zy X.K fd ps ds)(hd:ZD dvs ds)(hx:Zd1 CX X E)
  (ha:PA X (e :: es) t) (hdb:(x == ("__debug__":Str))=false:=by decide) (he:starEach (e :: es) X.env=(false,eval e X.env) :: starEach es X.env:=by rfl) (hpl:(backTo pos (starEach es X.env)).any (·.1)=false:=by rfl) :
  PE X (.Call (.Name x p) (e :: es) [] pos) (Zni C sp dvs E t):=by
 intro pins s Z H Q I h
 refine YU (ZeG I hg hm ?_ hdb)
 refine callWith_K (h₀:=X.base) I.ok.mod.kin M.kp (Jl (ha pos pins s Z H _ I h) λus s1 ⟨vs,H1,I1,r,q⟩=>⟨I1.kIn,?_⟩) he hpl
 exact Zox M F hr hb hd hx I1 r q
end
section
variable {X:Cx}{CX:CXT}{k:Nat}{f C:Addr}{fd:FuncData}{ps ks:List Str}{sp:Sp}{E:XK}{x m:Str}{p pos apos kpos:Pos}{e o:Expr}{es:List Expr}{kws:List Keyword}{te ta:TE}{t tk:TA}{nm:Option Str}
structure KBinds(K:PySem.W.Frag)(fd:FuncData)(ps ks:List Str)(g:List Value->List Value->List Value)(gV:List V->List V->List V):Prop where
 to:∀ (s:Shared) (us ws:List Value),K.In s.heap->(g us ws).length=ps.length->BindsTo s fd ⟨us,ks.zip ws⟩ (ps.zip (g us ws))
 rel:∀ {vs:List V}{us:List Value}{zs:List V}{ws:List Value},ZD vs us->ZD zs ws->ZD (gV vs zs) (g us ws)
variable {g:List Value->List Value->List Value}{gV:List V->List V->List V}
end
structure FnScope(N P:List Str)(sc:Scope):Prop where
 kind:sc.kind=.function
 co:sc.isCoroutine=false
 gen:sc.isGenerator=false
 nd:N.Nodup
 pre:N.take P.length=P
 par:∀ x∈P,sc.names.lookup x=some .local\/sc.names.lookup x=some .cell
 nofree:∀ y∈sc.names,y.2 ≠ .free
variable {kindOf:Str->Option NameKind}{x:Str}
def Zg7:∀ {binds:List (Str × Value)}{m:Str->Option Value},(∀ v,(x,v) ∉ binds)->bindL kindOf binds m x=m x
 | [],_,_=>rfl
 | (n,v) :: r,m,h=>by
  unfold bindL
  rw [Zg7 λw hw=>h w (YY _ hw)]
  split
  ·have:x ≠ n:=by rintro rfl; exact h v Vi
   simp [this]
  ·rfl
def ZgQ:∀ {binds:List (Str × Value)}{m:Str->Option Value},(∀ v,(x,v) ∉ binds)->bindC kindOf binds m x=m x
 | [],_,_=>rfl
 | (n,v) :: r,m,h=>by
  unfold bindC
  rw [ZgQ λw hw=>h w (YY _ hw)]
  split
  ·rfl
  ·have:x ≠ n:=by rintro rfl; exact h v Vi
   simp [this]
theorem ZgT{v:Value}:∀ {P:List Str}{vs:List Value}{i:Nat}{m:Str->Option Value},P.Nodup->P[i]?=some x->vs[i]?=some v->kindOf x=some .local ->
  bindL kindOf (P.zip vs) m x=some v
 | [],_,_,_,_,h,_,_=>by simp at h
 | _ :: _,[],_,_,_,_,h,_=>by simp at h
 | p :: P,w :: vs,0,m,nd,h1,h2,hk=>by
  simp at h1 h2; subst h1; subst h2
  show bindL kindOf ((p,w) :: P.zip vs) m p=_
  unfold bindL
  rw [Zg7 λv hv=>(VL.mp nd).1 (List.of_mem_zip hv).1,if_pos hk]
  simp
 | p :: P,w :: vs,i + 1,m,nd,h1,h2,hk=>by
  show bindL kindOf ((p,w) :: P.zip vs) m x=_
  unfold bindL
  exact ZgT (i:=i) (List.nodup_cons.mp nd).2 (by simpa using h1) (by simpa using h2) hk
theorem Zhu{v:Value}:∀ {P:List Str}{vs:List Value}{i:Nat}{m:Str->Option Value},P.Nodup->P[i]?=some x->vs[i]?=some v->kindOf x ≠ some .local ->
  bindC kindOf (P.zip vs) m x=some v
 | [],_,_,_,_,h,_,_=>by simp at h
 | _ :: _,[],_,_,_,_,h,_=>by simp at h
 | p :: P,w :: vs,0,m,nd,h1,h2,hk=>by
  simp at h1 h2; subst h1; subst h2
  show bindC kindOf ((p,w) :: P.zip vs) m p=_
  unfold bindC
  rw [ZgQ λv hv=>(VL.mp nd).1 (List.of_mem_zip hv).1,if_neg hk]
  simp
 | p :: P,w :: vs,i + 1,m,nd,h1,h2,hk=>by
  show bindC kindOf ((p,w) :: P.zip vs) m x=_
  unfold bindC
  exact Zhu (i:=i) (List.nodup_cons.mp nd).2 (by simpa using h1) (by simpa using h2) hk
def Zv(N:List Str)(vs:List V):St:=vs.map some ++ List.replicate (N.length - vs.length) none
def Zjl(CX:CXT)(P:Program)(w:World)(K:PySem.W.Frag)(mg:Str->Option Value)(base:Heap)(N:List Str)(qual:Str)(scope:Scope)(f:Addr)(cd:Value)(A:Around)(outer:List Env)(s:Shared)(H:Hp)(E:XK):Cx where
 prog:=P
 w:=w
 K:=K
 mg:=mg
 base:=base
 A:=A.deeper (envOfC qual scope s.heap.objs.size f cd)
 N:=N
 s₀:=s
 H₀:=H
 env:=envOfC qual scope s.heap.objs.size f cd
 outer:=outer
 stack:=envOfC qual scope s.heap.objs.size f cd :: outer
 ex:=[]
 calm:=true
 fn:=λ_=>true
 pn:=[]
 xe:=λe s'=>wpAny (model P w) (A.deeper (envOfC qual scope s.heap.objs.size f cd)) (leaving (envOfC qual scope s.heap.objs.size f cd) e) (λ_ s''=>CX outer H s E e s'') (λe' s''=>CX outer H s E e' s'') s'
def Zjq{sc:Scope}{n:Nat}(h:sc.names.lookup x=some .cell):∃ c,(cellsFrom n sc.names []).lookup x=some c:=by
 have q:=cellsFrom_some sc.names n [] (.inl h)
 exact Option.isSome_iff_exists.mp q
def Zkv{CX:CXT}{base:Heap}{N ps:List Str}{qual:Str}{scope:Scope}{f:Addr}{cd:Value}{outer:List Env}{s s1:Shared}{E:XK}{vs:List V}
  (S:FnScope N ps scope) (hd:A.handled=none) (e0:Env0 P w K mg base A outer s H) (hl:vs.length=ps.length) (r:ZD vs us)
  (x:InCallC s s.heap.objs.size (bindL (envOfC qual scope s.heap.objs.size f cd).kindOf (ps.zip us) λ_=>none) (cellsFrom (s.heap.objs.size + 1) scope.names []) (bindC (envOfC qual scope s.heap.objs.size f cd).kindOf (ps.zip us) λ_=>none) s1) :
  Inv (Zjl CX P w K mg base N qual scope f cd A outer s H E) [] (Zv N vs) H s1:=by
 have hpl:ps.length<=N.length:=by have:=congrArg List.length S.pre; rw [Y6] at this; omega
 obtain⟨h1,tk,rfl,hk⟩:=x.done
 have noA:∀ b:Addr,b ∉ (Zjl CX P w K mg base N qual scope f cd A outer s H E).ex:=λb z=>absurd (show b∈([]:List Addr) from z) (by simp)
 refine⟨⟨e0.mod,S.kind,rfl,rfl,Yd _,λy z c h1 h2=>?_,λy hy=>?_,λy c _ h=>?_,λ_=>hd,Around.frames_deeper e0.frames,.inr ⟨rfl,rfl⟩,λb z=>absurd z (noA b),e0.bs,e0.bsz,λb _ _=>noA b,λb z=>absurd z (noA b),e0.funs,e0.frf⟩,
  rfl,e0.bare,Un.kept hk,⟨_,x.toInCall.ns,λi y v h1 h2 h3=>?_⟩,λy c h=>⟨_,x.cell y c h⟩,e0.hok.fresh (Nat.le_refl _),λy c h=>?_,λp hp=>absurd (show p∈([]:List (Addr × Obj)) from hp) (by simp),e0.hok.kept hk,?_⟩
 ·exact name_of_addr x.apart (Y4 h1) (Y4 h2)
 ·have hy:scope.names.lookup y=some .cell\/scope.names.lookup y=some .free:=hy
  rcases hy with hy | hy
  ·exact Zjq hy
  ·exact absurd rfl (S.nofree _ (Y4 hy))
 ·exact Yt (x.above y c (Y4 h))
 ·have hi:i < vs.length:=by
   unfold Zv at h2
   by_cases hi:i < vs.length
   ·exact hi
   ·rw [List.getElem?_append_right (by simpa using hi)] at h2
    rw [List.getElem?_replicate] at h2
    split at h2 <;> cases h2
  have ha:vs[i]?=some v:=by
   unfold Zv at h2
   rw [List.getElem?_append_left (by simpa using hi),List.getElem?_map] at h2
   cases e:vs[i]? with
   | none=>rw [e] at h2; cases h2
   | some a=>rw [e] at h2; cases h2; rfl
  obtain⟨u,hu,rv⟩:=r.get ha
  have hp:ps[i]?=some y:=by
   rw [<- S.pre,List.getElem?_take_of_lt (by omega)]; exact h1
  have ndP:ps.Nodup:=by rw [<- S.pre]; exact S.nd.sublist (List.take_sublist _ _)
  refine⟨u,rv,?_⟩
  rcases S.par y (Yz hp) with k | k
  ·exact .inl ⟨k,ZgT ndP hp hu k⟩
  ·obtain⟨c,e⟩:=Zjq (n:=s.heap.objs.size + 1) k
   refine .inr ⟨.inl k,c,e,?_⟩
   have q:=x.cell y c e
   rw [Zhu ndP hp hu (by show scope.names.lookup y ≠ _; rw [k]; decide)] at q
   exact q
 ·exact e0.hok.fresh (Yt (x.above y c (Y4 h)))
 ·unfold Zv
  show _=N.length
  rw [YZ,Yi,List.length_replicate]
  omega
def Zqt{CX:CXT}{base:Heap}{f:Addr}{name qual:Str}{params:Arguments}{body:List Stmt}{scope:Scope}{dV kV doc pm cdv ct oc:Value}{an od:Option Addr}
  {osl:Array (Option Value)}{N ps:List Str}{sp:Sp}(lk:K.lookup f=some ⟨oc,od,.func (fnOf name qual params body scope dV kV doc pm an cdv ct),osl⟩) (hcd:codeIn K cdv qual=true) (S:FnScope N ps scope)
  (len:∀ vs H Q E,sp vs H Q E->vs.length=ps.length)
  (hbody:∀ (A:Around) (outer:List Env) (s:Shared) (H:Hp) (vs:List V) (Q:VK) (E:XK),Room k (A.deeper (envOfC qual scope s.heap.objs.size f cdv))->sp vs H Q E ->
   ∃ t,PSs (Zjl CX P w K mg base N qual scope f cdv A outer s H E) body t/\t { nx:=λ_ H'=>Q .non H',rt:=Q } (Zv N vs) H) :
  FnOk P w K mg base CX (k + 1) f (fnOf name qual params body scope dV kV doc pm an cdv ct) ps sp:=by
 refine⟨len,λA outer s H args us vs Q E hr e0 hb r hsp=>?_⟩
 have hl:=len _ _ _ _ hsp
 have KX:K.In s.heap:=e0.mod.kin.keeps λb o e=>(e0.bs b o e).1
 have lim:s.heap.NoLimit:=e0.mod.nolimit.keeps λb o e=>(e0.bs b o e).1
 have hkind:∀ y∈ps.zip us,scope.names.lookup y.1=some .local\/(scope.names.lookup y.1=some .cell/\((cellsFrom (s.heap.objs.size + 1) scope.names []).lookup y.1).isSome=true):=λ⟨n,v⟩ hy=>by
  rcases S.par n (List.of_mem_zip hy).1 with q | q
  ·exact .inl q
  ·exact .inr ⟨q,cellsFrom_some _ _ _ (.inl q)⟩
 refine codeAny_call_function hr.depth (KX _ _ lk) rfl S.co S.gen rfl (PySem.W.codeRec_of KX hcd) (hb _ _ _ _ ?_)
 refine wpAny_newFunctionEnv_cells S.kind hkind λenv he s1 x=>?_
 subst he
 refine⟨lim.keeps x.toInCall.keep,codeAny_func ?_⟩
 obtain⟨t,ht,hq⟩:=hbody A outer s H vs Q E (hr.deeper _) hsp
 have I:Inv (Zjl CX P w K mg base N qual scope f cdv A outer s H E) [] (Zv N vs) H s1:=Zkv S hr.hd e0 hl r x
 refine Yo (ht [] s1 (Zv N vs) H _ I hq) (λfl s' hs=>?_) λe s' hs=>hs
 have fin:∀ {Z':St}{H':Hp}{v:V}{u:Value},Inv (Zjl CX P w K mg base N qual scope f cdv A outer s H E) [] Z' H' s'->ZP v u->Q v H'->CE outer P w H s Q u s' :=
  λ{Z' H' v u} J rv q=>⟨v,H',J.os,J.bare,J.base,J.hok,rv,q⟩
 cases fl with
 | ret u =>
  obtain⟨v,Z',H',J,rv,q⟩:=hs
  exact fin J rv q
 | next =>
  obtain⟨Z',H',J,q⟩:=hs
  exact fin (v:=V.non) (u:=Value.none) J rfl q
 | brk =>
  obtain⟨_,_,_,q⟩:=hs
  exact False.elim q
 | cont =>
  obtain⟨_,_,_,q⟩:=hs
  exact False.elim q
section
variable {X:Cx}{x:Str}{p pos:Pos}{e:Expr}{es:List Expr}{t:TA}{id T:String}{r:List V->Hp->VK->Prop}
def tCB(r:List V->Hp->VK->Prop)(t:TA):TE:=λZ H Q=>t Z H λvs H1=>r vs H1 Q
def Zci(hc:JM X (.builtin id) r)(hg:Gl X x)(hm:X.mg x=none)(hv:bootBuiltins x=some (.builtin id))(ha:PA X (e :: es) t)(hn:x ≠ "__name__":=by decide)(hdb:(x == ("__debug__":Str))=false:=by decide)
  (he:starEach (e :: es) X.env=(false,eval e X.env) :: starEach es X.env:=by rfl) (hpl:(backTo pos (starEach es X.env)).any (·.1)=false:=by rfl):PE X (.Call (.Name x p) (e :: es) [] pos) (tCB r t):=by
 intro pins s Z H Q I h
 refine YU (Zcw I hg hm hv ?_ hn hdb)
 exact PyProof.Rows.callWith_builtin1 (Jl (ha pos pins s Z H _ I h) λus s1 ⟨vs,H1,I1,r1,q1⟩=>hc pins s1 Z H1 vs us Q I1 r1 q1) he hpl
def Ze7(hc:JM X (.type T) r)(hg:Gl X x)(hm:X.mg x=none)(hv:bootBuiltins x=some (.type T))(ha:PA X (e :: es) t)(hn:x ≠ "__name__":=by decide)(hdb:(x == ("__debug__":Str))=false:=by decide)
  (he:starEach (e :: es) X.env=(false,eval e X.env) :: starEach es X.env:=by rfl) (hpl:(backTo pos (starEach es X.env)).any (·.1)=false:=by rfl):PE X (.Call (.Name x p) (e :: es) [] pos) (tCB r t):=by
 intro pins s Z H Q I h
 refine YU (Zcw I hg hm hv ?_ hn hdb)
 exact Y8 (Jl (ha pos pins s Z H _ I h) λus s1 ⟨vs,H1,I1,r1,q1⟩=>hc pins s1 Z H1 vs us Q I1 r1 q1) he hpl
end
end L2
namespace HT
open PySem PyProof.Rows
section
open PySem.SeqAt
open PySem.AutoSeq1 (wpAny_loadPart')
open PySem.MeetsSeq PySem.MeetsSeq2 PySem.MeetsSeq3
end
section
variable {prog:Program}{w:World}{A:Around}{E:VSP}{s:Shared}
def sIx(n d:Nat):Option Int->Nat
 | none=>d
 | some v=>if v < 0 then (v + (n:Int)).toNat else min v.toNat n
end
end HT
namespace L2
open PySem PySem.Spec PyProof.Rows
abbrev TO:=St->Hp->(Option Int->Hp->Prop)->Prop
def PO(X:Cx)(e:Option Expr)(t:TO):Prop :=
 ∀ (pins:List (Addr × Obj)) (s:Shared) (Z:St) (H:Hp) (Q:Option Int->Hp->Prop),Inv X pins Z H s->t Z H Q ->
  wpAny (model X.prog X.w) X.A (evalPart e X.env) (λu s'=>∃ o H',Inv X pins Z H' s'/\IsPart u o/\Q o H') X.xe s
def Zet:TO:=λ_ H Q=>Q none H
def Zmu(t:TE):TO:=λZ H Q=>t Z H λx H1=>∃ i,x=.int i/\Q (some i) H1
section
variable {X:Cx}{e:Expr}{te:TE}{lo hi:Option Expr}{tl th:TO}{pos p2:Pos}
def Zm0:PO X none Zet:=by
 intro pins s Z H Q I h
 rw [evalPart_none]
 exact Yb ⟨none,H,I,.none,h⟩
def ZkH(h:PE X e te):PO X (some e) (Zmu te):=by
 intro pins s Z H Q I hw
 rw [evalPart_some]
 refine Jl (h pins s Z H _ I hw) λu s1 ⟨x,H1,I1,r1,q1⟩=>?_
 obtain⟨i,rfl,q⟩:=q1
 obtain⟨t,rfl⟩:=r1
 exact⟨some i,H1,I1,.int i t,q⟩
def SlR(X:Cx)(r:V->Option Int->Option Int->Hp->VK->Prop):Prop :=
 ∀ (pins:List (Addr × Obj)) (s:Shared) (Z:St) (H:Hp) (x:V) (v vl vu:Value) (lo hi:Option Int) (sl:Addr) (Q:VK),Inv X pins Z H s->ZP x v->s.heap.IsSliceOf sl vl vu .none->IsPart vl lo->IsPart vu hi->r x lo hi H Q ->
  ∃ T id,typeLookup (.type T) "__getitem__"=pure (some (.builtin id))/\s.TypeIs v T/\wpAny (model X.prog X.w) X.A (getItem v (.ref sl)) (EP X pins Z Q) X.xe s
def tSl(r:V->Option Int->Option Int->Hp->VK->Prop)(te:TE)(tl th:TO):TE:=λZ H Q=>te Z H λx H1=>tl Z H1 λl H2=>th Z H2 λu H3=>r x l u H3 Q
def Zjc{r:V->Option Int->Option Int->Hp->VK->Prop}(hr:SlR X r)(he:PE X e te)(hl:PO X lo tl)(hu:PO X hi th):PE X (.Subscript e (.Slice lo hi none p2) pos) (tSl r te tl th):=by
 intro pins s Z H Q I h
 refine Subscript_ (Jl (he pins s Z H _ I h) λv s1 ⟨x,H1,I1,r1,q1⟩=>?_)
 refine wpAny_Slice (Jl (hl pins s1 Z H1 _ I1 q1) λvl s2 ⟨l,H2,I2,pl,q2⟩=>Jl (hu pins s2 Z H2 _ I2 q2) λvu s3 ⟨u,H3,I3,pu,q3⟩=>?_)
 rw [evalPart_none]
 refine Yb ?_
 have I4:Inv X pins Z H3 { s3 with heap:=s3.heap.push { cls:=.type "slice",data:=.fields #[vl,vu,.none] } }:=I3.kept (t':=s3.toks) λb ob q=>Yg _ q
 obtain⟨T,id,hT,ht,hg⟩:=hr pins { s3 with heap:=s3.heap.push { cls:=.type "slice",data:=.fields #[vl,vu,.none] } } Z H3 x v vl vu l u s3.heap.objs.size Q I4 r1 (Heap.IsSliceOf.new ..) pl pu q3
 show wpAny (model X.prog X.w) X.A (subscriptTail e (.Slice lo hi none p2) v (.ref s3.heap.objs.size)) (EP X pins Z Q) X.xe { s3 with heap:=s3.heap.push { cls:=.type "slice",data:=.fields #[vl,vu,.none] } }
 exact tail_any (ops:=[.ref s3.heap.objs.size,v]) ht hT hg (by with_unfolding_all rfl)
def Zpy(xs:List V)(lo hi:Option Int):List V:=(xs.drop (HT.sIx xs.length 0 lo)).take (HT.sIx xs.length xs.length hi - HT.sIx xs.length 0 lo)
def Zig(xs:List V)(lo hi:Option Int):(Zpy xs lo hi).length<=xs.length:=by
 unfold Zpy
 rw [Y6,List.length_drop]
 omega
end
def ixN(n:Nat)(i:Int):Option Nat:=if 0<=i then (if i < n then some i.toNat else none) else if -(n:Int)<=i then some (i + n).toNat else none
def atI{α:Type}(xs:List α)(i:Int):Option α:=(ixN xs.length i).bind λj=>xs[j]?
def ZlH{n:Nat}{i:Int}{j:Nat}(h:ixN n i=some j):seqIndex? i n=some j/\j < n/\-(n:Int)<=i/\i < n:=by
 unfold ixN at h
 by_cases h0:0<=i
 ·rw [if_pos h0] at h
  by_cases h1:i < n
  ·rw [if_pos h1] at h
   have e:i.toNat=j:=YW h
   exact⟨by rw [seqIndex_of h0 h1,e],by omega,by omega,h1⟩
  ·rw [if_neg h1] at h; cases h
 ·rw [if_neg h0] at h
  by_cases h1:-(n:Int)<=i
  ·rw [if_pos h1] at h
   have e:(i + n).toNat=j:=YW h
   exact⟨by rw [seqIndex_neg (by omega) h1,e],by omega,h1,by omega⟩
  ·rw [if_neg h1] at h; cases h
def Zir{α:Type}{xs:List α}{i:Int}{v:α}(h:atI xs i=some v):∃ j,seqIndex? i xs.length=some j/\xs[j]?=some v/\j < xs.length/\-(xs.length:Int)<=i/\i < xs.length:=by
 unfold atI at h
 cases e:ixN xs.length i with
 | none=>rw [e] at h; cases h
 | some j =>
  rw [e] at h
  obtain⟨h1,h2,h3,h4⟩:=ZlH e
  exact⟨j,h1,h,h2,h3,h4⟩
theorem ZY{α:Type}{xs:List α}{j:Nat}{v:α}(h:xs[j]?=some v):atI xs (j:Int)=some v:=by
 have hj:j < xs.length:=(Yf.mp h).1
 have e:ixN xs.length (j:Int)=some j:=by
  unfold ixN
  rw [if_pos (by omega),if_pos (by omega)]; simp
 unfold atI; rw [e]; exact h
def Zeo(b:Expr):Prop:=∀ o i,subscripted b false o i=operate [o,i] (getItem o i)
def IxR(X:Cx)(r:R2):Prop :=
 ∀ (value slice:Expr) (pins:List (Addr × Obj)) (s:Shared) (Z:St) (H:Hp) (x y:V) (v u:Value) (Q:VK),Inv X pins Z H s->ZP x v->ZP y u->r x y H Q ->
  subscripted slice false v u=operate [v,u] (getItem v u)->wpAny (model X.prog X.w) X.A (subscriptTail value slice v u) (EP X pins Z Q) X.xe s
section
variable {X:Cx}{a b:Expr}{ta tb:TE}{pos:Pos}
def Zoq{r:R2}(hr:IxR X r)(ha:PE X a ta)(hb:PE X b tb)(hs:Zeo b):PE X (.Subscript a b pos) (JT r ta tb):=by
 intro pins s Z H Q I h
 exact Subscript_ (ZtV ha hb I h λv u s2 x y H2 I2 rx ry q=>hr a b pins s2 Z H2 x y v u Q I2 rx ry q (hs _ _))
def Ztc(K:PySem.W.Frag):R2:=λx y H Q=>∃ p xs i v,x=.ref p/\y=.int i/\JY K H p xs/\atI xs i=some v/\Q v H
def ZuR(K:PySem.W.Frag):R2:=λx y H Q=>∃ p xs i v,x=.ref p/\y=.int i/\SqT K H p xs/\atI xs i=some v/\Q v H
def Ztl:R2:=λx y H Q=>∃ z i c,x=.str z/\y=.int i/\z.length<=sizeLine/\atI z.cps.toList i=some c/\Q (.str ⟨#[c]⟩) H
def ZmZ:IxR X (Ztc X.K):=by
 intro value slice pins s Z H x y v u Q I rx ry h hs
 obtain⟨p,xs,i,z,rfl,rfl,hq,he,q⟩:=h
 cases rx
 obtain⟨t,rfl⟩:=ry
 obtain⟨its,r,pl,hz⟩:=I.list hq
 obtain⟨j,h1,h2,h3,h4,h5⟩:=Zir he
 obtain⟨w,ew,rw'⟩:=r.get h2
 have hl:=r.length
 have hn:=ZfA
 have fin:EP X pins Z Q w s:=⟨z,H,I,rw',q⟩
 by_cases h0:0<=i
 ·have hj:i.toNat=j:=by
   rw [seqIndex_of h0 h5] at h1
   exact YW h1
  exact item_listR pl.isList h0 (by omega) (by rw [hj]; simpa using ew) fin hs
 ·have hj:(i + (its.toArray.size:Int)).toNat=j:=by
   rw [seqIndex_neg (by omega) h4] at h1
   rw [Y0,<- hl]
   exact YW h1
  exact subscriptTail_builtinR (x:=w) pl.isList.typeIs slot_list_getitem.lookup
   (wpAny_getItem_list_neg (Q:=λr s'=>r=w/\EP X pins Z Q r s') pl.isList (by omega) (by rw [List.size_toArray] <;> omega) (by omega) (by rw [hj]; simpa using ew) ⟨rfl,fin⟩) hs
def ZsG:IxR X (ZuR X.K):=by
 intro value slice pins s Z H x y v u Q I rx ry h hs
 obtain⟨p,xs,i,z,rfl,rfl,hq,he,q⟩:=h
 cases rx
 obtain⟨t,rfl⟩:=ry
 obtain⟨its,r,pl,hz⟩:=I.tuple hq
 obtain⟨j,h1,h2,h3,h4,h5⟩:=Zir he
 obtain⟨w,ew,rw'⟩:=r.get h2
 have hl:=r.length
 have hn:=ZfA
 have fin:EP X pins Z Q w s:=⟨z,H,I,rw',q⟩
 exact subscriptTail_builtinR (x:=w) pl.typeIs slot_tuple_getitem.lookup
  (getItem_tuple (j:=j) (Q:=λr s'=>r=w/\EP X pins Z Q r s') pl (by omega) (by omega) (by rw [List.size_toArray,<- hl]; exact h1) (by simpa using ew) ⟨rfl,fin⟩) hs
def Zsg:IxR X Ztl:=by
 intro value slice pins s Z H x y v u Q I rx ry h hs
 obtain⟨z,i,c,rfl,rfl,hz,he,q⟩:=h
 obtain⟨t,rfl⟩:=rx
 obtain⟨t',rfl⟩:=ry
 obtain⟨j,h1,h2,h3,h4,h5⟩:=Zir he
 have hl:z.cps.toList.length=z.length:=by simp [Str.length]
 rw [hl] at h1 h4 h5
 have hn:=ZfA
 exact tail_any (typeIs_str s z t) slot_str_getitem.lookup (getItem_str (c:=c) (by
  have e1:decide (i < -(2 ^ 63:Int))=false:=YC (by omega)
  have e2:decide (i >= 2 ^ 63)=false:=YC (by omega)
  rw [e1,e2,Bool.or_false]) (by rw [h1]; simpa using h2) ⟨.str ⟨#[c]⟩,H,I.tok _,⟨_,rfl⟩,q⟩) hs
def Zj5(its:List Value)(n j:Nat)(u:Value):Obj.mapSeq (·.setIfInBounds j u) { cls:=.type "list",data:=.seq its.toArray n }={ cls:=.type "list",data:=.seq (its.set j u).toArray n }:=by
 simp [Obj.mapSeq]
theorem Inv.lst{pins:List (Addr × Obj)}{Z:St}{H:Hp}{s:Shared}{p:Addr}{xs:List V}(I:Inv X pins Z H s)(h:H p=some (.lst xs)) :
  ∃ (its:List Value) (n:Nat),ZD xs its/\s.heap.get? p=some { cls:=.type "list",data:=.seq its.toArray n }/\xs.length<=sizeLine:=by
 obtain⟨z,its,n,r,e⟩:=I.hok p _ h
 exact⟨its,n,r,e,z⟩
def Inv.lstUpd{pins:List (Addr × Obj)}{Z:St}{H:Hp}{s:Shared}{p:Addr}{xs ys:List V}{its its':List Value}{n n':Nat}{f:Obj->Obj}(I:Inv X pins Z H s)(h:H p=some (.lst xs))
  (ho:s.heap.get? p=some { cls:=.type "list",data:=.seq its.toArray n }) (hf:f { cls:=.type "list",data:=.seq its.toArray n }={ cls:=.type "list",data:=.seq its'.toArray n' }) (r:ZD ys its') (hz:ys.length<=sizeLine) (t:Nat) :
  Inv X pins Z (upd H p (.lst ys)) { s with heap:=s.heap.update p f,toks:=t }:=by
 have e:(s.heap.update p f).get? p=some { cls:=.type "list",data:=.seq its'.toArray n' }:=by
  rw [VS f ho (by rw [hf] <;> rfl),hf]
 refine I.write (x:=p) (e:=p) (by rw [h]; trivial) (.inl rfl) (λb u hb q=>(Vr _ _ (Ne.symm hb)).trans q) ⟨_,e⟩ ?_
 exact⟨hz,its',n',r,e⟩
def ZoD:V->V->V->Hp->(Hp->Prop)->Prop:=λo i v H Q=>∃ p xs k j,o=.ref p/\i=.int k/\H p=some (.lst xs)/\ixN xs.length k=some j/\Q (upd H p (.lst (xs.set j v)))
def ZnD:Zux X ZoD:=by
 intro pins s Z H o i v ov iv u Q I ro ri rv h
 obtain⟨p,xs,k,j,rfl,rfl,hp,hj,q⟩:=h
 cases ro
 obtain⟨t,rfl⟩:=ri
 obtain⟨its,n,r,ho,hz⟩:=I.lst hp
 obtain⟨h1,h2,h3,h4⟩:=ZlH hj
 have hl:=r.length
 have hn:=ZfA
 have I':Inv X pins Z (upd H p (.lst (xs.set j v))) { s with heap:=s.heap.update p (Obj.mapSeq (·.setIfInBounds j u)) } :=
  I.lstUpd hp ho (Zj5 its n j u) (r.set rv j) (by rw [List.length_set]; exact hz) s.toks
 by_cases h0:0<=k
 ·have hk:k.toNat=j:=by
   rw [seqIndex_of h0 h4] at h1
   exact YW h1
  exact PySem.W.ki_setAt ho h0 (by omega) (by rw [Y0,<- hl]; exact h4) (by rw [hk]; exact⟨_,I',q⟩)
 ·have hk:(k + (its.toArray.size:Int)).toNat=j:=by
   rw [seqIndex_neg (by omega) h3] at h1
   rw [Y0,<- hl]
   exact YW h1
  exact PySem.W.ki_setBack ho (by omega) (by rw [Y0,<- hl]; exact h3) (by omega) (by rw [hk]; exact⟨_,I',q⟩)
def Zhc(lo hi:Option Int)(n:Nat):(sliceBounds lo hi none n).1=((HT.sIx n 0 lo:Nat):Int)/\(sliceBounds lo hi none n).2.1=((HT.sIx n n hi:Nat):Int)/\(sliceBounds lo hi none n).2.2=1:=by
 refine⟨?_,?_,rfl⟩
 ·cases lo with
  | none=>simp [sliceBounds,HT.sIx]
  | some i =>
   simp only [sliceBounds,HT.sIx,Option.getD_none,show (1:Int) > 0 by decide,if_true]
   by_cases h:i < 0
   ·simp only [h,if_true] <;> omega
   ·simp only [h,if_false] <;> omega
 ·cases hi with
  | none=>simp [sliceBounds,HT.sIx]
  | some i =>
   simp only [sliceBounds,HT.sIx,Option.getD_none,show (1:Int) > 0 by decide,if_true]
   by_cases h:i < 0
   ·simp only [h,if_true] <;> omega
   ·simp only [h,if_false] <;> omega
def Zge(its:List Value)(lo hi:Option Int):slicePick its.toArray lo hi none=((its.drop (HT.sIx its.length 0 lo)).take (HT.sIx its.length its.length hi - HT.sIx its.length 0 lo)).toArray:=by
 obtain⟨h1,h2,h3⟩:=Zhc lo hi its.toArray.size
 unfold slicePick
 rw [h1,h2,h3]
 simp only [sliceRange_one,pick_run,List.size_toArray] <;> rfl
def ZtW(K:PySem.W.Frag):V->Option Int->Option Int->Hp->VK->Prop:=λx lo hi H Q=>∃ a xs,x=.ref a/\JY K H a xs/\∀ p,H p=none->Q (.ref p) (upd H p (.lst (Zpy xs lo hi)))
def ZmT:SlR X (ZtW X.K):=by
 intro pins s Z H x v vl vu lo hi sl Q I rx hs pl pu h
 obtain⟨a,xs,rfl,hx,q⟩:=h
 cases rx
 obtain⟨its,r,ht,hz⟩:=I.list hx
 have hlen:=r.length
 refine⟨"list",_,slot_list_getitem.lookup,ht.isList.typeIs,?_⟩
 refine wpAny_getItem_list_slice ht.isList hs pl pu .none (by simp) ?_ (by rw [List.size_toArray] <;> omega)
 rw [Zge,<- hlen]
 refine⟨.ref s.heap.objs.size,_,I.laid (t':=s.toks) (o:=.lst (Zpy xs lo hi)) (λb ob q=>Yg _ q) (Yd _) ?_,rfl,q _ (I.hok.fresh (Yd _))⟩
 exact⟨Yj (Zig xs lo hi) hz,_,0,(r.drop (HT.sIx xs.length 0 lo)).take (HT.sIx xs.length xs.length hi - HT.sIx xs.length 0 lo),Ym _ rfl⟩
def Zmk:V->Bool
 | .non=>true
 | .bl _=>true
 | .int _=>true
 | .str _=>true
 | _=>false
def eqV:V->V->Bool
 | .non,.non=>true
 | .bl a,.bl b=>a == b
 | .bl a,.int b=>(if a then 1 else 0) == b
 | .int a,.bl b=>a == (if b then 1 else 0)
 | .int a,.int b=>a == b
 | .str a,.str b=>a == b
 | _,_=>false
def ZkI{A:Around}{s:Shared}{y x:V}{u v:Value}(ry:ZP y u)(rx:ZP x v)(fy:Zmk y=true)(fx:Zmk x=true):SeqAt.EqAt A s u v (eqV y x):=by
 cases y with
 | non =>
  cases ry
  cases x with
  | non=>cases rx; exact SeqAt.EqAt.same _
  | bl b=>cases rx; exact SeqAt.EqAt.none_bool b
  | int b=>obtain⟨t,rfl⟩:=rx; exact SeqAt.EqAt.none_int b t
  | str b=>obtain⟨t,rfl⟩:=rx; exact SeqAt.EqAt.none_str b t
  | _=>exact absurd (show false=true from fx) Yr
 | bl a =>
  cases ry
  cases x with
  | non=>cases rx; exact SeqAt.EqAt.bool_none a
  | bl b=>cases rx; exact SeqAt.EqAt.bool_bool a b
  | int b=>obtain⟨t,rfl⟩:=rx; exact SeqAt.EqAt.bool_int a b t
  | str b=>obtain⟨t,rfl⟩:=rx; exact SeqAt.EqAt.bool_str a b t
  | _=>exact absurd (show false=true from fx) Yr
 | int a =>
  obtain⟨t',rfl⟩:=ry
  cases x with
  | non=>cases rx; exact SeqAt.EqAt.int_none a t'
  | bl b=>cases rx; exact SeqAt.EqAt.int_bool a t' b
  | int b=>obtain⟨t,rfl⟩:=rx; exact SeqAt.EqAt.int_int a t' b t
  | str b=>obtain⟨t,rfl⟩:=rx; exact SeqAt.EqAt.int_str a t' b t
  | _=>exact absurd (show false=true from fx) Yr
 | str a =>
  obtain⟨t',rfl⟩:=ry
  cases x with
  | non=>cases rx; exact SeqAt.EqAt.str_none a t'
  | bl b=>cases rx; exact SeqAt.EqAt.str_bool a t' b
  | int b=>obtain⟨t,rfl⟩:=rx; exact SeqAt.EqAt.str_int a t' b t
  | str b=>obtain⟨t,rfl⟩:=rx; exact SeqAt.EqAt.str_str a t' b t
  | _=>exact absurd (show false=true from fx) Yr
 | _=>exact absurd (show false=true from fy) Yr
def Zd4:JM X (.builtin "len") (λxs H Q=>∃ p ys,xs=[.ref p]/\(JY X.K H p ys\/SqT X.K H p ys)/\Q (.int ys.length) H):=by
 intro pins s Z H xs us Q I r h
 obtain⟨p,ys,rfl,hq,q⟩:=h
 obtain⟨u,rfl,rx⟩:=Zdh r
 cases rx
 have hn:=ZfA
 rcases hq with hq | hq
 ·obtain⟨its,r',pl,hz⟩:=I.list hq
  have hlen:=r'.length
  exact Calls.call_len_list pl.isList (by simp only [List.size_toArray] <;> omega) ⟨.int ys.length,H,I.tok _,⟨s.toks + 1,by rw [List.size_toArray,hlen]⟩,q⟩
 ·obtain⟨its,r',pl,hz⟩:=I.tuple hq
  have hlen:=r'.length
  exact len_tuple pl (by simp only [List.size_toArray] <;> omega) ⟨.int ys.length,H,I.tok _,⟨s.toks + 1,by rw [List.size_toArray,hlen]⟩,q⟩
def Zhp:JM X (.builtin "len") (λxs H Q=>∃ z,xs=[.str z]/\z.length<=sizeLine/\Q (.int z.length) H):=by
 intro pins s Z H xs us Q I r h
 obtain⟨z,rfl,hz,q⟩:=h
 obtain⟨u,rfl,t,rfl⟩:=Zdh r
 have hn:=ZfA
 exact len_str (by omega) ⟨.int z.length,H,I.tok _,⟨_,rfl⟩,q⟩
def Zd6:JM X (.type "list") (λxs H Q=>∃ p ys,xs=[.ref p]/\(JY X.K H p ys\/SqT X.K H p ys)/\∀ l,H l=none->Q (.ref l) (upd H l (.lst ys))):=by
 intro pins s Z H xs us Q I r h
 obtain⟨p,ys,rfl,hq,q⟩:=h
 obtain⟨u,rfl,rx⟩:=Zdh r
 cases rx
 have fin:∀ (its:List Value),ZD ys its->ys.length<=sizeLine->∀ (h':Heap) (c':Nat),(∀ b o',s.heap.get? b=some o'->h'.get? b=some o') ->
   h'.get? s.heap.objs.size=some { cls:=.type "list",dict:=none,data:=.seq its.toArray c',slots:=#[] }->EP X pins Z Q (.ref s.heap.objs.size) { s with heap:=h' }:=λits r' hz h' c' kp e =>
  ⟨.ref s.heap.objs.size,_,I.laid (t':=s.toks) kp (Yd _) (show Ji X.prog X.w _ h' _ (.lst ys) from ⟨hz,its,c',r',e⟩),rfl,q _ (I.hok.fresh (Yd _))⟩
 rcases hq with hq | hq
 ·obtain⟨its,r',pl,hz⟩:=I.list hq
  have hlen:=r'.length
  obtain⟨o,ho,hc,n,hd⟩:=pl.isList
  exact call_list_seq p (.inl rfl) ho hc hd (λh' c' kp e=>fin its r' hz h' c' kp e) (by simp only [List.size_toArray] <;> omega)
 ·obtain⟨its,r',pl,hz⟩:=I.tuple hq
  have hlen:=r'.length
  obtain⟨o,ho,hc,n,hd⟩:=pl
  exact call_list_seq p (.inr rfl) ho hc hd (λh' c' kp e=>fin its r' hz h' c' kp e) (by simp only [List.size_toArray] <;> omega)
def tyV(K:PySem.W.Frag)(T:String)(x:V)(H:Hp):Prop:=match x with
 | .str _=>T="str"
 | .int _=>T="int"
 | .ref p=>(T="list"/\∃ xs,JY K H p xs)\/(T="tuple"/\∃ o,K.lookup p=some o/\o.cls=.type "tuple"/\o.dict=none) \/
   (T="dict"/\((∃ kvs,H p=some (.dK kvs))\/∃ kvs,H p=some (.dT kvs)))\/(T="set"/\∃ S n,H p=some (.set S n))
 | _=>False
def Zpk{pins:List (Addr × Obj)}{Z:St}{H:Hp}{s:Shared}{T:String}{x:V}{v:Value}(I:Inv X pins Z H s)(r:ZP x v)(ty:tyV X.K T x H) :
  s.TypeIs v T/\∀ a,v=.ref a->∃ ob,s.heap.get? a=some ob/\ob.dict=none:=by
 cases x with
 | str z =>
  obtain⟨t,rfl⟩:=r
  cases (show T="str" from ty)
  exact⟨typeIs_str s z t,λ_ e=>nomatch e⟩
 | int i =>
  obtain⟨t,rfl⟩:=r
  cases (show T="int" from ty)
  exact⟨typeIs_int s i t,λ_ e=>nomatch e⟩
 | ref p =>
  cases r
  rcases ty with ⟨rfl,xs,hq⟩ | ⟨rfl,o,hk,hc,hd⟩ | ⟨rfl,hk⟩ | ⟨rfl,S,n,hk⟩
  ·obtain⟨its,_,pl,_⟩:=I.list hq
   refine⟨pl.isList.typeIs,λa e=>?_⟩
   cases e
   obtain⟨o,n,e,c,hd,_⟩:=pl
   exact⟨o,e,hd⟩
  ·refine⟨⟨o,I.kIn p o hk,hc⟩,λa e=>?_⟩
   cases e
   exact⟨o,I.kIn _ o hk,hd⟩
  ·have z:∃ o,s.heap.get? p=some o/\o.ExactDict:=by
    rcases hk with ⟨kvs,hk⟩ | ⟨kvs,hk⟩
    ·obtain⟨_,_,_,_,o,_,_,e,ex,_⟩:=I.hok p _ hk
     exact⟨o,e,ex⟩
    ·obtain⟨_,_,_,_,o,_,_,e,ex,_⟩:=I.hok p _ hk
     exact⟨o,e,ex⟩
   obtain⟨o,e,ex⟩:=z
   refine⟨⟨o,e,ex.1⟩,λa e2=>?_⟩
   cases e2
   exact⟨o,e,ex.2.1⟩
  ·obtain⟨o,_,_,_,e,ex,_⟩:=I.hok p _ hk
   refine⟨⟨o,e,ex.1⟩,λa e2=>?_⟩
   cases e2
   exact⟨o,e,ex.2.1⟩
 | _=>exact False.elim ty
def tBM(K:PySem.W.Frag)(T:String)(r:V->List V->Hp->VK->Prop)(to:TE)(t:TA):TE:=λZ H Q=>to Z H λx H1=>tyV K T x H1/\t Z H1 λxs H2=>r x xs H2 Q
variable {o e:Expr}{es:List Expr}{to:TE}{t:TA}{name:Str}{apos cpos:Pos}{T id:String}{r:V->List V->Hp->VK->Prop}
end
def MtM(X:Cx)(id:String)(r:V->List V->Hp->VK->Prop):Prop :=
 ∀ (pins:List (Addr × Obj)) (s:Shared) (Z:St) (H:Hp) (x:V) (xs:List V) (v:Value) (us:List Value) (Q:VK),Inv X pins Z H s->ZP x v->ZD xs us->r x xs H Q ->
  wpAny (model X.prog X.w) X.A (call (.builtin id) (v :: us)) (EP X pins Z Q) X.xe s
theorem ZD.one:∀ {x:V}{us:List Value},ZD [x] us->∃ u,us=[u]/\ZP x u
 | _,_,.cons r .nil=>⟨_,rfl,r⟩
theorem ZD.zero:∀ {us:List Value},ZD [] us->us=[]
 | _,.nil=>rfl
def ZD.dropLast{xs:List V}{us:List Value}(h:ZD xs us):ZD xs.dropLast us.dropLast:=by
 induction h with
 | nil=>exact .nil
 | cons r t ih =>
  cases t with
  | nil=>exact .nil
  | cons q t'=>exact .cons r ih
def ZD.eraseIdx:∀ {xs:List V}{us:List Value}(i:Nat),ZD xs us->ZD (xs.eraseIdx i) (us.eraseIdx i)
 | _,_,_,.nil=>.nil
 | _,_,0,.cons _ t=>t
 | _,_,i + 1,.cons r t=>.cons r (ZD.eraseIdx i t)
def ZD.reverse{xs:List V}{us:List Value}(h:ZD xs us):ZD xs.reverse us.reverse:=by
 induction h with
 | nil=>exact .nil
 | cons r t ih=>rw [List.reverse_cons,List.reverse_cons]; exact ZD.append ih (.cons r .nil)
section
variable {X:Cx}{pins:List (Addr × Obj)}{Z:St}{H:Hp}{s:Shared}{l b:Addr}{xs ys zs:List V}
theorem Inv.lset{its its':List Value}{n:Nat}{f:Array Value->Array Value}{t':Nat}(I:Inv X pins Z H s)(hH:H l=some (.lst xs))
  (e:s.heap.get? l=some { cls:=.type "list",data:=.seq its.toArray n }) (hf:f its.toArray=its'.toArray) (hv:ZD ys its') (hz:ys.length<=sizeLine) :
  Inv X pins Z (upd H l (.lst ys)) { s with heap:=s.heap.update l (Obj.mapSeq f),toks:=t' }:=by
 have q:=PySem.IsL.update e f
 rw [hf] at q
 refine I.write (x:=l) (e:=l) (by rw [hH]; exact trivial) (.inl rfl) (λb' u hb hu=>(Vr s.heap (Obj.mapSeq f) (Ne.symm hb)).trans hu) ⟨_,q⟩ ?_
 exact⟨hz,its',_,hv,q⟩
def Inv.lnew{its:List Value}{t':Nat}(I:Inv X pins Z H s)(hv:ZD ys its)(hz:ys.length<=sizeLine) :
  Inv X pins Z (upd H s.heap.objs.size (.lst ys)) { s with heap:=s.heap.push { cls:=.type "list",data:=.seq its.toArray },toks:=t' } :=
 I.laid (λ_ _ q=>Yg _ q) (Yd _) ⟨hz,its,0,hv,Ym _ rfl⟩
theorem Inv.fresh(I:Inv X pins Z H s):H s.heap.objs.size=none:=I.hok.fresh (Yd _)
def Inv.lstM(I:Inv X pins Z H s)(hH:H l=some (.lst xs)):xs.length<=sizeLine/\∃ (its:List Value) (n:Nat),ZD xs its/\xs.length=its.length/\s.heap.get? l=some { cls:=.type "list",data:=.seq its.toArray n }:=by
 obtain⟨z,its,n,r,e⟩:=I.hok l _ hH
 exact⟨z,its,n,r,r.length,e⟩
def ZnT{n:Nat}(h:n<=sizeLine):Builtin.List.listTooLong n=false:=by
 unfold Builtin.List.listTooLong
 exact YC (by omega)
end
section
variable {X:Cx}
def Zh8:V->List V->Hp->VK->Prop:=λx vs H Q=>∃ l xs y,x=.ref l/\vs=[y]/\H l=some (.lst xs)/\xs.length < sizeLine/\Q .non (upd H l (.lst (xs ++ [y])))
def ZgU:MtM X "list.append" Zh8:=by
 intro pins s Z H x vs v us Q I rx rv h
 obtain⟨l,xs,y,rfl,rfl,hH,hz,q⟩:=h
 cases rx
 obtain⟨u,rfl,ru⟩:=rv.one
 obtain⟨z,its,n,r,hl,e⟩:=I.lstM hH
 refine call_meets F.slot_list_append ⟨_,e,rfl⟩ F.entry_list_append (F.args_list_append_2 _ _) (PySem.list_append l its.toArray n u (by rw [Y0]; omega)) ⟨e,?_⟩
 refine⟨.non,_,I.lset (its':=its ++ [u]) hH e (by simp) (r.append (.cons ru .nil)) ?_,rfl,q⟩
 rw [YZ,List.length_singleton]
 omega
def Zgs:V->List V->Hp->VK->Prop:=λx vs H Q=>∃ l b xs zs,x=.ref l/\vs=[.ref b]/\H l=some (.lst xs)/\H b=some (.lst zs)/\xs.length + zs.length<=sizeLine/\Q .non (upd H l (.lst (xs ++ zs)))
def ZmQ:MtM X "list.extend" Zgs:=by
 intro pins s Z H x vs v us Q I rx rv h
 obtain⟨l,b,xs,zs,rfl,rfl,hH,hB,hz,q⟩:=h
 cases rx
 obtain⟨u,rfl,ru⟩:=rv.one
 cases ru
 obtain⟨z,its,n,r,hl,e⟩:=I.lstM hH
 obtain⟨z2,its2,n2,r2,hl2,e2⟩:=I.lstM hB
 have hsz:its.toArray.size + its2.toArray.size<=sizeLine:=by rw [Y0,Y0]; omega
 have hlong:¬ (!its.toArray.isEmpty && Builtin.List.listTooLong (its.toArray.size + its2.toArray.size))=true:=by
  rw [ZnT hsz,Bool.and_false]
  exact Yr
 refine call_meets F.slot_list_extend ⟨_,e,rfl⟩ F.entry_list_extend (F.args_list_extend_2 _ _)
  (AutoSeq1.list_extend_list_list_0 l its.toArray n b its2.toArray n2 hlong (by rw [Y0]; omega) (by omega)) ⟨e,e2,?_⟩
 refine⟨.non,_,I.lset (its':=its ++ its2) hH e (by simp) (r.append r2) ?_,rfl,q⟩
 rw [YZ]
 omega
def Zuw:V->List V->Hp->VK->Prop:=λx vs H Q=>∃ l xs y,x=.ref l/\vs=[]/\H l=some (.lst xs)/\xs[xs.length - 1]?=some y/\Q y (upd H l (.lst xs.dropLast))
def Zja:V->List V->Hp->VK->Prop:=λx vs H Q=>∃ l xs,x=.ref l/\vs=[]/\H l=some (.lst xs)/\Q .non (upd H l (.lst xs.reverse))
def Zpj:V->List V->Hp->VK->Prop:=λx vs H Q=>∃ l xs,x=.ref l/\vs=[]/\H l=some (.lst xs)/\Q .non (upd H l (.lst []))
def Ztu:R2:=λx y H Q=>∃ l b xs zs,x=.ref l/\y=.ref b/\H l=some (.lst xs)/\H b=some (.lst zs)/\xs.length + zs.length<=sizeLine/\∀ p,H p=none->Q (.ref p) (upd H p (.lst (xs ++ zs)))
def Zr9:OpR X (binaryOp .Add) Ztu:=by
 intro pins s Z H x y v u Q I rx ry h
 obtain⟨l,b,xs,zs,rfl,rfl,hH,hB,hz,q⟩:=h
 cases rx
 cases ry
 obtain⟨z,its,n,r,hl,e⟩:=I.lstM hH
 obtain⟨z2,its2,n2,r2,hl2,e2⟩:=I.lstM hB
 refine PySem.P.add_list e e2 ?_ (by rw [Y0,Y0]; omega)
 have ea:its.toArray ++ its2.toArray=(its ++ its2).toArray:=by simp
 rw [ea]
 exact⟨.ref _,_,I.lnew (t':=s.toks) (r.append r2) (by rw [YZ]; omega),rfl,q _ I.fresh⟩
end
section
variable {prog:Program}{w:World}{A:Around}{E:VSP}{s:Shared}
end
section
variable {X:Cx}
end
end L2
namespace Att
open PySem PySem.W PySem.Calls PyProof.Rows
def ZeK{P:Params}{h:Heap}:∀ (ns:List Int) (vs:List Value),WellAll P h vs (ns.map WData.int)->IntsAre vs ns:=by
 intro ns
 induction ns with
 | nil =>
  intro vs w
  rw [List.map_nil] at w
  cases w
  exact .nil
 | cons n ns ih =>
  intro vs w
  rw [Ys] at w
  cases w with
  | cons a b =>
   cases a
   exact .cons _ _ (ih _ b)
def Zly{l:OpenLaw}{n:Nat}(hn:l.most=some n){P:Params}{h:Heap}{args:List WData}{vals:List Value}
  (hpre:l.row.toRowW.claim.pre args=true) (hwl:WellAll P h vals args) :
  ∃ a vs ns,vals=[Value.ref a]/\args=[WData.list (ns.map WData.int)]/\h.get? a=some { cls:=.type "list",data:=.seq vs.toArray }/\IntsAre vs ns/\ns.length<=n:=by
 have hsh:WShape.hasAll [] args [.list .int]=true:=(pre_splitW hpre).1
 have hc:l.pre.holds [] { args:=args }=true:=(pre_splitW hpre).2
 obtain⟨d,r,rfl,h1,h2⟩:=hasAllW_cons hsh
 obtain rfl:=hasAllW_nil h2
 obtain⟨xs,rfl,h3⟩:=hasW_list h1
 obtain⟨ns,rfl⟩:=items_int h3
 have hlen:ns.length<=n:=by
  unfold OpenLaw.pre at hc
  have h4:(WTm.not (.lt (.lit (.int (n:Int))) (.len (.arg 0)))).holds [] { args:=[.list (ns.map .int)] }=true:=by
   have h4:=(holds_andW hc).1
   rw [hn] at h4
   exact h4
  have h5:=condW_of h4 (w_not (w_lt w_lit (w_len_list (w_arg rfl))))
  rw [Yi] at h5
  refine Nat.le_of_not_lt λq=>?_
  have q':(n:Int) < ((ns.length:Nat):Int):=by omega
  first
   | (rw [YJ q'] at h5; exact absurd h5 (by decide))
   | (simp at h5; omega)
 cases hwl with
 | cons w1 w2 =>
  cases w2
  cases w1 with
  | list ho hall=>exact⟨_,_,ns,rfl,rfl,ho,ZeK ns _ hall,hlen⟩
def Zle(l:OpenLaw)(args:List WData):l.row.toRowW.claim.post args (.bool true) args=true :=
 postW_of (r:=l.row.toRowW) (X:=(true == true))
  (show WShape.has [] (.bool true) .bool=true by first | rfl | decide | simp [WShape.has,WShape.arms,WShape.armsAll])
  (show (WTm.eq .res (.lit (.bool true))).value [] { args:=args,res:=some (.bool true),after:=args }=some (.bool (true == true)) from w_eq_bool (w_res rfl) w_lit) rfl
section
variable {prog:Program}{w:World}{A:Around}{E:VSP}{s:Shared}{K:Frag}
end
end Att
namespace L2
open PySem PySem.Spec PyProof.Rows
def ZcD:∀ {vs:List Value}{ns:List Int},IntsAre vs ns->ZD (ns.map V.int) vs
 | _,_,.nil=>.nil
 | _,_,.cons n t h=>.cons ⟨t,rfl⟩ (ZcD h)
def ZtE(H:Hp):Prop:=∀ b,H b=none\/∃ o xs,H b=some (.frz o (.lst xs))
def Zov{P:Program}{w:World}{K:PySem.W.Frag}{mg mb:Str->Option Value}{CX:CXT}{k:Nat}{fa a:Addr}{fd:FuncData}{x:Str}{sp:Sp}{s₁:Shared}{vs:List Value}{ns:List Int}
  (KX:K.In s₁.heap) (hns:s₁.heap.Ns mainGlobals mg) (hb:s₁.heap.Ns builtinsNs mb) (hbb:∀ x:Str,x ≠ "__name__"->mb x=bootBuiltins x) (hlim:s₁.heap.NoLimit) (hg:s₁.gens=#[])
  (ha:s₁.heap.get? a=some { cls:=.type "list",data:=.seq vs.toArray }) (hi:IntsAre vs ns) (hl:ns.length<=sizeLine) (hr:Room k callerA)
  (F:∀ base:Heap,K.In base->base.Ns mainGlobals mg->FnOk P w K mg base CX k fa fd [x] sp) (hbind:∀ (s:Shared) (u:Value),BindsTo s fd ⟨[u],[]⟩ [(x,u)])
  (hsp:∀ H:Hp,ZtE H->JY K H a (ns.map V.int)->sp [.ref a] H (λv _=>v=.bl true) λ_ _ _=>False)
  (hCX:∀ H e s',CX [] H s₁ (λ_ _ _=>False) e s'->False) :
  codeAny (model P w) callerA (.call (.ref fa) ⟨[.ref a],[]⟩) (λr s'=>r=.ok (.ret (.bool true))/\OldK s₁.heap s'.heap/\s'.os=s₁.os/\AllBare s'.gens) s₁:=by
 have rv:=ZcD hi
 have lenV:=hi.length
 -- from an abstract heap in which nothing but the script may be tracked
 have core:∀ H:Hp,ZtE H->JY K H a (ns.map V.int)->HOk P w H s₁.heap->(∀ b,H b ≠ none->b=a)->(H a ≠ none->K.lookup a=none) ->
   codeAny (model P w) callerA (.call (.ref fa) ⟨[.ref a],[]⟩) (λr s'=>r=.ok (.ret (.bool true))/\OldK s₁.heap s'.heap/\s'.os=s₁.os/\AllBare s'.gens) s₁:=by
  intro H hO hS hok hA hK
  have base_of:∀ {b:Addr}{o:Obj},s₁.heap.get? b=some o->H b=none->(Znx s₁.heap H).get? b=some o:=λe n=>ZoM e n
  have noA:∀ {b:Addr}{o:Obj}{es:Array DictEntry}{ep:Nat},s₁.heap.get? b=some o->o.data=.dict es ep->H b=none:=λ{b o es ep} e d=>by
   cases q:H b with
   | none=>rfl
   | some u =>
    have e':b=a:=hA b (by rw [q]; simp)
    subst e'
    rw [ha] at e; cases e
    have d':Data.seq vs.toArray _=Data.dict es ep:=d
    cases d'
  have nsK:∀ {b:Addr}{m:Str->Option Value},s₁.heap.Ns b m->(Znx s₁.heap H).Ns b m:=λ{b m} ⟨o,es,ep,e,d,r⟩=>⟨o,es,ep,base_of e (noA e d),d,r⟩
  have hKb:K.In (Znx s₁.heap H):=λb o e=>base_of (KX b o e) (by
   cases q:H b with
   | none=>rfl
   | some u =>
    have e':b=a:=hA b (by rw [q]; simp)
    subst e'
    rw [hK (by rw [q]; simp)] at e; cases e)
  have hM:Mod K mg (Znx s₁.heap H):=⟨hKb,nsK hns,⟨mb,nsK hb,hbb⟩,let ⟨mc,h1,h2⟩:=hlim; ⟨mc,nsK h1,h2⟩⟩
  have e0:Env0 P w K mg (Znx s₁.heap H) callerA [] s₁ H:=⟨rfl,hM,λb o e=>ZpY e,Nat.le_of_eq (Zl1 _ _),trivial,λb hb=>absurd (show b∈([]:List Addr) from hb) (by simp),hok,.of_eq hg⟩
  refine YF ((F _ hKb (nsK hns)).run callerA [] s₁ H ⟨[.ref a],[]⟩ [.ref a] [.ref a] _ _ hr e0 (hbind s₁ (.ref a)) (.cons rfl .nil) (hsp H hO hS)) λr s' h=>?_
  cases r with
  | error e=>exact (hCX H e s' h).elim
  | ok fl =>
   cases fl with
   | next=>exact False.elim h
   | brk=>exact False.elim h
   | cont=>exact False.elim h
   | ret u =>
    obtain⟨v,H',os,bare,un,hok',r',q⟩:=h
    have q':v=.bl true:=q
    subst q'
    obtain rfl:u=Value.bool true:=r'
    refine⟨rfl,OldK.of_keep λb o e=>?_,os,bare⟩
    cases q:H b with
    | none=>exact un.keep b o e q (by intro z; exact absurd (show b∈([]:List Addr) from z) (by simp)) (by simp)
    | some u =>
     rcases hO b with z | ⟨ob,xs,z⟩
     ·rw [q] at z; cases z
     ·have z2:=un.frzs b ob _ z
      obtain⟨e1,_⟩:=hok b _ z
      obtain⟨e2,_⟩:=hok' b _ z2
      rw [e] at e1; cases e1
      exact e2
 cases hk:K.lookup a with
 | some o =>
  -- the script is one of the module's own objects
  have e:=KX a o hk
  rw [ha] at e
  cases e
  refine core (λ_=>none) (λ_=>.inl rfl) (.inr ⟨_,vs.toArray,_,hk,rfl,rfl,rfl,by rw [List.size_toArray,lenV]; exact hl,by simpa using rv⟩) (λb u z=>by have z':(none:Option HO)=some u:=z; cases z') (λb z=>absurd rfl z) λz=>absurd rfl z
 | none =>
  refine core (λb=>if b=a then some (.frz { cls:=.type "list",data:=.seq vs.toArray } (.lst (ns.map V.int))) else none) (λb=>?_) (.inl (.inr ⟨{ cls:=.type "list",data:=.seq vs.toArray },if_pos rfl⟩)) (λb u z=>?_) (λb z=>?_) λ_=>hk
  ·by_cases hb:b=a
   ·exact .inr ⟨_,_,if_pos hb⟩
   ·exact .inl (if_neg hb)
  ·by_cases hb:b=a
   ·have z':=(if_pos hb).symm.trans z
    cases z'
    subst hb
    exact⟨ha,by rw [Yi]; exact hl,vs,_,rv,ha⟩
   ·have z':=(if_neg hb).symm.trans z
    cases z'
  ·by_cases hb:b=a
   ·exact hb
   ·exact absurd (if_neg hb) z
def Jb(s:Stmt)(j:Nat):Stmt:=match s with
 | .ClassDef _ _ _ body _ _ _ _ _ _ _=>body.getD j (.Pass ⟨0,0,0,0⟩)
 | _=>.Pass ⟨0,0,0,0⟩
def Zh(s:Stmt):Arguments:=match s with
 | .FunctionDef _ a _ _ _ _ _ _ _ _=>a
 | _=>{ posonlyargs:=[],args:=[],vararg:=none,kwonlyargs:=[],kw_defaults:=[],kwarg:=none,defaults:=[] }
def Zg(s:Stmt):List Stmt:=match s with
 | .FunctionDef _ _ b _ _ _ _ _ _ _=>b
 | _=>[]
def Za(s:Stmt):Scope:=match s with
 | .FunctionDef _ _ _ _ _ _ sc _ _ _=>sc
 | _=>{ kind:=.function,names:=[],isGenerator:=false,isCoroutine:=false }
abbrev Zx:CXT:=λ_ _ _ _ _ _=>False
abbrev E0:XK:=λ_ _ _=>False
def ZnG{X:Cx}:Zd1 Zx X E0:=λ_ _ _ _ _ _ _ h=>h.elim
structure Fun(K:PySem.W.Frag)(x qual:Str)(st:Stmt)(f:Addr)(fd:FuncData):Prop where
 ex:∃ (oc:Value) (od:Option Addr) (kV doc pm:Value) (an:Option Addr) (cdv ct:Value) (osl:Array (Option Value)),
  fd=fnOf x qual (Zh st) (Zg st) (Za st) .none kV doc pm an cdv ct/\K.lookup f=some ⟨oc,od,.func fd,osl⟩/\codeIn K cdv qual=true
 kp:keepIn K (.ref f)=true
section
variable {P:Program}{w:World}{K:PySem.W.Frag}{mg:Str->Option Value}{base:Heap}
theorem Fun.ok{x qual:Str}{st:Stmt}{f:Addr}{fd:FuncData}{N ps:List Str}{k:Nat}{sp:Sp}(F:Fun K x qual st f fd)(S:FnScope N ps (Za st))(len:∀ vs H Q E,sp vs H Q E->vs.length=ps.length)
  (hbody:∀ (cdv:Value) (A:Around) (outer:List Env) (s:Shared) (H:Hp) (vs:List V) (Q:VK) (E:XK),Room k (A.deeper (envOfC qual (Za st) s.heap.objs.size f cdv))->sp vs H Q E ->
   ∃ t,PSs (Zjl Zx P w K mg base N qual (Za st) f cdv A outer s H E).nox (Zg st) t/\t { nx:=λ_ H'=>Q .non H',rt:=Q } (Zv N vs) H):FnOk P w K mg base Zx (k + 1) f fd ps sp:=by
 obtain⟨oc,od,kV,doc,pm,an,cdv,ct,osl,rfl,lk,hcd⟩:=F.ex
 refine Zqt lk hcd S len λA outer s H vs Q E hr hsp=>?_
 obtain⟨t,h,q⟩:=hbody cdv A outer s H vs Q E hr hsp
 exact⟨t,h.nox,q⟩
def Fun.binds{x qual:Str}{st:Stmt}{f:Addr}{fd:FuncData}{ps:List Str}(F:Fun K x qual st f fd)
  (h:∀ (kV doc pm:Value) (an:Option Addr) (cdv ct:Value) (us:List Value),us.length=ps.length->bindArgs (fnOf x qual (Zh st) (Zg st) (Za st) .none kV doc pm an cdv ct) ⟨us,[]⟩=pure (ps.zip us)):Zy K fd ps []:=by
 obtain⟨oc,od,kV,doc,pm,an,cdv,ct,osl,rfl,lk,hcd⟩:=F.ex
 exact .all (h kV doc pm an cdv ct)
def Zt{x qual:Str}{st:Stmt}{f:Addr}{oc:Value}{od an:Option Addr}{osl:Array (Option Value)}{kV doc pm cdv ct:Value}(l:K.lookup f=some ⟨oc,od,.func (fnOf x qual (Zh st) (Zg st) (Za st) .none kV doc pm an cdv ct),osl⟩)
  (c:codeIn K cdv qual=true) (k:keepIn K (.ref f)=true):Fun K x qual st f (fnOf x qual (Zh st) (Zg st) (Za st) .none kV doc pm an cdv ct):=⟨⟨oc,od,kV,doc,pm,an,cdv,ct,osl,rfl,l,c⟩,k⟩
end
def ZdE{A:Around}{k:Nat}(hr:Room k A):A.units + 1 < cLine:=YN (Nat.add_le_add_left (by decide:1<=64) _) hr.units
def ZgS{n:Nat}(h:n<=1000):n < sizeLine:=YN h (by decide)
section
variable {X:Cx}
theorem pv(i:Nat){x:Str}{pos:Pos}(hN:X.N[i]?=some x:=by rfl)(hv:Vis X.env.scope x:=by first | exact Or.inl rfl | exact Or.inr (Or.inl rfl) | exact Or.inr (Or.inr rfl))(hd:(x == ("__debug__":Str))=false:=by decide)
  (hcd:(x == ("__classdict__":Str))=false:=by decide):PE X (.Name x pos) (Zis i):=ZpC hN hv hd hcd
end
theorem JA{c A B:Prop}[Decidable c](h1:c->A)(h2:¬ c->B):if c then A else B:=by
 by_cases h:c
 ·rw [if_pos h]
  exact h1 h
 ·rw [if_neg h]
  exact h2 h
def Zn(H H':Hp):Prop:=∀ b o,H b=some o->H' b=some o
theorem Zn.refl(H:Hp):Zn H H:=λ_ _ h=>h
theorem Zn.trans{H H1 H2:Hp}(a:Zn H H1)(b:Zn H1 H2):Zn H H2:=λc o h=>b c o (a c o h)
theorem Zn.free{H H':Hp}(e:Zn H H'){l:Addr}(h:H' l=Option.none):H l=Option.none:=by
 cases q:H l with
 | none=>rfl
 | some o =>
  rw [e l o q] at h
  cases h
def Zn.seq{K:PySem.W.Frag}{H H':Hp}{a:Addr}{xs:List V}(e:Zn H H')(h:JY K H a xs):JY K H' a xs:=by
 rcases h with (h | ⟨o,h⟩) | h
 ·exact .inl (.inl (e _ _ h))
 ·exact .inl (.inr ⟨o,e _ _ h⟩)
 ·exact .inr h
section
variable {κ:Type}[DecidableEq κ]
def Jm(kvs:List (κ × V))(k:κ):Option V:=(kvs.find? λkv=>decide (kv.1=k)).map (·.2)
def Jt(kvs:List (κ × V))(k:κ)(v:V):List (κ × V) :=
 if (kvs.any λkv=>decide (kv.1=k))=true then kvs.map (λkv=>if kv.1=k then (kv.1,v) else kv) else kvs ++ [(k,v)]
def Zfi(kvs:List (κ × V))(k:κ):List (κ × V):=kvs.filter λkv=>decide (kv.1 ≠ k)
theorem Zdv{p:κ × V}{r:List (κ × V)}{k:κ}(e:p.1=k):Jm (p :: r) k=some p.2:=by simp [Jm,List.find?_cons,e]
theorem Zdo{p:κ × V}{r:List (κ × V)}{k:κ}(e:¬ p.1=k):Jm (p :: r) k=Jm r k:=by simp [Jm,List.find?_cons,e]
def ZcS(k:κ):∀ kvs:List (κ × V),(kvs.any λkv=>decide (kv.1=k))=(Jm kvs k).isSome
 | []=>rfl
 | p :: r=>by
  rw [List.any_cons]
  by_cases e:p.1=k
  ·simp only [Zdv e,decide_eq_true e,Bool.true_or,Option.isSome_some]
  ·rw [Zdo e,YC e,Bool.false_or]; exact ZcS k r
def Zdi(kvs:List (κ × V))(k:κ)(v:V):(Jt kvs k v).length<=kvs.length + 1:=by
 unfold Jt
 split
 ·rw [Yi]; omega
 ·rw [YZ,Vd,List.length_nil]; omega
def ZiP{kvs:List (κ × V)}{k:κ}(v:V)(h:Jm kvs k=none):Jt kvs k v=kvs ++ [(k,v)]:=by
 unfold Jt
 rw [ZcS,h]
 exact if_neg (by decide)
def J0.isSome_eq{o:Option V}{u:Option Value}(r:J0 o u):o.isSome=u.isSome:=by
 cases o with
 | none=>cases u with
  | none=>rfl
  | some _=>exact (show False from r).elim
 | some _=>cases u with
  | none=>exact (show False from r).elim
  | some _=>rfl
theorem J0.getD{o:Option V}{u:Option Value}{d:V}{d':Value}(r:J0 o u)(rd:ZP d d'):ZP (o.getD d) (u.getD d'):=by
 cases o with
 | none=>cases u with
  | none=>exact rd
  | some _=>exact (show False from r).elim
 | some _=>cases u with
  | none=>exact (show False from r).elim
  | some _=>exact r
def KV.val{kvs:List (κ × V)}{vs:List (κ × Value)}(r:KV kvs vs)(k:κ):J0 (Jm kvs k) (valueAt vs k):=by
 unfold KV at r
 induction r with
 | nil=>exact True.intro
 | @cons p q ps qs h t ih =>
  obtain⟨h1,h2⟩:=h
  by_cases e:p.1=k
  ·have e':q.1=k:=h1.symm.trans e
   have b:valueAt (q :: qs) k=some q.2:=by simp [valueAt,List.find?_cons,e']
   rw [Zdv e,b]; exact h2
  ·have e':¬ q.1=k:=λz=>e (h1.trans z)
   have b:valueAt (q :: qs) k=valueAt qs k:=by simp [valueAt,List.find?_cons,e']
   rw [Zdo e,b]; exact ih
theorem KV.any{kvs:List (κ × V)}{vs:List (κ × Value)}(r:KV kvs vs)(k:κ):(kvs.any λkv=>decide (kv.1=k))=vs.any λkv=>decide (kv.1=k):=by
 unfold KV at r
 induction r with
 | nil=>rfl
 | cons h t ih=>rw [List.any_cons,List.any_cons,ih,h.1]
def KV.repl{kvs:List (κ × V)}{vs:List (κ × Value)}(r:KV kvs vs)(k:κ){y:V}{u:Value}(ry:ZP y u) :
  KV (kvs.map λkv=>if kv.1=k then (kv.1,y) else kv) (vs.map λkv=>if kv.1=k then (kv.1,u) else kv):=by
 unfold KV at r ⊢
 induction r with
 | nil=>exact .nil
 | @cons p q ps qs h t ih =>
  rw [Ys,Ys]
  refine .cons ?_ ih
  obtain⟨h1,h2⟩:=h
  by_cases e:p.1=k
  ·rw [if_pos e,if_pos (h1.symm.trans e)]; exact⟨h1,ry⟩
  ·rw [if_neg e,if_neg (λz=>e (h1.trans z))]; exact⟨h1,h2⟩
def KV.put{kvs:List (κ × V)}{vs:List (κ × Value)}(r:KV kvs vs)(k:κ){y:V}{u:Value}(ry:ZP y u):KV (Jt kvs k y) (stored vs k u):=by
 unfold Jt stored
 rw [r.any k]
 by_cases e:(vs.any λkv=>decide (kv.1=k))=true
 ·rw [if_pos e,if_pos e]; exact r.repl k ry
 ·rw [if_neg e,if_neg e]; exact Paired.snoc r ⟨rfl,ry⟩
theorem KV.drop{kvs:List (κ × V)}{vs:List (κ × Value)}(r:KV kvs vs)(k:κ):KV (Zfi kvs k) (without vs k):=by
 unfold KV at r ⊢
 unfold Zfi without
 induction r with
 | nil=>exact .nil
 | @cons p q ps qs h t ih =>
  obtain⟨h1,h2⟩:=h
  rw [List.filter_cons,List.filter_cons]
  by_cases e:p.1=k
  ·have a:¬ decide (p.1 ≠ k)=true:=by simp [e]
   have b:¬ decide (q.1 ≠ k)=true:=by simp [h1.symm.trans e]
   rw [if_neg a,if_neg b]; exact ih
  ·have e':¬ q.1=k:=λz=>e (h1.trans z)
   have a:decide (p.1 ≠ k)=true:=by simp [e]
   have b:decide (q.1 ≠ k)=true:=by simp [e']
   rw [if_pos a,if_pos b]; exact .cons ⟨h1,h2⟩ ih
theorem KV.keys{kvs:List (κ × V)}{vs:List (κ × Value)}(r:KV kvs vs):kvs.map (·.1)=vs.map (·.1):=by
 unfold KV at r
 induction r with
 | nil=>rfl
 | cons h t ih=>rw [Ys,Ys,ih,h.1]
theorem KV.length{kvs:List (κ × V)}{vs:List (κ × Value)}(r:KV kvs vs):kvs.length=vs.length:=Paired.length r
def Zji(kvs:List (κ × V))(k:κ):(Zfi kvs k).length<=kvs.length:=List.length_filter_le _ _
end
def ZjM{P:Program}{w:World}{k:Je}{u:Value}(r:ZP (kV k) u):(ZL P w).is k u=true:=by
 cases k with
 | inl i=>obtain⟨t,e⟩:=(show ∃ t,u=Value.int i t from r); subst e; exact ZhF P w i t
 | inr x=>obtain⟨t,e⟩:=(show ∃ t,u=Value.str x t from r); subst e; exact ZhM P w x t
theorem ZeS{P:Program}{w:World}:∀ {ks:List Je}{us:List Value},ZD (ks.map kV) us->ItemsAre (ZL P w) ks us
 | [],_,r=>by rw [List.map_nil] at r; cases r; exact .nil
 | k :: ks,_,r=>by
  rw [Ys] at r
  cases r with
  | cons h t=>exact .cons (ZjM h) (ZeS t)
abbrev KT(H:Hp):List (List Je × V)->List (List Je × Addr × Value)->Prop:=Paired λp q=>p.1=q.1/\H q.2.1=some (.tup (p.1.map kV))/\ZP p.2 q.2.2
variable {H:Hp}{xs:List (List Je × Addr × Value)}
def KT.val{kvs:List (List Je × V)}(r:KT H kvs xs)(k:List Je):J0 (Jm kvs k) ((atKey xs k).map (·.2)):=by
 induction r with
 | nil=>exact True.intro
 | @cons p q ps qs h t ih =>
  obtain⟨h1,_,h2⟩:=h
  by_cases e:p.1=k
  ·have e':q.1=k:=h1.symm.trans e
   have b:atKey (q :: qs) k=some q.2:=by simp [atKey,List.find?_cons,e']
   rw [Zdv e,b]; exact h2
  ·have e':¬ q.1=k:=λz=>e (h1.trans z)
   have b:atKey (q :: qs) k=atKey qs k:=by simp [atKey,List.find?_cons,e']
   rw [Zdo e,b]; exact ih
def KT.repl{kvs:List (List Je × V)}(r:KT H kvs xs)(k:List Je){y:V}{u:Value}(ry:ZP y u) :
  KT H (kvs.map λkv=>if kv.1=k then (kv.1,y) else kv) (xs.map (putAt k u)):=by
 induction r with
 | nil=>exact .nil
 | @cons p q ps qs h t ih =>
  rw [Ys,Ys]
  refine .cons ?_ ih
  obtain⟨h1,h2,h3⟩:=h
  unfold putAt
  by_cases e:p.1=k
  ·rw [if_pos e,if_pos (h1.symm.trans e)]; exact⟨h1,h2,ry⟩
  ·rw [if_neg e,if_neg (λz=>e (h1.trans z))]; exact⟨h1,h2,h3⟩
def KT.put{kvs:List (List Je × V)}(r:KT H kvs xs)(k:List Je){b:Addr}{y:V}{u:Value}(hb:H b=some (.tup (k.map kV)))(ry:ZP y u) :
  KT H (Jt kvs k y) (storedH xs k b u):=by
 have e:(kvs.any λkv=>decide (kv.1=k))=(atKey xs k).isSome:=by
  rw [ZcS,(r.val k).isSome_eq,Option.isSome_map]
 unfold Jt storedH
 rw [e]
 by_cases q:(atKey xs k).isSome=true
 ·rw [if_pos q,if_pos q]; exact r.repl k ry
 ·rw [if_neg q,if_neg q]; exact Paired.snoc r ⟨rfl,hb,ry⟩
def KT.keeps{H H':Hp}{kvs:List (List Je × V)}(r:KT H kvs xs)(ht:∀ b ys,H b=some (.tup ys)->H' b=some (.tup ys)):KT H' kvs xs :=
 Paired.mapP r λ_ _ z=>⟨z.1,ht _ _ z.2.1,z.2.2⟩
section
variable {P:Program}{w:World}{H:Hp}{h:Heap}{a:Addr}
def Zsw{u:HO}(ok:HOk P w H h)(e:Rd H a u):Ji P w H h a u:=e.ok ok
def Zda{kvs:List (Je × V)}(ok:HOk P w H h)(e:Rd H a (.dK kvs)):kvs.length<=sizeLine/\(a == sysModules)=false/\∃ vs,KV kvs vs/\h.DictOf (ZL P w) a vs :=
 show Ji P w H h a (.dK kvs) from Zsw ok e
def Zq9{kvs:List (Je × V)}(ok:HOk P w H h)(e:H a=some (.dK kvs)):kvs.length<=sizeLine/\(a == sysModules)=false/\∃ vs,KV kvs vs/\h.DictOf (ZL P w) a vs:=Zda ok (.inl e)
def Zhf{ks:List Je}(ok:HOk P w H h)(e:H a=some (.tup (ks.map kV))):(tupleKind (ZL P w)).is h ks a:=by
 obtain⟨_,its,r,o,h1,h2,n,h3⟩:=(show Ji P w H h a (.tup (ks.map kV)) from ok a _ e)
 exact⟨o,its.toArray,n,h1,h2,h3,by simpa using ZeS r⟩
def ZjC{kvs:List (List Je × V)}(ok:HOk P w H h)(e:Rd H a (.dT kvs)):kvs.length<=sizeLine/\(a == sysModules)=false /\
  ∃ xs,KT H kvs xs/\h.DictOfH (tupleKind (ZL P w)) a xs:=by
 obtain⟨z,y,xs,r,o,es,ep,h1,h2,h3,h4,h5⟩:=(show Ji P w H h a (.dT kvs) from Zsw ok e)
 refine⟨z,y,xs,r,o,es,ep,h1,h2,h3,h4,λx hx=>?_,h5⟩
 have all:∀ {l:List (List Je × V)}{m:List (List Je × Addr × Value)},KT H l m->∀ x∈m,(tupleKind (ZL P w)).is h x.1 x.2.1:=by
  intro l m q
  induction q with
  | nil=>intro x hx; exact nomatch hx
  | @cons p q ps qs hq t ih =>
   intro x hx
   rcases Yl.mp hx with e | hx
   ·subst e
    exact Zhf ok (by rw [<- hq.1]; exact hq.2.1)
   ·exact ih x hx
 exact all r x hx
def ZtJ{kvs:List (List Je × V)}(ok:HOk P w H h)(e:H a=some (.dT kvs)):kvs.length<=sizeLine/\(a == sysModules)=false /\
  ∃ xs,KT H kvs xs/\h.DictOfH (tupleKind (ZL P w)) a xs:=ZjC ok (.inl e)
end
def Zm3(H:Hp)(a:Addr)(y:V)(r:Option V):Prop :=
 (∃ kvs k,Rd H a (.dK kvs)/\y=kV k/\r=Jm kvs k)\/∃ kvs k b,Rd H a (.dT kvs)/\y=.ref b/\H b=some (.tup (k.map kV))/\r=Jm kvs k
def Zrh(H:Hp)(a:Addr)(y v:V)(H':Hp):Prop :=
 (∃ kvs k,H a=some (.dK kvs)/\y=kV k/\kvs.length < sizeLine/\H'=upd H a (.dK (Jt kvs k v))) \/
 ∃ kvs k b,H a=some (.dT kvs)/\y=.ref b/\H b=some (.tup (k.map kV))/\kvs.length < sizeLine/\H'=upd H a (.dT (Jt kvs k v))
theorem Zm3.k{a:Addr}{kvs:List (Je × V)}{k:Je}(e:H a=some (.dK kvs)):Zm3 H a (kV k) (Jm kvs k):=.inl ⟨kvs,k,.inl e,rfl,rfl⟩
theorem Zm3.t{a b:Addr}{kvs:List (List Je × V)}{k:List Je}(e:H a=some (.dT kvs))(eb:H b=some (.tup (k.map kV))):Zm3 H a (.ref b) (Jm kvs k):=.inr ⟨kvs,k,b,.inl e,rfl,eb,rfl⟩
theorem Zrh.k{a:Addr}{kvs:List (Je × V)}{k:Je}{v:V}(e:H a=some (.dK kvs))(hl:kvs.length < sizeLine):Zrh H a (kV k) v (upd H a (.dK (Jt kvs k v))):=.inl ⟨kvs,k,e,rfl,hl,rfl⟩
theorem Zrh.t{a b:Addr}{kvs:List (List Je × V)}{k:List Je}{v:V}(e:H a=some (.dT kvs))(eb:H b=some (.tup (k.map kV)))(hl:kvs.length < sizeLine) :
  Zrh H a (.ref b) v (upd H a (.dT (Jt kvs k v))):=.inr ⟨kvs,k,b,e,rfl,eb,hl,rfl⟩
section
variable {X:Cx}{pins:List (Addr × Obj)}{Z:St}{H:Hp}{s:Shared}{a:Addr}{y v:V}{u r:Value}{o:Option V}{A:Around}{E:VSP}
def Inv.big(I:Inv X pins Z H s):sysModules < s.heap.objs.size:=by
 have h:mainGlobals < s.heap.objs.size:=(I.mod.glob.keeps I.bk).lt
 exact Nat.lt_trans (by decide) h
def ZkG{Q:VSP}(hu:A.units + 1 < cLine)(I:Inv X pins Z H s)(g:Zm3 H a y (some v))(ry:ZP y u)(h:∀ w' s',Inv X pins Z H s'->ZP v w'->Q w' s') :
  wpAny (model X.prog X.w) A (getItem (.ref a) u) Q E s:=by
 rcases g with ⟨kvs,k,e,ey,l⟩ | ⟨kvs,k,b,e,ey,eb,l⟩
 ·subst ey
  obtain⟨z,hd,vs,rel,dd⟩:=Zda I.hok e
  obtain⟨w',hw,rw'⟩:=J0.some_of (v:=v) (o:=valueAt vs k) (by rw [l]; exact rel.val k)
  exact wpAny_getItem_of (ZjM ry) dd.mapOf hw (h w' _ (I.tok _) rw')
 ·subst ey
  cases (show u=Value.ref b from ry)
  obtain⟨z,hd,xs,rel,dd⟩:=ZjC I.hok e
  obtain⟨w',hw,rw'⟩:=J0.some_of (v:=v) (o:=(atKey xs k).map (·.2)) (by rw [l]; exact rel.val k)
  obtain⟨p,hp,hp2⟩:=Y9.mp hw
  refine wpAny_getItem_heap (tupleKind_room_in1 hu) (Zhf I.hok eb) dd hp ?_
  rw [hp2]
  exact h w' _ (I.tok _) rw'
theorem ZuU{Q:VSP}(hu:A.units + 1 < cLine)(I:Inv X pins Z H s)(g:Zm3 H a y o)(ry:ZP y u)(h:∀ s',Inv X pins Z H s'->Q (.bool o.isSome) s') :
  wpAny (model X.prog X.w) A (compareOp .In u (.ref a)) Q E s:=by
 rcases g with ⟨kvs,k,e,ey,l⟩ | ⟨kvs,k,b,e,ey,eb,l⟩
 ·subst ey
  obtain⟨z,hd,vs,rel,dd⟩:=Zda I.hok e
  refine wpAny_in_of (ZjM ry) hd dd.mapOf ?_
  rw [<- (rel.val k).isSome_eq,<- l]
  exact h _ (I.tok _)
 ·subst ey
  cases (show u=Value.ref b from ry)
  obtain⟨z,hd,xs,rel,dd⟩:=ZjC I.hok e
  refine wpAny_in_heap (tupleKind_room_in1 hu) (Zhf I.hok eb) hd dd ?_
  have q:=(rel.val k).isSome_eq
  rw [Option.isSome_map] at q
  rw [<- q,<- l]
  exact h _ (I.tok _)
theorem Zqz{Q:VSP}(hu:A.units + 1 < cLine)(I:Inv X pins Z H s)(g:Zm3 H a y o)(ry:ZP y u)(h:∀ s',Inv X pins Z H s'->Q (.bool (!o.isSome)) s') :
  wpAny (model X.prog X.w) A (compareOp .NotIn u (.ref a)) Q E s:=by
 rcases g with ⟨kvs,k,e,ey,l⟩ | ⟨kvs,k,b,e,ey,eb,l⟩
 ·subst ey
  obtain⟨z,hd,vs,rel,dd⟩:=Zda I.hok e
  refine wpAny_notIn_of (ZjM ry) hd dd.mapOf ?_
  rw [<- (rel.val k).isSome_eq,<- l]
  exact h _ (I.tok _)
 ·subst ey
  cases (show u=Value.ref b from ry)
  obtain⟨z,hd,xs,rel,dd⟩:=ZjC I.hok e
  refine wpAny_notIn_heap (tupleKind_room_in1 hu) (Zhf I.hok eb) hd dd ?_
  have q:=(rel.val k).isSome_eq
  rw [Option.isSome_map] at q
  rw [<- q,<- l]
  exact h _ (I.tok _)
def ZhU{h':Heap}{t':Nat}{ob:HO}(I:Inv X pins Z H s)(mu:Mut (H a))(hs:Heap.SameBut a s.heap h')(he:∃ q,h'.get? a=some q)(new:Ji X.prog X.w (upd H a ob) h' a ob) :
  Inv X pins Z (upd H a ob) { s with heap:=h',toks:=t' } :=
 I.write (x:=a) (e:=a) mu (.inl rfl) (λb q hb z=>(hs.2 b hb).trans z) he new
def Zmv{P:Program}{w:World}{H':Hp}{h':Heap}{kvs:List (Je × V)}{vs:List (Je × Value)}(z:kvs.length<=sizeLine)(hd:(a == sysModules)=false)(rel:KV kvs vs)(dd:h'.DictOf (ZL P w) a vs) :
  Ji P w H' h' a (.dK kvs):=⟨z,hd,vs,rel,dd⟩
def Zl0{H':Hp}{Q:Unit->Shared->Prop}(hu:A.units + 1 < cLine)(I:Inv X pins Z H s)(g:Zrh H a y v H')(ry:ZP y u)(rv:ZP v r)(h:∀ s',Inv X pins Z H' s'->Q () s') :
  wpAny (model X.prog X.w) A (setItem (.ref a) u r) Q E s:=by
 rcases g with ⟨kvs,k,e,ey,l,eH⟩ | ⟨kvs,k,b,e,ey,eb,l,eH⟩
 ·subst ey eH
  obtain⟨z,hd,vs,rel,dd⟩:=Zq9 I.hok e
  have hz:vs.length<=sizeLine:=by rw [<- rel.length]; exact z
  have hl:(Jt kvs k v).length<=sizeLine:=by have:=Zdi kvs k v; omega
  refine wpAny_setItem_pairs (hsz:=hz) (ZjM ry) dd λh' dd' hs=>h _ ?_
  have he:∃ q,h'.get? a=some q:=let ⟨q,_,_,hq,_⟩:=dd'; ⟨q,hq⟩
  exact ZhU I (by rw [e]; exact True.intro) hs he (Zmv hl hd (rel.put k rv) dd')
 ·subst ey eH
  cases (show u=Value.ref b from ry)
  obtain⟨z,hd,xs,rel,dd⟩:=ZtJ I.hok e
  have hz:xs.length<=sizeLine:=by rw [<- Paired.length rel]; exact z
  have hl:(Jt kvs k v).length<=sizeLine:=by have:=Zdi kvs k v; omega
  refine wpAny_setItem_heap (hsz:=hz) (tupleKind_room_in1 hu) (Zhf I.hok eb) dd λh' dd' hs=>h _ ?_
  obtain⟨q,es,ep,hq,h2,h3,h4,_,h5⟩:=dd'
  refine ZhU I (by rw [e]; exact True.intro) hs ⟨q,hq⟩ ⟨hl,hd,_,(rel.put k eb rv).keeps λc ys ec=>?_,q,es,ep,hq,h2,h3,h4,h5⟩
  rw [Zj (JJ ec e (λz=>nomatch z))]
  exact ec
end
section
variable {X:Cx}{pins:List (Addr × Obj)}{Z:St}{H:Hp}{s:Shared}{a:Addr}{kvs:List (Je × V)}{k:Je}{u:Value}{A:Around}{E:VSP}
def Zud{v:V}{more:List Value}{Q:VSP}(I:Inv X pins Z H s)(e:H a=some (.dK kvs))(ry:ZP (kV k) u)(l:Jm kvs k=some v)(hm:more=[]\/∃ x,more=[x])
  (h:∀ w' s',Inv X pins Z (upd H a (.dK (Zfi kvs k))) s'->ZP v w'->Q w' s'):wpAny (model X.prog X.w) A (call (.builtin "dict.pop") (.ref a :: u :: more)) Q E s:=by
 obtain⟨z,hd,vs,rel,dd⟩:=Zq9 I.hok e
 obtain⟨w',hw,rw'⟩:=J0.some_of (v:=v) (o:=valueAt vs k) (by rw [<- l]; exact rel.val k)
 have hp:(keyPart u).isSome=true:=by
  cases k with
  | inl i=>obtain⟨t,q⟩:=(show ∃ t,u=Value.int i t from ry); subst q; rfl
  | inr x=>obtain⟨t,q⟩:=(show ∃ t,u=Value.str x t from ry); subst q; rfl
 have ha:argsOk "dict.pop" ⟨.ref a :: u :: more,[]⟩:=by
  rcases hm with q | ⟨x,q⟩
  ·subst q; exact PySem.F.args_dict_pop_2 _ _
  ·subst q; exact PySem.F.args_dict_pop_3 _ _ _
 refine call_meetsIn PySem.F.slot_dict_pop dd.typeIs PySem.F.entry_dict_pop ha (meets_dict_pop_there (ZL X.prog X.w) a (ZjM ry) more hm hp)
  ⟨vs,w',dd,by rw [<- rel.length]; exact z,hw,λh' dd' hs=>h w' _ ?_ rw'⟩
 have he:∃ q,h'.get? a=some q:=let ⟨q,_,_,hq,_⟩:=dd'; ⟨q,hq⟩
 exact ZhU I (by rw [e]; exact True.intro) hs he (Zmv (Yj (Zji kvs k) z) hd (rel.drop k) dd')
def Ztz{Q:VSP}(I:Inv X pins Z H s)(e:Rd H a (.dK kvs))(h:∀ t s',Inv X pins Z H s'->Q (.int kvs.length t) s'):wpAny (model X.prog X.w) A (call (.builtin "len") [.ref a]) Q E s:=by
 obtain⟨z,hd,vs,rel,dd⟩:=Zda I.hok e
 refine call_len_dict hd dd (by rw [<- rel.length]; rw [sizeLine_eq] at z; omega) ?_
 rw [<- rel.length]
 exact h _ _ (I.tok _)
end
def ZuG(i:Expr):Prop:=∀ ov iv,subscripted i false ov iv=operate [ov,iv] (getItem ov iv)
def Zqp{prog:Program}{w:World}{A:Around}{E:VSP}{s:Shared}{env:Env}{value slice:Expr}{pos:Pos}{T id:String}{Q:VSP}
  (hl:typeLookup (.type T) "__getitem__"=pure (some (.builtin id))) (hs:ZuG slice)
  (h:wpAny (model prog w) A (eval value env) (λo s₁=>wpAny (model prog w) A (eval slice env) (λi s₂=>s₂.TypeIs o T/\wpAny (model prog w) A (getItem o i) Q E s₂) E s₁) E s) :
  wpAny (model prog w) A (eval (.Subscript value slice pos) env) Q E s:=by
 refine Subscript_ (Yo h (λo s₁ h₁=>Yo h₁ (λi s₂ h₂=>?_) λ_ _ x=>x) λ_ _ x=>x)
 obtain⟨hT,h₂⟩:=h₂
 unfold subscriptTail
 refine Ya ?_
 rw [getitemInPython_of_ne hT.not_modules]
 refine Ya (wpAny_specialOf hT hl ?_)
 have fin:wpAny (model prog w) A (subscripted slice false o i) (λr s₃=>wpAny (model prog w) A (letTemporaryGo value o r >>= λ_=>pure r) Q E s₃) E s₂:=by
  rw [hs o i]
  exact wpAny_operating (Yo h₂ (λr s₃ h₃=>Ya (wpAny_letTemporaryGo (Yb h₃))) λ_ _ x=>x)
 first
  | exact Yb (Ya fin)
  | exact Ya (Yb (Ya fin))
  | exact Ya fin
def ZhP{X:Cx}{pins:List (Addr × Obj)}{Z:St}{s:Shared}{a:Addr}{y:V}{o:Option V}(I:Inv X pins Z H s)(g:Zm3 H a y o):s.TypeIs (.ref a) "dict":=by
 rcases g with ⟨kvs,k,e,_,_⟩ | ⟨kvs,k,b,e,_,_,_⟩
 ·obtain⟨_,_,vs,_,dd⟩:=Zda I.hok e
  exact dd.typeIs
 ·obtain⟨_,_,xs,_,dd⟩:=ZjC I.hok e
  exact dd.typeIs
section
variable {X:Cx}{o i e value:Expr}{pos pos' tpos:Pos}{td ty tv:TE}
end
def Zop{P:Program}{w:World}(h:Heap)(hb:sysModules < h.objs.size):Ji P w H (h.push { cls:=.type "dict",data:=.dict #[] }) h.objs.size (.dK []) :=
 ⟨YA _,Vs.mpr (Ne.symm (Yn hb)),[],.nil,Heap.DictOf.new h⟩
def Zsu:TE:=λ_ H Q=>∀ p,H p=none->Q (.ref p) (upd H p (.dK []))
section
variable {X:Cx}{pos:Pos}
def ZnA:PE X (.Dict [] [] pos) Zsu:=λpins s Z H Q I h =>
 wpAny_Dict_empty ⟨.ref s.heap.objs.size,_,I.laid (a:=s.heap.objs.size) (o:=.dK []) (t':=s.toks) (λ_ _ q=>Yg _ q) (Yd _) (Zop s.heap I.big),rfl,h _ (I.hok.fresh (Yd _))⟩
end
structure M1(X:Cx)(o:Expr)(m:Str)(apos:Pos)(e:Expr)(cpos:Pos):Prop where
 base:attributeBase o m X.env (eval o X.env)=eval o X.env
 few:((backTo cpos (starEach [e] X.env)).all (λx=>!x.1) && (backToKw cpos (keywordEach [] X.env)).all (λx=>x.1.isSome)
  && decide (([e]:List Expr).length + ([]:List Keyword).length + (if ([]:List Keyword).isEmpty then 0 else 1) < 30))=true
 line:(apos.endLine == cpos.line)=true
 trees:backTo cpos (starEach [e] X.env)=[(false,eval e X.env)]
structure M2(X:Cx)(o:Expr)(m:Str)(apos:Pos)(e f:Expr)(cpos:Pos):Prop where
 base:attributeBase o m X.env (eval o X.env)=eval o X.env
 few:((backTo cpos (starEach [e,f] X.env)).all (λx=>!x.1) && (backToKw cpos (keywordEach [] X.env)).all (λx=>x.1.isSome)
  && decide (([e,f]:List Expr).length + ([]:List Keyword).length + (if ([]:List Keyword).isEmpty then 0 else 1) < 30))=true
 line:(apos.endLine == cpos.line)=true
 trees:backTo cpos (starEach [e,f] X.env)=[(false,eval e X.env),(false,eval f X.env)]
def IsD(H:Hp)(a:Addr):Prop:=(∃ kvs,Rd H a (.dK kvs))\/∃ kvs,Rd H a (.dT kvs)
def Zpz{X:Cx}{pins:List (Addr × Obj)}{Z:St}{s:Shared}{a:Addr}(I:Inv X pins Z H s)(d:IsD H a) :
  s.TypeIs (.ref a) "dict"/\(∀ b,Value.ref a=.ref b->∃ ob,s.heap.get? b=some ob/\ob.dict=none)/\(a == sysModules)=false:=by
 rcases d with ⟨kvs,e⟩ | ⟨kvs,e⟩
 ·obtain⟨_,hd,vs,_,dd⟩:=Zda I.hok e
  refine⟨dd.typeIs,λb q=>?_,hd⟩
  cases q
  obtain⟨ob,_,_,h1,h2,_⟩:=dd
  exact⟨ob,h1,h2.2.1⟩
 ·obtain⟨_,hd,xs,_,dd⟩:=ZjC I.hok e
  refine⟨dd.typeIs,λb q=>?_,hd⟩
  cases q
  obtain⟨ob,_,_,h1,h2,_⟩:=dd
  exact⟨ob,h1,h2.2.1⟩
section
variable {X:Cx}{pins:List (Addr × Obj)}{Z:St}{H:Hp}{s:Shared}{a:Addr}{y d:V}{u r:Value}{o:Option V}{A:Around}{E:VSP}
end
def Zpt(td ty tx:TE):TE:=λZ H Q=>td Z H λx H1=>∃ a,x=.ref a/\IsD H1 a/\ty Z H1 λy H2=>tx Z H2 λz H3=>∃ o,Zm3 H3 a y o/\Q (o.getD z) H3
def Zi9(td ty:TE):TE:=λZ H Q=>td Z H λx H1=>∃ a,x=.ref a/\IsD H1 a/\ty Z H1 λy H2=>∃ kvs k v,H2 a=some (.dK kvs)/\y=kV k/\Jm kvs k=some v/\Q v (upd H2 a (.dK (Zfi kvs k)))
section
variable {X:Cx}{o e f:Expr}{apos cpos:Pos}{td ty tx:TE}
def ZoF(ho:PE X o td)(he:PE X e ty)(m:M1 X o "pop" apos e cpos):PE X (.Call (.Attribute o "pop" apos) [e] [] cpos) (Zi9 td ty):=by
 intro pins s Z H Q I h
 refine wpAny_Call_method m.base m.few m.line PySem.F.plainAttrs_dict PySem.F.slot_dict_pop PySem.F.type_dict_pop (Jl (ho pins s Z H _ I h) λu s1 ⟨x,H1,I1,rx,a,ex,d,q1⟩=>?_)
 subst ex
 obtain rfl:u=Value.ref a:=rx
 obtain⟨t1,t2,_⟩:=Zpz I1 d
 refine⟨t1,t2,?_⟩
 rw [m.trees]
 refine VQ rfl (VT (VH (Jl (he pins s1 Z H1 _ I1 q1) λiv s2 ⟨y,H2,I2,ry,kvs,k,v,ea,ey,l,q2⟩=>Calls.spliced_nil ?_)))
 subst ey
 exact Zud I2 ea ry l (.inl rfl) λw' s3 I3 rw'=>⟨v,_,I3,rw',q2⟩
end
section
variable {X:Cx}{pins:List (Addr × Obj)}{Z:St}{H:Hp}{s:Shared}{a:Addr}{kvs:List (Je × V)}{A:Around}{E:VSP}
def Zne{Q:VSP}(I:Inv X pins Z H s)(e:Rd H a (.dK kvs))(h:∀ p s',H p=none->Inv X pins Z (upd H p (.dK kvs)) s'->Q (.ref p) s'):wpAny (model X.prog X.w) A (call (.type "dict") [.ref a]) Q E s:=by
 obtain⟨z,hd,vs,rel,dd⟩:=Zda I.hok e
 refine kt_call_dict hd dd (by rw [<- rel.length]; exact z) λh' dd' hs=>?_
 refine h _ _ (I.hok.fresh (Yd _)) (I.laid (a:=s.heap.objs.size) (o:=.dK kvs) (t':=s.toks) (λb q hq=>?_) (Yd _) (Zmv z (Vs.mpr (Ne.symm (Yn I.big))) rel dd'))
 exact (hs.2 b (Yn (Ye hq))).trans (Yg _ hq)
end
section
variable {X:Cx}{pins:List (Addr × Obj)}{Z:St}{H:Hp}{s:Shared}{a:Addr}{y:V}{u:Value}{A:Around}{E:VSP}
end
end L2
namespace My
def Zn2{a b:Int}:Int.gcd b (a % b)=Int.gcd a b:=by
 rw [Int.emod_def,Int.gcd_comm a b]
 exact Int.gcd_sub_mul_left_right b a (a / b)
def ZkR{a b:Int}:Int.gcd b (a.fmod b)=Int.gcd a b:=by
 rw [Int.fmod_def,Int.gcd_comm a b]
 exact Int.gcd_sub_mul_left_right b a (a.fdiv b)
def Ziz{a b:Int}(hb:b ≠ 0):(a.fmod b).natAbs < b.natAbs:=by
 rcases Int.lt_or_gt_of_ne hb with h | h
 ·have e:a.fmod b=-((-a).fmod (-b)):=by rw [Int.neg_fmod_neg,Int.neg_neg]
  have h1:=Int.fmod_nonneg_of_pos (-a) (b:=-b) (by omega)
  have h2:=Int.fmod_lt_of_pos (-a) (b:=-b) (by omega)
  omega
 ·have h1:=Int.fmod_nonneg_of_pos a h
  have h2:=Int.fmod_lt_of_pos a h
  omega
def Zia{a b:Int}(hb:0 < b):(a % b).toNat < b.toNat:=by
 have h1:=Yv a (Int.ne_of_gt hb)
 have h2:=Yw a hb
 omega
theorem ZlR(i:Int):(if i < 0 then -i else i)=(i.natAbs:Int):=by
 split <;> omega
def ZqA(a b:Int):Int.gcd (a.natAbs:Int) (b.natAbs:Int)=Int.gcd a b:=by
 simp [Int.gcd]
def Js(t b:Int):Int:=if b < 0 then -(Int.gcd t b:Int) else (Int.gcd t b:Int)
def Ziy{t b:Int}(hb:b ≠ 0):Js t b ≠ 0:=by
 have h:=VN t hb
 unfold Js
 split <;> omega
def Zbz(t b:Int):Js t b ∣ t:=by
 unfold Js
 split
 ·exact Int.neg_dvd.mpr (Int.gcd_dvd_left t b)
 ·exact Int.gcd_dvd_left t b
def Za7(t b:Int):Js t b ∣ b:=by
 unfold Js
 split
 ·exact Int.neg_dvd.mpr (Int.gcd_dvd_right t b)
 ·exact Int.gcd_dvd_right t b
def ZiN(t b:Int):(Js t b).natAbs=Int.gcd t b:=by
 unfold Js
 split <;> simp
def Zcm{a d:Int}(h:d ∣ a):a.fdiv d=a / d:=by
 rw [Int.fdiv_eq_ediv_of_dvd h]
def ZoI{t b:Int}(hb:b ≠ 0):0 < b / Js t b:=by
 have hg:=VN t hb
 obtain⟨k,hk⟩:=Za7 t b
 have e:b / Js t b=k:=Int.ediv_eq_of_eq_mul_right (Ziy hb) hk
 rw [e]
 unfold Js at hk
 generalize hG:(Int.gcd t b:Int)=g at hk
 have hg':0 < g:=by omega
 by_cases h:0 < k
 ·exact h
 ·exfalso
  have h2:0<=g * (-k):=Int.mul_nonneg (by omega) (by omega)
  have h3:g * (-k)=-(g * k):=Int.mul_neg g k
  split at hk
  ·have h4:-g * k=-(g * k):=Int.neg_mul g k
   omega
  ·omega
def ZuV{t b:Int}(hb:b ≠ 0):Int.gcd (t / Js t b) (b / Js t b)=1:=by
 rw [Int.gcd_ediv (Zbz t b) (Za7 t b),ZiN]
 exact Nat.div_self (VN t hb)
def ZbU{t b:Int}(hb:b ≠ 0):t / Js t b=(Rat.divInt t b).num/\b / Js t b=((Rat.divInt t b).den:Int):=by
 have hp:=ZoI (t:=t) hb
 have hc:=ZuV (t:=t) hb
 have hn:=Ziy (t:=t) hb
 have e1:t=Js t b * (t / Js t b):=(Int.mul_ediv_cancel' (Zbz t b)).symm
 have e2:b=Js t b * (b / Js t b):=(Int.mul_ediv_cancel' (Za7 t b)).symm
 have hden:(b / Js t b).toNat ≠ 0:=by omega
 have hcop:(t / Js t b).natAbs.Coprime (b / Js t b).toNat:=by
  have:(b / Js t b).natAbs=(b / Js t b).toNat:=by omega
  rw [<- this]; exact hc
 have key:Rat.divInt t b=⟨t / Js t b,(b / Js t b).toNat,hden,hcop⟩:=by
  have:Rat.divInt (t / Js t b) (((b / Js t b).toNat:Nat):Int)=⟨t / Js t b,(b / Js t b).toNat,hden,hcop⟩:=by
   rw [Rat.divInt_ofNat]
   exact Rat.mkRat_self ⟨t / Js t b,(b / Js t b).toNat,hden,hcop⟩
  rw [<- this]
  rw [Rat.divInt_eq_divInt_iff hb (by omega)]
  have e3:(((b / Js t b).toNat:Nat):Int)=b / Js t b:=by omega
  rw [e3]
  conv=>lhs; rw [e1]
  conv=>rhs; rw [e2]
  grind
 constructor
 ·rw [key]
 ·rw [key]; show b / Js t b=(((b / Js t b).toNat:Nat):Int); omega
def Za0{x y:Int}{a b:Nat}(hx:x.natAbs < 2 ^ a)(hy:y.natAbs < 2 ^ b):(x * y).natAbs < 2 ^ (a + b):=by
 rw [Int.natAbs_mul,Nat.pow_add]
 exact Nat.mul_lt_mul'' hx hy
def Zbc{a c n:Nat}(h:n < 2 ^ a)(hac:a<=c):n < 2 ^ c:=Yq h (V1 (by decide) hac)
def ZfG{x y:Int}{a b c:Nat}(hx:x.natAbs < 2 ^ a)(hy:y.natAbs < 2 ^ b)(ha:a<=c)(hb:b<=c):(x + y).natAbs < 2 ^ (c + 1):=by
 have h1:=Zbc hx ha
 have h2:=Zbc hy hb
 rw [Nat.pow_succ]
 omega
def Zgx{t b:Int}(hb:b ≠ 0):(Rat.divInt t b).num.natAbs<=t.natAbs:=by
 rw [<- (ZbU hb).1]
 exact Int.natAbs_ediv_le_natAbs _ _
def Zf1{t b:Int}(hb:b ≠ 0):(Rat.divInt t b).den<=b.natAbs:=by
 have h:((Rat.divInt t b).den:Int).natAbs<=b.natAbs:=by
  rw [<- (ZbU (t:=t) hb).2]
  exact Int.natAbs_ediv_le_natAbs _ _
 simpa using h
def ZbC{n k:Nat}(h:n < 2 ^ k)(hk:0 < k):n.log2 < k:=by
 by_cases h0:n=0
 ·rw [h0]; simpa using hk
 ·exact (Nat.log2_lt h0).mpr h
def ZfB{t b:Int}(hb:b ≠ 0):Int.gcd t b<=b.natAbs:=Nat.le_of_dvd (by omega) (Nat.gcd_dvd_right _ _)
def JN(n:Nat)(q:Rat):Prop:=q.num.natAbs < 2 ^ n/\q.den < 2 ^ n
theorem JN.mono{n m:Nat}{q:Rat}(h:JN n q)(hm:n<=m):JN m q:=⟨Zbc h.1 hm,Zbc h.2 hm⟩
theorem JN.of{n:Nat}{t b:Int}(hb:b ≠ 0)(ht:t.natAbs < 2 ^ n)(hb2:b.natAbs < 2 ^ n):JN n (Rat.divInt t b) :=
 ⟨YN (Zgx hb) ht,YN (Zf1 hb) hb2⟩
def Zbr(q:Rat):(q.den:Int) ≠ 0:=by have:=q.den_pos; omega
theorem Zfw(p q:Rat):p + q=Rat.divInt (p.num * q.den + q.num * p.den) (p.den * q.den):=by
 conv=>lhs; rw [<- Va p,<- Va q]
 exact Rat.divInt_add_divInt _ _ (Zbr p) (Zbr q)
def Zfs(p q:Rat):p - q=Rat.divInt (p.num * q.den - q.num * p.den) (p.den * q.den):=by
 conv=>lhs; rw [<- Va p,<- Va q]
 exact Rat.divInt_sub_divInt _ _ (Zbr p) (Zbr q)
def Zm9(p q:Rat):p < q ↔ p.num * q.den < q.num * p.den:=Rat.lt_iff p q
def Zfp(p q:Rat):(p.den:Int) * q.den ≠ 0:=Int.mul_ne_zero (Zbr p) (Zbr q)
end My
set_option Elab.async false
set_option maxRecDepth 100000
namespace My
open PySem PySem.Spec L2
open PyProof.Rows hiding St
def ZA:Expr->Bool
 | .Starred ..=>false
 | _=>true
def ZC{e:Expr}{es:List Expr}{env:Env}(h:ZA e=true):starEach (e :: es) env=(false,eval e env) :: starEach es env:=by
 cases e <;> first | rfl | cases h
def Zdp{env:Env}{pos:Pos}:∀ {es:List Expr},es.all ZA=true->(backTo pos (starEach es env)).any (·.1)=false
 | [],_=>rfl
 | e :: es,h=>by
  rw [List.all_cons,Bool.and_eq_true] at h
  rw [ZC h.1]
  have:=Zdp (env:=env) (pos:=pos) h.2
  unfold backTo at this ⊢
  simpa using this
section
variable {X:Cx}{e:Expr}{es:List Expr}{te:TE}{t:TA}{pos p:Pos}{x:Str}{id T:String}{r:List V->Hp->VK->Prop}
def ZuO(ha:PE X e te)(hr:PA X es t)(hp:ZA e=true:=by rfl):PA X (e :: es) (Zj2 te t):=Zqm ha hr (ZC hp)
def Jo{e:Expr}{es:List Expr}(h:(e :: es).all ZA=true):ZA e=true/\es.all ZA=true:=by
 rw [List.all_cons,Bool.and_eq_true] at h
 exact h
def ZhA(hc:JM X (.builtin id) r)(hg:Gl X x)(hm:X.mg x=none)(hv:bootBuiltins x=some (.builtin id))(ha:PA X (e :: es) t)(hp:(e :: es).all ZA=true:=by rfl)(hn:x ≠ "__name__":=by decide)(hdb:(x == ("__debug__":Str))=false:=by decide) :
  PE X (.Call (.Name x p) (e :: es) [] pos) (tCB r t):=Zci hc hg hm hv ha hn hdb (ZC (Jo hp).1) (Zdp (Jo hp).2)
end
structure Fn(P:Program)(w:World)(K:PySem.W.Frag)(mg:Str->Option Value)(base:Heap)(CX:CXT)(k:Nat)(x:Str)(ps:List Str)(sp:Sp):Prop where
 ex:∃ (f:Addr) (fd:FuncData),FnOk P w K mg base CX k f fd ps sp/\Zy K fd ps []/\keepIn K (.ref f)=true/\mg x=some (.ref f)
section
variable {X:Cx}{CX:CXT}{j k:Nat}{x:Str}{ps:List Str}{sp:Sp}{p pos:Pos}{e:Expr}{es:List Expr}{t:TA}
def Zt4(F:Fn X.prog X.w X.K X.mg X.base Zx j x ps sp)(hr:Room k X.A)(hj:j<=k)(hg:Gl X x)(ha:PA X (e :: es) t)(hp:(e :: es).all ZA=true:=by rfl)(hdb:(x == ("__debug__":Str))=false:=by decide) :
  PE X (.Call (.Name x p) (e :: es) [] pos) (Zh3 sp [] E0 t):=by
 obtain⟨f,fd,G,b,kp,m⟩:=F.ex
 exact Zk6 G (hr.mono hj) hg m kp b .nil ZnG ha hdb (ZC (Jo hp).1) (Zdp (Jo hp).2)
end
section
variable {X:Cx}
def ZnH:OpR X (binaryOp .FloorDiv) (rI (λ_ j=>j ≠ 0/\j.natAbs.log2 < 9000) λi j=>.int (i.fdiv j)) :=
 opI λ_ _ _ _ _ _ _ hc q=>floordiv_int hc.1 q (.inl (PyProof.noPylong_of_log2 hc.2))
def ZpT:OpR X (binaryOp .Mult) (rI IntMulOk λi j=>.int (i * j)):=opI λ_ _ _ _ _ _ _ hc q=>mul_int q hc
end
def Zdl(H:Hp):V->Option String
 | .non=>some "NoneType"
 | .bl _=>some "bool"
 | .int _=>some "int"
 | .str _=>some "str"
 | .ref a=>match H a with
  | some (.lst _)=>some "list"
  | some (.tup _)=>some "tuple"
  | some (.dK _)=>some "dict"
  | _=>none
 | _=>none
def Zql:List String:=["NoneType","bool","int","str","list","tuple","dict"]
def Znd:List String:=["bool","int","str","list","tuple","dict"]
def isA(t n:String):Bool:=t == n || (t == "bool" && n == "int")
def Zqr(H:Hp)(x:Bool):Zdl H (.bl x)=some "bool":=rfl
def ZnS(H:Hp)(i:Int):Zdl H (.int i)=some "int":=rfl
theorem Zgu{H:Hp}{a:Addr}{xs:List V}(h:H a=some (.tup xs)):Zdl H (.ref a)=some "tuple":=by unfold Zdl; dsimp only; rw [h]
theorem ZnZ{H:Hp}{a:Addr}{xs:List V}(h:H a=some (.lst xs)):Zdl H (.ref a)=some "list":=by unfold Zdl; dsimp only; rw [h]
def ZpR:("int"∈Znd)=True:=eq_true (by decide)
def Zn3:("bool"∈Znd)=True:=eq_true (by decide)
def ZkO:("tuple"∈Znd)=True:=eq_true (by decide)
def ZoL:("list"∈Znd)=True:=eq_true (by decide)
def Zq7:("str"∈Znd)=True:=eq_true (by decide)
def ZsU:isA "bool" "bool"=true:=by decide
def Zrp:isA "bool" "int"=true:=by decide
def ZsT:isA "int" "int"=true:=by decide
def Zss:isA "int" "bool"=false:=by decide
def ZsO:isA "tuple" "tuple"=true:=by decide
def Zsn:isA "list" "list"=true:=by decide
def Zn8{K:PySem.W.Frag}{H:Hp}{x:V}{t:String}(e:Zdl H x=some t):TyOf K H x (.type t)/\t∈Zql:=by
 unfold Zdl at e
 split at e
 ·cases e; exact⟨.non,by decide⟩
 ·cases e; exact⟨.bl _,by decide⟩
 ·cases e; exact⟨.int _,by decide⟩
 ·cases e; exact⟨.str _,by decide⟩
 ·split at e
  ·cases e; exact⟨.lst (by assumption),by decide⟩
  ·cases e; exact⟨.tup (by assumption),by decide⟩
  ·cases e; exact⟨.dK (by assumption),by decide⟩
  ·cases e
 ·cases e
def ZkM(K:PySem.W.Frag):∀ t∈Zql,∀ n∈Znd,kitOne K (.type t) (.type n)=some (isA t n):=by
 intro t ht n hn
 simp only [Zql,Znd,List.mem_cons,List.not_mem_nil,or_false] at ht hn
 rcases ht with rfl | rfl | rfl | rfl | rfl | rfl | rfl <;> rcases hn with rfl | rfl | rfl | rfl | rfl | rfl <;> rfl
section
variable {X:Cx}
def Zlt:JM X (.builtin "isinstance") (λxs H Q=>∃ x n t,xs=[x,.ty n]/\Zdl H x=some t/\n∈Znd/\Q (.bl (isA t n)) H):=by
 intro pins s Z H xs us Q I r h
 obtain⟨x,n,t,rfl,e,hn,q⟩:=h
 obtain⟨u,v,rfl,ru,rv⟩:=ZkY r
 cases (show v=Value.type n from rv)
 obtain⟨ty,ht⟩:=Zn8 (K:=X.K) e
 exact Zhl I ru ty (ZkM X.K t ht n hn) λtk=>⟨.bl (isA t n),H,I.tok tk,rfl,q⟩
def ZtK{x:Str}{T:String}{pos:Pos}(hg:Gl X x)(hm:X.mg x=none)(hv:bootBuiltins x=some (.type T))(hn:x ≠ "__name__":=by decide)(hd:(x == ("__debug__":Str))=false:=by decide):PE X (.Name x pos) (tC (.ty T)) :=
 ZpW hg hm hv rfl hn hd
end
section
variable {X:Cx}{e:Expr}{es:List Expr}{te:TE}{t:TA}{pos:Pos}
theorem ZH{H:Hp}{p:Addr}(h:H p=none)(o:HO):Zn H (upd H p o):=λb u q=>by rw [Zj (Zo q h)]; exact q
def Znv(t:TA):TE:=λZ H Q=>t Z H λxs H1=>xs.length<=1000/\∀ p H2,H1 p=none->Zn H1 H2->H2 p=some (.tup xs)->Q (.ref p) H2
def Zns(t:TA):TE:=λZ H Q=>t Z H λxs H1=>xs.length<=1000/\∀ p H2,H1 p=none->Zn H1 H2->H2 p=some (.lst xs)->Q (.ref p) H2
def Zhn{n:Nat}(h:n<=1000):n<=sizeLine:=Yt (ZgS h)
def Zq6{x1}(h:PA X es t):PE X (.Tuple es x1 pos) (Znv t):=by
 intro pins s Z H Q I hq
 refine wpAny_Tuple_spliced (Jl (h pos pins s Z H _ I hq) λus s1 ⟨xs,H1,I1,r,z,q⟩=>⟨by rw [<- r.length]; exact Zhn z,?_⟩)
 have hf:H1 s1.heap.objs.size=none:=I1.hok.fresh (Yd _)
 refine⟨.ref s1.heap.objs.size,upd H1 s1.heap.objs.size (.tup xs),I1.laid (t':=s1.toks) (λb u e=>Yg _ e) (Yd _) ?_,rfl,q _ _ hf (ZH hf _) Zi⟩
 exact⟨Zhn z,us,r,⟨_,Ym _ rfl,rfl,_,rfl⟩⟩
def Zq3(h:PA X es t):PE X (.List es pos) (Zns t):=by
 intro pins s Z H Q I hq
 refine wpAny_List_spliced (Jl (h pos pins s Z H _ I hq) λus s1 ⟨xs,H1,I1,r,z,q⟩=>⟨by rw [<- r.length]; exact Zhn z,?_⟩)
 have hf:H1 s1.heap.objs.size=none:=I1.hok.fresh (Yd _)
 refine⟨.ref s1.heap.objs.size,upd H1 s1.heap.objs.size (.lst xs),I1.laid (t':=s1.toks) (λb u e=>Yg _ e) (Yd _) ?_,rfl,q _ _ hf (ZH hf _) Zi⟩
 exact⟨Zhn z,us,0,r,Ym _ rfl⟩
def Zpo{r r':R2}(h:IxR X r)(i:∀ x y H Q,r' x y H Q->r x y H Q):IxR X r' :=
 λvalue slice pins s Z H x y v u Q I rx ry q hs=>h value slice pins s Z H x y v u Q I rx ry (i x y H Q q) hs
def Zdr:R2:=λx y H Q=>∃ p xs i v,x=.ref p/\y=.int i/\H p=some (.tup xs)/\atI xs i=some v/\Q v H
def ZnQ:R2:=λx y H Q=>∃ p xs i v,x=.ref p/\y=.int i/\H p=some (.lst xs)/\atI xs i=some v/\Q v H
def Zqg:IxR X Zdr:=Zpo ZsG λ_ _ _ _ ⟨p,xs,i,v,h1,h2,h3,h4,q⟩=>⟨p,xs,i,v,h1,h2,SqT.of h3,h4,q⟩
def ZqS:IxR X ZnQ:=Zpo ZmZ λ_ _ _ _ ⟨p,xs,i,v,h1,h2,h3,h4,q⟩=>⟨p,xs,i,v,h1,h2,JY.of h3,h4,q⟩
def Zl2:JM X (.builtin "len") (λxs H Q=>∃ p ys,xs=[.ref p]/\(H p=some (.lst ys)\/H p=some (.tup ys))/\Q (.int ys.length) H) :=
 λpins s Z H xs us Q I r ⟨p,ys,h1,h2,q⟩=>Zd4 pins s Z H xs us Q I r ⟨p,ys,h1,h2.imp JY.of SqT.of,q⟩
def Ztq(to:TE)(t:TA):TE:=λZ H Q=>to Z H λx H1=>∃ l zs,x=.ref l/\H1 l=some (.lst zs)/\t Z H1 λvs H2=>∃ y xs,vs=[y]/\H2 l=some (.lst xs)/\xs.length < 1000000/\Q .non (upd H2 l (.lst (xs ++ [y])))
def Zuu{n:Nat}(h:n < 1000000):n < sizeLine:=Nat.lt_trans h (by decide)
def ZlQ{o:Expr}{to:TE}{apos cpos:Pos}(ho:PE X o to)(ha:PA X (e :: es) t)
  (hbase:attributeBase o "append" X.env (eval o X.env)=eval o X.env:=by rfl)
  (hfew:((backTo cpos (starEach (e :: es) X.env)).all (λx=>!x.1) && (backToKw cpos (keywordEach [] X.env)).all (λx=>x.1.isSome)
   && decide ((e :: es).length + ([]:List Keyword).length + (if ([]:List Keyword).isEmpty then 0 else 1) < 30))=true:=by rfl)
  (hline:(apos.endLine == cpos.line)=true:=by rfl) (hs:starEach (e :: es) X.env=(false,eval e X.env) :: starEach es X.env:=by rfl) (hplain:(backTo cpos (starEach es X.env)).any (·.1)=false:=by rfl) :
  PE X (.Call (.Attribute o "append" apos) (e :: es) [] cpos) (Ztq to t):=by
 intro pins s Z H Q I h
 refine wpAny_Call_method_late hbase hfew hline rfl (Jl (ho pins s Z H _ I h) λv s1 ⟨x,H1,I1,r1,l,zs,e1,e2,q1⟩=>?_)
 obtain⟨h1,h2⟩:=Zpk (T:="list") I1 r1 (by rw [e1]; exact .inl ⟨rfl,zs,JY.of e2⟩)
 refine⟨"list","list.append",PySem.F.plainAttrs_list,PySem.F.slot_list_append,PySem.F.type_list_append,h1,h2,?_⟩
 have hA:=ha cpos pins s1 Z H1 _ I1 q1
 rw [hs] at hA ⊢
 refine VQ (by show (false || (backTo cpos (starEach es X.env)).any (·.1))=false; rw [hplain] <;> rfl) (VT ?_)
 exact Jl hA λus s2 ⟨vs,H2,I2,r2,y,xs,e3,e4,z,q2⟩=>ZgU pins s2 Z H2 x vs v us Q I2 r1 r2 ⟨l,xs,y,e1,e3,e4,Zuu z,q2⟩
theorem ZE{H H':Hp}{p:Addr}{o:HO}(hp:H p=none)(hs:Zn H H'):Zn H (upd H' p o):=λb u q=>by rw [Zj (Zo q hp)]; exact hs b u q
def Zon(n:Nat)(t:TGs):TG:=λv Z H Q=>∃ a xs,v=.ref a/\H a=some (.tup xs)/\xs.length=n/\t xs Z H Q
def ZqU{es:List Expr}{k:Nat}{t:TGs}{n:Nat}(hc:X.calm=true)(h:PGs X es t)
  (hn:(assignEach es X.env).length=n:=by rfl) (hst:(assignEach es X.env).findIdx? (·.1)=none:=by rfl):PG X (.Tuple es k pos) (Zon n t) :=
 λpins s Z H v u Q I r ⟨a,xs,h1,h2,h3,q⟩=>Zsy hc h hn hst pins s Z H v u Q I r ⟨a,xs,h1,SqT.of h2,h3,q⟩
end
def ZuZ{α:Type}(x:α)(xs:List α):atI (x :: xs) 0=some x:=ZY (j:=0) rfl
def Zu1{α:Type}(x y:α)(xs:List α):atI (x :: y :: xs) 1=some y:=ZY (j:=1) rfl
def ZuY{α:Type}(x y z:α)(xs:List α):atI (x :: y :: z :: xs) 2=some z:=ZY (j:=2) rfl
def Zu6{α:Type}(x y z u:α)(xs:List α):atI (x :: y :: z :: u :: xs) 3=some u:=ZY (j:=3) rfl
def cellOf(ns:List Int)(k:Nat):Int:=ns.getD k (2 * (k:Int) + 1)
def Zqb{ns:List Int}{k:Nat}(h:k < ns.length):atI (ns.map V.int) (k:Int)=some (.int (cellOf ns k)):=by
 refine ZY ?_
 rw [Yh,Yc h]
 simp [cellOf,List.getD,List.getElem?_eq_getElem h]
def Zot{ns:List Int}{k:Nat}(h:¬ k < ns.length):cellOf ns k=2 * (k:Int) + 1:=by
 unfold cellOf
 rw [List.getD,YS (by omega)]
 rfl
def Zn9(Z:St)(i:Nat):Int:=match Z[i]? with
 | some (some (.int m))=>m
 | _=>0
def ZfP{c:TT}{tb:TS}{D:Ends}{Z:St}{H:Hp}(Pv:St->Hp->Prop)(μ:St->Hp->Nat)(h0:Pv Z H)
  (hs:∀ Z H,Pv Z H->c Z H λb H1=>if b=true then ∃ N:St->Hp->Prop,(∀ Z' H',N Z' H'->∃ m',m' < μ Z H/\(m'=μ Z' H'/\Pv Z' H'))/\tb { D with nx:=N,ct:=N,bk:=D.nx } Z H1 else D.nx Z H1):Zmy c tb D Z H:=by
 refine⟨λm Z H=>m=μ Z H/\Pv Z H,⟨_,rfl,h0⟩,?_⟩
 rintro m Z H ⟨rfl,p⟩
 exact hs Z H p
structure QE(X:Cx)(e:Expr)(t:TE):Prop where
 h:PE X e t
structure QT(X:Cx)(e:Expr)(t:TT):Prop where
 h:PT X e t
structure QW(X:Cx)(e:Expr)(t:TT):Prop where
 h:PW X e t
structure QA(X:Cx)(es:List Expr)(t:TA):Prop where
 h:PA X es t
structure QS(X:Cx)(st:Stmt)(t:TS):Prop where
 h:PS X st t
structure QB(X:Cx)(sts:List Stmt)(t:TS):Prop where
 h:PSs X sts t
structure QI(X:Cx)(tg it:Expr)(t:TI):Prop where
 h:PI X tg it t
structure QG(X:Cx)(tg:Expr)(t:TG):Prop where
 h:PG X tg t
structure QGs(X:Cx)(tgs:List Expr)(t:TGs):Prop where
 h:PGs X tgs t
section
variable {X:Cx}{a b c e:Expr}{es Jh:List Expr}{ta tb tc te:TE}{tA tB':TT}{t:TA}{pos p:Pos}{x:Str}
def Zf(i:Nat)(hN:X.N[i]?=some x:=by rfl)(hv:Vis X.env.scope x:=by first | exact Or.inl rfl | exact Or.inr (Or.inl rfl) | exact Or.inr (Or.inr rfl))(hd:(x == ("__debug__":Str))=false:=by decide)
  (hcd:(x == ("__classdict__":Str))=false:=by decide):QE X (.Name x pos) (Zis i):=⟨ZpC hN hv hd hcd⟩
def Zc{i j}:QE X (.Constant (.int i) j pos) (tC (.int i)):=⟨Zrr⟩
def Zh5{k j}:QE X (.Constant (.bool k) j pos) (tC (.bl k)):=⟨ZtC⟩
def ZsC{j}:QE X (.Constant .none j pos) (tC .non):=⟨ZsY⟩
def ZN{y j}:QE X (.Constant (.str y) j pos) (tC (.str y)):=⟨Zr3⟩
def Zm5{T:String}(hg:Gl X x)(hm:X.mg x=none)(hv:bootBuiltins x=some (.type T))(hn:x ≠ "__name__":=by decide)(hd:(x == ("__debug__":Str))=false:=by decide):QE X (.Name x pos) (tC (.ty T)):=⟨ZtK hg hm hv hn hd⟩
def ZmY{a:Addr}(hg:Gl X x)(hm:X.mg x=some (.ref a))(hd:(x == ("__debug__":Str))=false:=by decide):QE X (.Name x pos) (tC (.ref a)):=⟨Zio hg hm rfl hd⟩
def Jd(ha:QE X a ta)(hb:QE X b tb):QE X (.BinOp a .Add b pos) (JT (rI0 λi j=>.int (i + j)) ta tb):=⟨Ze1 ZsQ ha.h hb.h⟩
def JS(ha:QE X a ta)(hb:QE X b tb):QE X (.BinOp a .Sub b pos) (JT (rI0 λi j=>.int (i - j)) ta tb):=⟨Ze1 Zr0 ha.h hb.h⟩
def JR(ha:QE X a ta)(hb:QE X b tb):QE X (.BinOp a .Mult b pos) (JT (rI Zrm λi j=>.int (i * j)) ta tb):=⟨Ze1 Zsd ha.h hb.h⟩
def ZbW(ha:QE X a ta)(hb:QE X b tb):QE X (.BinOp a .Mult b pos) (JT (rI IntMulOk λi j=>.int (i * j)) ta tb):=⟨Ze1 ZpT ha.h hb.h⟩
def Z4(ha:QE X a ta)(hb:QE X b tb):QE X (.BinOp a .Mod b pos) (JT (rI (λ_ j=>0 < j) λi j=>.int (i % j)) ta tb):=⟨Ze1 ZsJ ha.h hb.h⟩
def Zs2(ha:QE X a ta)(hb:QE X b tb):QE X (.BinOp a .Mod b pos) (JT (rI (λ_ j=>j ≠ 0) λi j=>.int (i.fmod j)) ta tb):=⟨Ze1 ZpN ha.h hb.h⟩
def Zfa(ha:QE X a ta)(hb:QE X b tb):QE X (.BinOp a .FloorDiv b pos) (JT (rI Zs9 λi j=>.int (i / j)) ta tb):=⟨Ze1 ZqW ha.h hb.h⟩
def Zdk(ha:QE X a ta)(hb:QE X b tb):QE X (.BinOp a .FloorDiv b pos) (JT (rI (λ_ j=>j ≠ 0/\j.natAbs.log2 < 9000) λi j=>.int (i.fdiv j)) ta tb):=⟨Ze1 ZnH ha.h hb.h⟩
def ZhS(ha:QE X a ta)(hb:QE X b tb):QE X (.BinOp a .Pow b pos) (JT (rI Ztp λi j=>.int (i ^ j.toNat)) ta tb):=⟨Ze1 ZrR ha.h hb.h⟩
def ZhE(ha:QE X a ta)(hb:QE X b tb):QE X (.BinOp a .Add b pos) (JT Ztu ta tb):=⟨Ze1 Zr9 ha.h hb.h⟩
def Zsx(ha:QE X a ta)(hb:QE X b tb):QE X (.BinOp a .Add b pos) (JT (λx y H Q=>∃ i j,x=.str i/\y=.str j/\i.length + j.length<=sizeLine/\Q (.str (i ++ j)) H) ta tb):=⟨Ze1 Zju ha.h hb.h⟩
def ZrT(ha:QE X a ta):QE X (.UnaryOp .USub a pos) (tUn (rU λi=>.int (-i)) ta):=⟨ZtN ZsR ha.h⟩
def Zs0(ha:QE X a ta):QE X (.UnaryOp .Not a pos) (Znn ta):=⟨Zsj ha.h⟩
def Zhw{op}(ha:QE X a ta):QE X (.BoolOp op [a] pos) ta:=⟨Zsi ha.h⟩
def Zgt(ha:QE X a ta)(hb:QE X (.BoolOp .And (b :: Jh) pos) tb):QE X (.BoolOp .And (a :: b :: Jh) pos) (ZnY ta tb):=⟨Zrw ha.h hb.h⟩
def Zui(ha:QE X a ta)(hb:QE X b tb):QE X (.Compare a [.Eq] [b] pos) (JT rEq ta tb):=⟨ZdQ Zs8 ha.h hb.h (Zcx _)⟩
def ZuX(ha:QE X a ta)(hb:QE X b tb):QE X (.Compare a [.Lt] [b] pos) (JT (rI0 λi j=>.bl (decide (i < j))) ta tb):=⟨ZdQ Zp9 ha.h hb.h (Zcx _)⟩
def Zut(ha:QE X a ta)(hb:QE X b tb):QE X (.Compare a [.GtE] [b] pos) (JT (rI0 λi j=>.bl (decide (j<=i))) ta tb):=⟨ZdQ ZrN ha.h hb.h (Zcx _)⟩
def JD(ha:QE X e te)(he:∀ whole,isTrue e X.env whole=(do let v <- whole; standAt e.pos; holding [v] (truthy v)):=by intro _; rfl):QT X e (tB te):=⟨Zrs ha.h he⟩
def JO(ha:QT X a tA):QT X (.UnaryOp .Not a pos) (Ztb tA):=⟨Zso ha.h⟩
def Zc4(ha:QT X a tA):QW X (.BoolOp .And [a] pos) tA:=⟨ZqL ha.h⟩
def ZdD(ha:QT X a tA):QW X (.BoolOp .Or [a] pos) tA:=⟨Zrq ha.h⟩
def Zfm(ha:QT X a tA)(hb:QW X (.BoolOp .And (b :: Jh) pos) tB'):QW X (.BoolOp .And (a :: b :: Jh) pos) (Ztf tA tB'):=⟨ZrA ha.h hb.h⟩
def J3(ha:QT X a tA)(hb:QW X (.BoolOp .Or (b :: Jh) pos) tB'):QW X (.BoolOp .Or (a :: b :: Jh) pos) (tOr tA tB'):=⟨ZtH ha.h hb.h⟩
def t_w(h:QW X e tA):QT X e tA:=⟨h.h.pt⟩
def JX(ha:QE X a ta)(hb:QE X b tb):QT X (.Compare a [.Eq] [b] pos) (JF (JT rEq ta tb)):=⟨Zc9 Zs8 ha.h hb.h (Zcx _)⟩
def Zjm(ha:QE X a ta)(hb:QE X b tb):QT X (.Compare a [.NotEq] [b] pos) (JF (JT rNe ta tb)):=⟨Zc9 ZtU ha.h hb.h (Zcx _)⟩
def Zri(ha:QE X a ta)(hb:QE X b tb):QT X (.Compare a [.Lt] [b] pos) (JF (JT (rI0 λi j=>.bl (decide (i < j))) ta tb)):=⟨Zc9 Zp9 ha.h hb.h (Zcx _)⟩
def ZpB(ha:QE X a ta)(hb:QE X b tb):QT X (.Compare a [.Gt] [b] pos) (JF (JT (rI0 λi j=>.bl (decide (j < i))) ta tb)):=⟨Zc9 ZtP ha.h hb.h (Zcx _)⟩
def Zto(ha:QE X a ta)(hb:QE X b tb):QT X (.Compare a [.GtE] [b] pos) (JF (JT (rI0 λi j=>.bl (decide (j<=i))) ta tb)):=⟨Zc9 ZrN ha.h hb.h (Zcx _)⟩
def Zb:QA X [] Zrl:=⟨ZsX⟩
def Zl(ha:QE X e te)(hr:QA X es t)(hp:ZA e=true:=by rfl):QA X (e :: es) (Zj2 te t):=⟨ZuO ha.h hr.h hp⟩
def Jv{x1}(h:QA X es t):QE X (.Tuple es x1 pos) (Znv t):=⟨Zq6 h.h⟩
def Jz(h:QA X es t):QE X (.List es pos) (Zns t):=⟨Zq3 h.h⟩
def Zr(ha:QE X a ta)(hb:QE X b tb)(hs:Zeo b:=by intro _ _; rfl):QE X (.Subscript a b pos) (JT Zdr ta tb):=⟨Zoq Zqg ha.h hb.h hs⟩
def ZT(ha:QE X a ta)(hb:QE X b tb)(hs:Zeo b:=by intro _ _; rfl):QE X (.Subscript a b pos) (JT ZnQ ta tb):=⟨Zoq ZqS ha.h hb.h hs⟩
def Zuh(ha:QE X a ta)(hb:QE X b tb)(hs:Zeo b:=by intro _ _; rfl):QE X (.Subscript a b pos) (JT (Ztc X.K) ta tb):=⟨Zoq ZmZ ha.h hb.h hs⟩
def JE(hg:Gl X "len")(hm:X.mg "len"=none)(ha:QA X (e :: es) t)(hp:(e :: es).all ZA=true:=by rfl) :
  QE X (.Call (.Name "len" p) (e :: es) [] pos) (tCB (λxs H Q=>∃ p ys,xs=[.ref p]/\(H p=some (.lst ys)\/H p=some (.tup ys))/\Q (.int ys.length) H) t):=⟨ZhA Zl2 hg hm PySem.boot_len ha.h hp⟩
def Zpw(hg:Gl X "len")(hm:X.mg "len"=none)(ha:QA X (e :: es) t)(hp:(e :: es).all ZA=true:=by rfl) :
  QE X (.Call (.Name "len" p) (e :: es) [] pos) (tCB (λxs H Q=>∃ p ys,xs=[.ref p]/\(JY X.K H p ys\/SqT X.K H p ys)/\Q (.int ys.length) H) t):=⟨ZhA Zd4 hg hm PySem.boot_len ha.h hp⟩
def ZpP(hg:Gl X "abs")(hm:X.mg "abs"=none)(ha:QA X (e :: es) t)(hp:(e :: es).all ZA=true:=by rfl) :
  QE X (.Call (.Name "abs" p) (e :: es) [] pos) (tCB (λxs H Q=>∃ i,xs=[.int i]/\Q (.int (if i < 0 then -i else i)) H) t):=⟨ZhA Znp hg hm (by rfl) ha.h hp⟩
def Zc6(hg:Gl X "isinstance")(hm:X.mg "isinstance"=none)(ha:QA X (e :: es) t)(hp:(e :: es).all ZA=true:=by rfl) :
  QE X (.Call (.Name "isinstance" p) (e :: es) [] pos) (tCB (λxs H Q=>∃ x n t,xs=[x,.ty n]/\Zdl H x=some t/\n∈Znd/\Q (.bl (isA t n)) H) t):=⟨ZhA Zlt hg hm (by rfl) ha.h hp⟩
variable {j k:Nat}{ps:List Str}{sp:Sp}
def Zu2(F:Fn X.prog X.w X.K X.mg X.base Zx j x ps sp)(hr:Room k X.A)(hj:j<=k)(hg:Gl X x)(ha:QA X (e :: es) t)(hp:(e :: es).all ZA=true:=by rfl)(hdb:(x == ("__debug__":Str))=false:=by decide) :
  QE X (.Call (.Name x p) (e :: es) [] pos) (Zh3 sp [] E0 t):=⟨Zt4 F hr hj hg ha.h hp hdb⟩
theorem JB(F:Fn X.prog X.w X.K X.mg X.base Zx j x ps sp)(hr:Room k X.A)(ha:QA X (e :: es) t)(hj:j<=k:=by decide)(hg:Gl X x:=by rfl)(hp:(e :: es).all ZA=true:=by rfl)(hdb:(x == ("__debug__":Str))=false:=by decide):QE X (.Call (.Name x p) (e :: es) [] pos) (Zh3 sp [] E0 t):=Zu2 F hr hj hg ha hp hdb
def Zim{o:Expr}{to:TE}{apos cpos:Pos}(ho:QE X o to)(ha:QA X [e] t)(hbase:attributeBase o "append" X.env (eval o X.env)=eval o X.env:=by rfl)(hline:(apos.endLine == cpos.line)=true:=by rfl)(hp:ZA e=true:=by rfl) :
  QE X (.Call (.Attribute o "append" apos) [e] [] cpos) (Ztq to t) :=
 ⟨ZlQ ho.h ha.h hbase (by rw [ZC hp]; rfl) hline (ZC hp) rfl⟩
end
section
variable {X:Cx}{st:Stmt}{Jh a b body:List Stmt}{t u tb:TS}{e c tg it:Expr}{te:TE}{tc:TT}{pos:Pos}{g:TG}{wi:TI}
def ZG:QB X [] Zgp:=⟨Zp0⟩
def Zd(h1:QS X st t)(h2:QB X Jh u):QB X (st :: Jh) (Znj t u):=⟨Zof h1.h h2.h⟩
def Zk(h1:QS X st t):QB X [st] t:=⟨ZpZ h1.h⟩
def Zlu{sts:List Stmt}:QB X sts Zjo:=⟨Zlb⟩
def Zbq:QS X st Zjo:=⟨ZnL⟩
def Zu(he:QE X e te):QS X (.Return (some e) pos) (Zro te):=⟨Zsp he.h⟩
def Ja(hc:QT X c tc)(ha:QB X a t)(hb:QB X b u):QS X (.If c a b pos) (ZoS tc t u):=⟨Zt0 hc.h ha.h hb.h⟩
def ZR(he:QE X e te)(hs:swapsWith e none pos.line X.env=pure false:=by rfl):QS X (.Expr e pos) (ZoR te):=⟨ZqC he.h hs⟩
def Zw{x:Str}{pos':Pos}(i:Nat)(hN:X.N.Nodup)(he:QE X e te)(hi:X.N[i]?=some x:=by rfl)(hx:Loc X.env.scope x:=by first | exact Or.inl rfl | exact Or.inr rfl)(hs:swapsWith e (some (.Name x pos')) pos.line X.env=pure false:=by rfl)
  (hf:X.fn x=true\/X.env.scope.names.lookup x=some .local:=by first | exact .inl rfl | exact .inr rfl | assumption):QS X (.Assign [.Name x pos'] e pos) (Zm4 te (Zdb i)):=⟨Zsh hN hi hx he.h hs hf⟩
def Zub{x y:Str}{c d:Expr}{ta:TA}{px py pt:Pos}{kt k2 pt2}(i j:Nat)(hN:X.N.Nodup)(ha:QA X [c,d] ta)(hc:X.calm=true:=by rfl)(hi:X.N[i]?=some x:=by rfl)(hj:X.N[j]?=some y:=by rfl)(hij:i ≠ j:=by decide)
  (hx:X.env.scope.names.lookup x=some .local:=by rfl) (hy:X.env.scope.names.lookup y=some .local:=by rfl)
  (hw:swappedStores [.Tuple [.Name x px,.Name y py] kt pt] (.Tuple [c,d] k2 pt2) X.env=pure (some [x,y]):=by rfl)
  (hs:swapsWithSole [.Tuple [.Name x px,.Name y py] kt pt] (.Tuple [c,d] k2 pt2) pos.line X.env=pure false:=by rfl) :
  QS X (.Assign [.Tuple [.Name x px,.Name y py] kt pt] (.Tuple [c,d] k2 pt2) pos) (Ztn i j ta):=⟨ZrP hc hN hi hj hij hx hy ha.h hw hs⟩
def Zj9(he:QE X e te)(hg:QG X tg g)(hs:swapsWithSole [tg] e pos.line X.env=pure false:=by rfl)(hw:swappedStores [tg] e X.env=pure none:=by rfl)(h1:(assignEach [tg] X.env).map (·.2)=[assign tg X.env]:=by rfl):QS X (.Assign [tg] e pos) (Zm4 te g):=⟨ZrH he.h hg.h hs hw h1⟩
def Jq{x:Str}(i:Nat)(hN:X.N.Nodup)(hi:X.N[i]?=some x:=by rfl)(hx:Loc X.env.scope x:=by first | exact Or.inl rfl | exact Or.inr rfl)(hf:X.fn x=true\/X.env.scope.names.lookup x=some .local:=by first | exact .inl rfl | exact .inr rfl | assumption) :
  QG X (.Name x pos) (Zdb i):=⟨Zqi hN hi hx hf⟩
def ZsP:QGs X [] Zti:=⟨ZqG⟩
def Zlm{es:List Expr}{v:TGs}(h1:QG X e g)(h2:QGs X es v)(hs:(assignEach (e :: es) X.env).map (·.2)=assign e X.env :: (assignEach es X.env).map (·.2):=by rfl):QGs X (e :: es) (Znb g v):=⟨ZoV h1.h h2.h hs⟩
def Zum{es:List Expr}{k:Nat}{v:TGs}{n:Nat}(h:QGs X es v)(hc:X.calm=true:=by rfl)(hn:(assignEach es X.env).length=n:=by rfl)(hst:(assignEach es X.env).findIdx? (·.1)=none:=by rfl) :
  QG X (.Tuple es k pos) (Zon n v):=⟨ZqU hc h.h hn hst⟩
def Zgj(hp:PassesOwn (model X.prog X.w) X.A X.env X.xe)(hc:QT X c tc)(hb:QB X body tb):QS X (.While c body [] pos) (Zmy tc tb):=⟨ZnN hp hc.h hb.h⟩
def ZdW(hp:PassesOwn (model X.prog X.w) X.A X.env X.xe)(hi:QI X tg it wi)(hg:QG X tg g)(hb:QB X body tb)(hc:X.calm=true:=by rfl)(hs:∀ x,foldedSetIterable it X.env x=pure x:=by intro _; rfl) :
  QS X (.For tg it body [] pos) (Zqy wi g tb):=⟨Zru hp hc hi.h hg.h hb.h hs⟩
def Zdu(hl:QE X e te):QI X tg e (ZjS X.K te):=⟨Zq0 hl.h⟩
def Zfo{c:Expr}{ta:TA}{p:Pos}(hg:Gl X "range")(hm:X.mg "range"=none)(ha:QA X [c] ta)(hp:ZA c=true:=by rfl):QI X tg (.Call (.Name "range" p) [c] [] pos) (Zkl ta):=⟨ZkE hg hm ha.h (ZC hp)⟩
def Zpi{c d:Expr}{ta:TA}{p:Pos}(hg:Gl X "range")(hm:X.mg "range"=none)(ha:QA X [c,d] ta)(hp:ZA c=true:=by rfl)(hq:ZA d=true:=by rfl) :
  QI X tg (.Call (.Name "range" p) [c,d] [] pos) (ZpH ta):=⟨Zk4 hg hm ha.h (by rw [ZC hp,ZC hq]; rfl) (ZC hq)⟩
end
def okQ{P:Program}{w:World}{K:PySem.W.Frag}{mg:Str->Option Value}{base:Heap}{x qual:Str}{st:Stmt}{f:Addr}{fd:FuncData}{N ps:List Str}{k:Nat}{sp:Sp}(F:Fun K x qual st f fd)(S:FnScope N ps (Za st))(len:∀ vs H Q E,sp vs H Q E->vs.length=ps.length)
  (hbody:∀ (cdv:Value) (A:Around) (outer:List Env) (s:Shared) (H:Hp) (vs:List V) (Q:VK) (E:XK),Room k (A.deeper (envOfC qual (Za st) s.heap.objs.size f cdv))->sp vs H Q E ->
   ∃ t,QB (Zjl Zx P w K mg base N qual (Za st) f cdv A outer s H E).nox (Zg st) t/\t { nx:=λ_ H'=>Q .non H',rt:=Q } (Zv N vs) H):FnOk P w K mg base Zx (k + 1) f fd ps sp :=
 F.ok S len λcdv A outer s H vs Q E hr h=>by
  obtain⟨t,q,r⟩:=hbody cdv A outer s H vs Q E hr h
  exact⟨t,q.h,r⟩
def Zou{P:Program}{w:World}{H:Hp}{h:Heap}{a:Addr}{o:HO}(x:Ji P w H h a o):∃ u,h.get? a=some u:=by
 cases o with
 | lst xs=>obtain⟨_,_,_,_,e⟩:=x; exact⟨_,e⟩
 | tup xs=>obtain⟨_,_,_,u,e,_⟩:=x; exact⟨_,e⟩
 | dK kvs=>obtain⟨_,_,_,_,u,_,_,e,_⟩:=x; exact⟨u,e⟩
 | dT kvs=>obtain⟨_,_,_,_,u,_,_,e,_⟩:=x; exact⟨u,e⟩
 | set S n=>obtain⟨u,_,_,_,e,_⟩:=x; exact⟨_,e⟩
 | ins C dx fs=>obtain⟨_,_,_,e,_⟩:=x; exact⟨_,e⟩
 | own y=>exact x
 | xd fs=>obtain⟨_,⟨u,_,_,e,_⟩,_⟩:=x; exact⟨_,e⟩
 | rng lo hi=>obtain⟨_,_,_,e⟩:=x; exact⟨_,e⟩
 | frz ob u=>exact⟨_,x.1⟩
 | tbl ps=>obtain⟨_,e,_⟩:=x; exact⟨_,e⟩
 | met f y=>exact⟨_,x⟩
 | ext φ=>exact x.2.1
structure Cv(X:Cx)(pins:List (Addr × Obj))(B:Heap)(H:Hp):Prop where
 old:∀ b o,X.s₀.heap.get? b=some o->b ∉ frs X.stack->∃ o',B.get? b=some o'
 trk:∀ b o,H b=some o->∃ o',B.get? b=some o'
 cel:∀ x c,X.env.cells.lookup x=some c->∃ o',B.get? c=some o'
 pin:∀ p∈X.pn ++ pins,∃ o',B.get? p.1=some o'
section
variable {X:Cx}{pins:List (Addr × Obj)}{Z:St}{H:Hp}{s:Shared}
def ZtQ{h':Heap}{t':Nat}{ch:List Addr}(I:Inv X pins Z H s)
  (hch:∀ b∈ch,(∀ o,X.s₀.heap.get? b=some o->b∈X.ex)/\b ≠ X.env.locals/\(∀ x c,X.env.cells.lookup x=some c->c ≠ b)/\∀ p∈X.pn ++ pins,p.1 ≠ b)
  (keep:∀ b o,b ≠ X.env.locals->b ∉ X.fs->b ∉ ch->s.heap.get? b=some o->h'.get? b=some o)
  (slot:∀ b o,b∈X.fs->s.heap.get? b=some o->∃ sl,h'.get? b=some { o with slots:=sl })
  (ns:∀ m,s.heap.Ns X.env.locals m->h'.Ns X.env.locals m) (hok:HOk X.prog X.w H h') :
  Inv X pins Z H { s with heap:=h',toks:=t' }:=by
 have neL:∀ b o,X.s₀.heap.get? b=some o->b ≠ X.env.locals:=λb o e=>Yn (Yq (Ye e) I.ok.above)
 have neC:∀ b o,X.s₀.heap.get? b=some o->b ∉ X.ex->b ∉ ch:=λb o e hx hb=>hx ((hch b hb).1 o e)
 have cellK:∀ x c,X.env.cells.lookup x=some c->∀ v,s.heap.IsCell c v->h'.IsCell c v:=λx c e v ⟨o,ho,hd⟩=>by
  have nch:c ∉ ch:=λz=>(hch c z).2.2.1 x c e rfl
  by_cases hc:c∈X.fs
  ·obtain⟨sl,q⟩:=slot c o hc ho
   exact⟨_,q,hd⟩
  ·exact⟨o,keep c o (I.cne x c e) hc nch ho,hd⟩
 refine⟨I.ok,I.os,I.bare,⟨λb o e n hb hx=>?_,λb o e n hb hx=>?_,I.base.free,λb o e hx=>?_,I.base.tups,I.base.frzs,I.base.tbls⟩,?_,λx c e=>?_,I.free,I.freeC,λp hp=>?_,hok,I.len⟩
 ·exact keep b o (neL b o e) hb (neC b o e hx) (I.base.keep b o e n hb hx)
 ·obtain⟨sl,e1⟩:=I.base.slot b o e n hb hx
  obtain⟨sl',e2⟩:=slot b _ hb e1
  exact⟨sl',e2⟩
 ·obtain⟨o',e1⟩:=I.base.there b o e hx
  by_cases hb:b∈X.fs
  ·obtain⟨sl,e2⟩:=slot b _ hb e1
   exact⟨_,e2⟩
  ·exact⟨o',keep b o' (neL b o e) hb (neC b o e hx) e1⟩
 ·obtain⟨m,hn,hl⟩:=I.loc
  refine⟨m,ns m hn,λi x v e1 e2 e3=>?_⟩
  obtain⟨u,r,l⟩:=hl i x v e1 e2 e3
  refine⟨u,r,?_⟩
  rcases l with l | ⟨k,c,e,z⟩
  ·exact .inl l
  ·exact .inr ⟨k,c,e,cellK x c e _ z⟩
 ·obtain⟨v,z⟩:=I.cell x c e
  exact⟨v,cellK x c e v z⟩
 ·obtain⟨e,n,ne,nf,d⟩:=I.pin p hp
  have nch:p.1 ∉ ch:=λz=>(hch p.1 z).2.2.2 p hp rfl
  exact⟨keep p.1 p.2 ne nf nch e,n,ne,nf,d⟩
def fly{B h':Heap}{t':Nat}(I:Inv X pins Z H s)(hst:X.stack=X.env :: X.outer)(hfr:X.env.frame=some X.env.locals)(c:Cv X pins B H)
  (k0:B.StaysIn s.heap) (k:B.StaysIn h') (u:s.heap.UpToSlots h'):Inv X pins Z H { s with heap:=h',toks:=t' }:=by
 have mem:∀ b,b∈frs X.stack ↔ b=X.env.locals\/b∈X.fs:=λb=>by
  show b∈frs X.stack ↔ b=X.env.locals\/b∈frs X.outer
  rw [hst]
  unfold frs
  rw [List.filterMap_cons_some hfr,Yl]
 let ch:List Addr:=(List.range s.heap.objs.size).filter λb=>(B.get? b).isNone && (s.heap.get? b).isSome && !decide (b∈frs X.stack)
 have hc:∀ b,b∈ch->B.get? b=none/\b ∉ frs X.stack:=λb hb=>by
  have z:=(Ve.mp hb).2
  simp only [Bool.and_eq_true,Option.isNone_iff_eq_none,Bool.not_eq_true',decide_eq_false_iff_not] at z
  exact⟨z.1.1,z.2⟩
 have inB:∀ b o,s.heap.get? b=some o->b ∉ ch->b ∉ frs X.stack->B.get? b=some o:=λb o e nc nf=>by
  cases q:B.get? b with
  | none =>
   refine absurd (Ve.mpr ⟨YH.mpr (Ye e),?_⟩) nc
   simp only [q,e,Option.isNone_none,Option.isSome_some,Bool.true_and,Bool.and_true,Bool.not_eq_true',decide_eq_false_iff_not]
   exact nf
  | some o' =>
   have z:=k0 b o' q
   rw [e] at z
   exact z.symm ▸ rfl
 refine ZtQ (ch:=ch) I (λb hb=>?_) (λb o n1 n2 n3 e=>?_) (λb o hb e=>?_) (λm hm=>u.ns hm) (λb o e=>?_)
 ·obtain⟨n,nf⟩:=hc b hb
  refine⟨λo e=>?_,λz=>nf ((mem b).mpr (.inl z)),λx a e z=>?_,λp hp z=>?_⟩
  ·obtain⟨o',q⟩:=c.old b o e nf
   rw [n] at q; cases q
  ·obtain⟨o',q⟩:=c.cel x a e
   rw [z,n] at q; cases q
  ·obtain⟨o',q⟩:=c.pin p hp
   rw [z,n] at q; cases q
 ·exact k b o (inB b o e n3 λz=>((mem b).mp z).elim n1 n2)
 ·obtain⟨_,o',e',nd⟩:=I.funs.mem hb
  rw [e] at e'; cases e'
  exact u b o e nd
 ·refine (I.hok b o e).stay (λa v ha q=>?_) (λ_ q=>q) λ_ _ q=>q
  have tr:∃ o',H a=some o':=by
   rcases ha with rfl | z
   ·exact⟨_,e⟩
   ·exact⟨_,z⟩
  obtain⟨o',z⟩:=tr
  obtain⟨o2,z2⟩:=c.trk a o' z
  have z3:=k0 a o2 z2
  rw [q] at z3
  cases z3
  exact k a v z2
end
def CX1(P:Program)(w:World):CXT:=λouter H s E e s'=>∃ (ea C:Addr) (a0:Value) (B:Heap) (H':Hp),e=.ref ea/\s'.os=s.os/\AllBare s'.gens/\Un (frs outer) [] H H' s.heap s'.heap/\HOk P w H' s'.heap /\
 Heap.FlyingW B outer ea (.ref C) a0 s'.heap/\(∀ b o,s.heap.get? b=some o->b ∉ frs outer->∃ o',B.get? b=some o')/\(∀ b o,H' b=some o->∃ o',B.get? b=some o')/\E (.ref C) none H'
structure Body(X:Cx):Prop where
 st:X.stack=X.env :: X.outer
 fr:X.env.frame=some X.env.locals
 ex:X.ex=[]
 fn:∀ x,X.fn x=true
structure Goes(X:Cx)(E:XK):Prop extends Body X where
 xe:∀ e s',wpAny (model X.prog X.w) X.A (leaving X.env e) (λ_ s''=>CX1 X.prog X.w X.outer X.H₀ X.s₀ E e s'') (λe' s''=>CX1 X.prog X.w X.outer X.H₀ X.s₀ E e' s'') s'->X.xe e s'
section
variable {X:Cx}{E:XK}{pins:List (Addr × Obj)}{Z:St}{H:Hp}{s:Shared}
def Body.apart(b:Body X)(I:Inv X pins Z H s):(∀ x c,X.env.cells.lookup x=some c->(∃ o,s.heap.get? c=some o)/\c ∉ frs X.stack)/\(∀ p∈X.pn ++ pins,s.heap.get? p.1=some p.2/\p.1 ∉ frs X.stack) /\
  (∀ a o,X.s₀.heap.get? a=some o->∃ o',s.heap.get? a=some o')/\(∀ a o,H a=some o->(∃ o',s.heap.get? a=some o')/\a ∉ frs X.stack):=by
 refine⟨λx c e=>?_,λp hp=>?_,λa o e=>?_,λa o e=>?_⟩
 ·obtain⟨v,o,ho,hd⟩:=I.cell x c e
  refine⟨⟨o,ho⟩,λz=>?_⟩
  rcases Yl.mp (I.stkSub c z) with q | q
  ·exact I.cne x c e q
  ·obtain⟨_,o',e',_⟩:=I.ok.funs.mem q
   exact absurd (Yq (Ye e') (I.ok.cab x c (b.fn x) e)) (YR _)
 ·obtain⟨e,n,ne,nf,d⟩:=I.pin p hp
  exact⟨e,λz=>(Yl.mp (I.stkSub _ z)).elim ne nf⟩
 ·exact I.base.there a o e (by rw [b.ex]; exact List.not_mem_nil)
 ·exact⟨Zou (I.hok a o e),λz=>by rw [I.stkFree a z] at e; cases e⟩
def Body.cv(b:Body X)(I:Inv X pins Z H s){B:Heap}{H':Hp}(cov:∀ a o,s.heap.get? a=some o->a ∉ frs X.stack->∃ o',B.get? a=some o')(trk:∀ a o,H' a=some o->∃ o',B.get? a=some o'):Cv X pins B H':=by
 obtain⟨h1,h2,h3,_⟩:=b.apart I
 refine⟨λa o e n=>?_,trk,λx c e=>?_,λp hp=>?_⟩
 ·obtain⟨o',e'⟩:=h3 a o e
  exact cov a o' e' n
 ·obtain⟨⟨o,e'⟩,n⟩:=h1 x c e
  exact cov c o e' n
 ·obtain⟨e',n⟩:=h2 p hp
  exact cov p.1 p.2 e' n
def Goes.raise(b:Goes X E)(I:Inv X pins Z H s){h':Heap}{e C:Addr}{vs:List Value}(hx:Heap.MadeExcOf s.heap h' e (.ref C) vs)(q:E (.ref C) none H):X.xe (.ref e) { s with heap:=h' }:=by
 refine b.xe _ _ ?_
 have hB:(hideAll s.heap (frs X.stack)).StaysIn s.heap:=λa o z=>of_hideAll _ z
 have hl:s.heap.FunFrames (hideAll s.heap (frs X.stack)) (X.env :: X.outer):=by
  have z:=PySem.W.funFrames_hide (as:=frs X.stack) I.stack λenv he a ha=>List.mem_filterMap.mpr ⟨env,he,ha⟩
  rw [b.st] at z ⊢
  exact z
 have hfr:X.A.frames=some (X.env :: X.outer):=by rw [I.ok.frames,b.st]
 have cov:∀ a o,s.heap.get? a=some o->a ∉ frs X.stack->∃ o',(hideAll s.heap (frs X.stack)).get? a=some o':=λa o z n=>⟨o,hideAll_get _ z n⟩
 have cv:Cv X pins (hideAll s.heap (frs X.stack)) H:=b.toBody.cv I cov λa o z=>by
  obtain⟨⟨o',z'⟩,n⟩:=(b.toBody.apart I).2.2.2 a o z
  exact cov a o' z' n
 refine wpAny_leaves_madeW (s:={ s with heap:=h' }) hfr b.fr hB hl hx λh'' t fl tp bt us=>?_
 have us':s.heap.UpToSlots h'':=(Heap.UpToSlots.of_keeps hx.keeps).trans us
 have I':=fly (t':=s.toks) I b.st b.fr cv hB fl.1 us'
 refine⟨e,C,.ref t,_,H,rfl,I'.os,I'.bare,?_,I'.hok,fl,λa o z n=>?_,cv.trk,q⟩
 ·have z:=I'.base
  rw [b.ex] at z
  exact z
 ·obtain⟨o',z'⟩:=(b.toBody.apart I).2.2.1 a o z
  refine cov a o' z' λm=>?_
  rcases Yl.mp (I.stkSub a m) with w | w
  ·exact absurd (Yq (Ye z) (w ▸ I.ok.above)) (YR _)
  ·exact n w
def Goes.pass(b:Goes X E):Zd1 (CX1 X.prog X.w) X E:=by
 intro pins Z H s e s' I h
 obtain⟨ea,C,a0,B,H',rfl,ho,hg,un,hok,fl,cov,trk,q⟩:=h
 refine b.xe _ _ ?_
 have I1:Inv X pins Z H' s':=I.call' (ch:=[]) ho un hok hg λ_ z=>nomatch z
 have hfr:X.A.frames=some (X.env :: X.outer):=by rw [I.ok.frames,b.st]
 have cv:Cv X pins B H':=b.toBody.cv I cov trk
 rw [b.st] at fl
 refine wpAny_leaves_onW hfr b.fr fl λh'' fl' us=>?_
 have I':=fly (t':=s'.toks) I1 b.st b.fr cv fl.1 fl'.1 us
 refine⟨ea,C,a0,B,H',rfl,I'.os,I'.bare,?_,I'.hok,fl',λa o z n=>?_,trk,q⟩
 ·have z:=I'.base
  rw [b.ex] at z
  exact z
 ·obtain⟨o',z'⟩:=(b.toBody.apart I).2.2.1 a o z
  refine cov a o' z' λm=>?_
  rcases Yl.mp (I.stkSub a m) with w | w
  ·exact absurd (Yq (Ye z) (w ▸ I.ok.above)) (YR _)
  ·exact n w
end
def Zb1{P:Program}{w:World}{K:PySem.W.Frag}{mg:Str->Option Value}{base:Heap}{N:List Str}{qual:Str}{scope:Scope}{f:Addr}{cd:Value}{A:Around}{outer:List Env}{s:Shared}{H:Hp}{E:XK} :
  Goes (Zjl (CX1 P w) P w K mg base N qual scope f cd A outer s H E) E:=⟨⟨rfl,rfl,rfl,λ_=>rfl⟩,λ_ _ h=>h⟩
def Zse:List Value:=[.type "ValueError",.type "Exception",.type "BaseException",.type "object"]
def ZkV(K:PySem.W.Frag)(C:Addr):Prop:=excIn K C Zse "ValueError.__new__"=true
def Zrf{K:PySem.W.Frag}{h:Heap}{mg:Str->Option Value}{x:Str}{C:Addr}(X:K.In h)(m:mg x=some (.ref C))(q:ZkV K C):OwnCls x C Zse "ValueError.__new__" mg h:=by
 refine⟨m,?_⟩
 have q:=q
 unfold ZkV excIn at q
 split at q
 ·rename_i dd cd sl look
  split at q
  ·rename_i C1 bm1 z0 z1 z2 z3 n1 z5 mro1 sl1
   simp only [Bool.and_eq_true,beq_iff_eq,Bool.not_eq_true'] at q
   obtain⟨⟨⟨⟨⟨rfl,rfl⟩,nodel⟩,tl⟩,nsok⟩,noinit⟩:=q
   obtain⟨nm,bs,mro,ns,qn,hd,sn,sub,ab,col,del⟩:=cd
   dsimp only at mro1 nodel nsok noinit
   subst mro1 nodel
   have e2:sl=#[z0,z1,z2,z3,some (.builtin "ValueError.__new__"),z5]:=by
    cases sl with
    | mk l=>exact congrArg Array.mk sl1
   subst e2
   exact⟨bm1,ns,nm,qn,bs,hd,sn,sub,ab,col,dd,z0,z1,z2,z3,z5,_,X _ _ look,.of_isNs (PySem.W.isNs_of_in X nsok),PySem.W.nsMap_none_of_in X nsok noinit,PySem.W.tail_of_in X tl⟩
  ·cases q
 ·cases q
section
variable {X:Cx}{E:XK}{x:Str}{C:Addr}{np cpos pos:Pos}{e₀:Expr}{Jh:List Expr}{t:TA}
def ZiQ(C:Addr)(E:XK)(t:TA):TS:=λ_ Z H=>t Z H λvs H1=>vs.length<=1000/\E (.ref C) none H1
def Zoy(b:Goes X E)(hc:X.calm=true)(hg:Gl X x)(hm:X.mg x=some (.ref C))(q:ZkV X.K C)(ha:PA X (e₀ :: Jh) t)(hdb:(x == ("__debug__":Str))=false:=by decide)
  (he:starEach (e₀ :: Jh) X.env=(false,eval e₀ X.env) :: starEach Jh X.env:=by rfl) (hpl:(backTo cpos (starEach Jh X.env)).any (·.1)=false:=by rfl) :
  PS X (.Raise (some (.Call (.Name x np) (e₀ :: Jh) [] cpos)) none pos) (ZiQ C E t):=by
 intro pins s Z H D I h
 obtain⟨bm,N,nm,qn,bs,hdct,sn,sub,ab,col,dd,k0,k1,k2,k3,k5,mN,hC,hN,hni,T⟩:=(Zrf (x:=x) I.ok.mod.kin hm q).obj
 refine wpAny_Raise_call_subT (C:=C) (nm:=nm) (q:=qn) (N:=N) (bs:=bs) (bm:=bm) (hdct:=hdct) (sn:=sn) (sub:=sub) (ab:=ab) (col:=col) (dd:=dd) (k0:=k0) (k1:=k1) (k2:=k2) (k3:=k3) (k5:=k5) (mN:=mN)
  PySem.F.excBase_ValueError (T.hasType (by decide +kernel)) (I.ok.hd hc) (by rw [he]; show (false || (backTo cpos (starEach Jh X.env)).any (·.1))=false; rw [hpl]; rfl) hni (ZeG I hg hm ⟨rfl,?_⟩ hdb)
 have h2:=ha cpos pins s Z H _ I h
 rw [he] at h2 ⊢
 refine VT (Jl h2 λus s1 ⟨vs,H1,I1,r,z,qE⟩=>?_)
 exact⟨rfl,by show us.length<=sizeLine; rw [<- r.length]; exact Zhn z,I1.bk _ _ hC,hN.keeps I1.bk,T.keeps I1.bk,λh' e hx=>b.raise I1 hx qE⟩
end
def XP(X:Cx)(pins:List (Addr × Obj))(Z:St)(EX:XK)(e:Value)(s':Shared):Prop :=
 ∃ (ea C:Addr) (a0:Value) (B:Heap) (H':Hp),e=.ref ea/\Inv X pins Z H' s'/\Heap.FlyingW B X.stack ea (.ref C) a0 s'.heap/\Cv X pins B H'/\EX (.ref C) none H'
abbrev TEX:=St->Hp->VK->XK->Prop
def PEX(X:Cx)(e:Expr)(t:TEX):Prop :=
 ∀ (pins:List (Addr × Obj)) (s:Shared) (Z:St) (H:Hp) (Q:VK) (EX:XK),Inv X pins Z H s->t Z H Q EX->wpAny (model X.prog X.w) X.A (eval e X.env) (EP X pins Z Q) (XP X pins Z EX) s
abbrev TSX:=Ends->(St->XK)->St->Hp->Prop
def Zuk(X:Cx)(sts:List Stmt)(t:TSX):Prop :=
 ∀ (pins:List (Addr × Obj)) (s:Shared) (Z:St) (H:Hp) (D:Ends) (EX:St->XK),Inv X pins Z H s->t D EX Z H ->
  wpAny (model X.prog X.w) X.A (execs sts X.env) (SP X pins D) (λe s'=>∃ Z',XP X pins Z' (EX Z') e s') s
def PSX(X:Cx)(st:Stmt)(t:TSX):Prop :=
 ∀ (pins:List (Addr × Obj)) (s:Shared) (Z:St) (H:Hp) (D:Ends) (EX:St->XK),Inv X pins Z H s->t D EX Z H ->
  wpAny (model X.prog X.w) X.A (exec st X.env) (SP X pins D) (λe s'=>∃ Z',XP X pins Z' (EX Z') e s') s
section
variable {X:Cx}{j k:Nat}{x:Str}{ps:List Str}{sp:Sp}{p pos:Pos}{e:Expr}{es:List Expr}{t:TA}{f:Addr}{fd:FuncData}{ds:List Value}{dvs:List V}
def ZpD(sp:Sp)(dvs:List V)(t:TA):TEX:=λZ H Q EX=>t Z H λvs H1=>sp (vs ++ dvs) H1 Q EX
def ZuT(b:Body X)(F:FnOk X.prog X.w X.K X.mg X.base (CX1 X.prog X.w) k f fd ps sp)(hr:Room k X.A)(hb:Zy X.K fd ps ds)(hd:ZD dvs ds){pins:List (Addr × Obj)}{Z:St}{H:Hp}{s:Shared}{Q:VK}{EX:XK}{us:List Value}{vs:List V}
  (I:Inv X pins Z H s) (r:ZD vs us) (h:sp (vs ++ dvs) H Q EX):wpAny (model X.prog X.w) X.A (call (.ref f) us) (EP X pins Z Q) (XP X pins Z EX) s:=by
 have r2:ZD (vs ++ dvs) (us ++ ds):=r.append hd
 have hl:(us ++ ds).length=ps.length:=by rw [<- r2.length]; exact F.len _ _ _ _ h
 refine Vf (YF (F.run X.A X.stack s H ⟨us,[]⟩ (us ++ ds) (vs ++ dvs) Q EX hr I.env0 (hb s us I.kIn hl) r2 h) λr s' hq=>?_)
 cases r with
 | error e =>
  obtain⟨ea,C,a0,B,H',rfl,ho,hg,un,hok,fl,cov,trk,q⟩:=hq
  exact⟨ea,C,a0,B,H',rfl,I.call' (ch:=[]) ho un hok hg (λ_ z=>nomatch z),fl,b.cv I cov trk,q⟩
 | ok w =>
  cases w with
  | ret u=>exact I.after hq
  | next=>exact False.elim hq
  | brk=>exact False.elim hq
  | cont=>exact False.elim hq
def ZoW{te:TEX}(he:PEX X e te)(hs:swapsWith e none pos.line X.env=pure false:=by rfl):PSX X (.Expr e pos) (λD EX Z H=>te Z H (λ_ H1=>D.nx Z H1) (EX Z)):=by
 intro pins s Z H D EX I h
 exact wpAny_Expr_any (Yo (he pins s Z H _ _ I h) (λv s1 ⟨y,H1,I1,r1,q1⟩=>⟨Z,H1,I1,q1⟩) λ_ _ z=>⟨Z,z⟩) I.quiet hs
def Zi8{st:Stmt}{u:TSX}(h:PSX X st u):Zuk X [st] u:=by
 intro pins s Z H D EX I hq
 refine wpAny_execs_cons (Yo (h pins s Z H D EX I hq) (λfl s1 q=>?_) λ_ _ z=>z)
 cases fl with
 | next=>exact Vx q
 | brk=>exact q
 | cont=>exact q
 | ret v=>exact q
end
abbrev Xh(X:Cx)(ea:Addr):Cx:={ X with A:=X.A.mark (some (.ref ea)),calm:=false,xe:=λ_ _=>False }
section
variable {X:Cx}{pins:List (Addr × Obj)}{Z:St}{H:Hp}{s:Shared}{ea:Addr}
def okH(ok:X.Ok):(Xh X ea).Ok:=⟨ok.mod,ok.kind,ok.glob,ok.blt,ok.above,ok.inj,ok.has,ok.cab,(λz=>nomatch z),ok.frames,ok.stk,ok.exf,ok.bs,ok.bsz,ok.noex,ok.exfs,ok.funs,ok.frf⟩
def toH(I:Inv X pins Z H s):Inv (Xh X ea) pins Z H s:=⟨okH I.ok,I.os,I.bare,I.base,I.loc,I.cell,I.free,I.freeC,I.pin,I.hok,I.len⟩
def ofH(ok:X.Ok)(I:Inv (Xh X ea) pins Z H s):Inv X pins Z H s:=⟨ok,I.os,I.bare,I.base,I.loc,I.cell,I.free,I.freeC,I.pin,I.hok,I.len⟩
def ZnI(C ea:Addr)(h:Heap):Prop:=∃ o,h.get? ea=some o/\o.cls=.ref C
def Zoa(C ea:Addr):HO:=.ext (ZnI C ea)
def Zt9{o:HO}(I:Inv X pins Z H s)(hn:H ea=none)(h0:∀ u,X.s₀.heap.get? ea=some u->False)(hL:ea ≠ X.env.locals)(hc:∀ x c,X.env.cells.lookup x=some c->c ≠ ea)
  (hp:∀ p∈X.pn ++ pins,p.1 ≠ ea) (new:Ji X.prog X.w (upd H ea o) s.heap ea o):Inv X pins Z (upd H ea o) s:=by
 have ne:∀ b u,H b=some u->b ≠ ea:=λb u e z=>by rw [z,hn] at e; cases e
 refine⟨I.ok,I.os,I.bare,⟨I.base.keep,I.base.slot,λb u e n hx=>?_,I.base.there,λb xs e=>?_,λb u v e=>?_,λb qs e=>?_⟩,I.loc,I.cell,?_,λx c e=>?_,λp h=>?_,λb u e=>?_,I.len⟩
 ·rw [Zj (λ(z:b=ea)=>h0 u (by rw [<- z]; exact e))]
  exact I.base.free b u e n hx
 ·have z:=I.base.tups b xs e
  rw [Zj (ne b _ z)]; exact z
 ·have z:=I.base.frzs b u v e
  rw [Zj (ne b _ z)]; exact z
 ·obtain⟨more,z⟩:=I.base.tbls b qs e
  exact⟨more,by rw [Zj (ne b _ z)]; exact z⟩
 ·rw [Zj (Ne.symm hL)]; exact I.free
 ·rw [Zj (hc x c e)]; exact I.freeC x c e
 ·obtain⟨e,n,r⟩:=I.pin p h
  exact⟨e,by rw [Zj (hp p h)]; exact n,r⟩
 ·by_cases z:b=ea
  ·subst z
   rw [Zi] at e
   cases e
   exact new
  ·rw [Zj z] at e
   refine (I.hok b u e).stay (λ_ _ _ q=>q) (λc q=>?_) (λc xs q=>?_) λc o q=>?_
   ·rw [Zj (ne c _ q)]; exact q
   ·rw [Zj (ne c _ q)]; exact q
   ·rw [Zj (ne c _ q)]; exact q
def Ztx{i:Nat}{n:Str}{pos:Pos}{M:Model}{A:Around}{E:VSP}{Q:Unit->Shared->Prop}(I:Inv X pins Z H s)(hN:X.N.Nodup)(hi:X.N[i]?=some n)(hk:X.env.scope.names.lookup n=some .local)
  (h:∀ s',Inv X pins (Z.set i none) H s'->Q () s'):wpAny M A (do bindName X.env n .none; unbindBehindTheSuite X.env n pos) Q E s:=by
 obtain⟨m,hn,hl⟩:=id I.loc
 have hcls:(X.env.scope.kind == .class || (X.env.scope.kind == .module && X.env.locals != X.env.globals))=false:=by rw [I.ok.kind]; rfl
 refine wpAny_nameGoes_keeps hk hn hcls λh' v hn' hs=>?_
 have ob:∀ b o,X.s₀.heap.get? b=some o->b ≠ X.env.locals:=λb o e=>Yn (Yq (Ye e) I.ok.above)
 refine h _ ⟨I.ok,I.os,I.bare,⟨λb o e n' hb hx=>?_,λb o e n' hb hx=>?_,I.base.free,λb o e hx=>?_,I.base.tups,I.base.frzs,I.base.tbls⟩,⟨_,hn',λj y v' e1 e2 e3=>?_⟩,λy c e=>?_,I.free,I.freeC,λp hp=>?_,λb u e=>?_,by simpa using I.len⟩
 ·exact (hs.2 b (ob b o e)).trans (I.base.keep b o e n' hb hx)
 ·obtain⟨sl,e1⟩:=I.base.slot b o e n' hb hx
  exact⟨sl,(hs.2 b (ob b o e)).trans e1⟩
 ·obtain⟨o',e1⟩:=I.base.there b o e hx
  exact⟨o',(hs.2 b (ob b o e)).trans e1⟩
 ·by_cases hj:j=i
  ·subst hj
   have hiZ:j < Z.length:=by rw [I.len]; exact (Yf.mp hi).1
   rw [Vg hiZ] at e2
   cases e2
  ·rw [Vh (Ne.symm hj)] at e2
   obtain⟨u',r',q⟩:=hl j y v' e1 e2 e3
   refine⟨u',r',?_⟩
   rcases q with ⟨k,e⟩ | ⟨k,c,e,z⟩
   ·refine .inl ⟨k,?_⟩
    have ny:y ≠ n:=λe=>hj (ZfR hN e1 (e ▸ hi))
    show (if y=n then v else m y)=_
    rw [if_neg ny]; exact e
   ·exact .inr ⟨k,c,e,z.sameBut hs (I.cne y c e)⟩
 ·obtain⟨w',z⟩:=I.cell y c e
  exact⟨w',z.sameBut hs (I.cne y c e)⟩
 ·obtain⟨e,n',ne,nf,d⟩:=I.pin p hp
  exact⟨(hs.2 p.1 ne).trans e,n',ne,nf,d⟩
 ·refine (I.hok b u e).stay (λc w' hc q=>(hs.2 c λz=>?_).trans q) (λ_ q=>q) λ_ _ q=>q
  have fr:=I.free
  rcases hc with z' | z'
  ·rw [<- z,z',e] at fr; cases fr
  ·rw [<- z,z'] at fr; cases fr
end
def Zug(K:PySem.W.Frag)(D:Addr)(i:Nat)(th:Addr->TS)(En:Ends)(Z:St):XK:=λc _ H'=>∃ C,c=.ref C/\exmOne K (.ref C) (.ref D)=some true/\∀ ea,H' ea=none ->
 th ea { nx:=λZ2 H2=>En.nx (Z2.set i none) H2,rt:=En.rt,bk:=λZ2 H2=>En.bk (Z2.set i none) H2,ct:=λZ2 H2=>En.ct (Z2.set i none) H2 } (Z.set i (some (.ref ea))) (upd H' ea (Zoa C ea))
def Zth(K:PySem.W.Frag)(tb:TSX)(D:Addr)(i:Nat)(th:Addr->TS):TS:=λEn Z H=>tb En (Zug K D i th En) Z H
section
variable {X:Cx}{body:List Stmt}{x n:Str}{np hpos pos:Pos}{b₀:Stmt}{suite:List Stmt}{tb:TSX}{th:Addr->TS}{D:Addr}{i:Nat}
def Zr7(b:Body X)(hb:Zuk X body tb)(hg:Gl X x)(hm:X.mg x=some (.ref D))(hN:X.N.Nodup)(hi:X.N[i]?=some n)(hk:X.env.scope.names.lookup n=some .local)(hs:∀ ea,PSs (Xh X ea) (b₀ :: suite) (th ea))
  (hdb:(x == ("__debug__":Str))=false:=by decide) :
  PS X (.Try body [.ExceptHandler (some (.Name x np)) (some n) (b₀ :: suite) hpos] [] [] pos) (Zth X.K tb D i th):=by
 intro pins s Z H En I h
 refine wpAny_Try_except (Yo (hb pins s Z H En _ I h) (λfl s1 q=>?_) λe s1 q=>?_)
 ·cases fl with
  | next=>exact Vx q
  | brk=>exact q
  | cont=>exact q
  | ret v=>exact q
 ·obtain⟨Z1,ea,C,a0,B,H1,rfl,I1,fl,cv,C',eC,hx,q⟩:=q
  cases eC
  have hfr:X.A.frames=some (X.env :: X.outer):=by rw [I.ok.frames,b.st]
  have flS:=fl
  rw [b.st] at fl
  refine wpAny_looks_onW hfr b.fr fl λh4 held us4=>?_
  refine wpAny_landsW (s:={ s1 with heap:=h4 }) held λh5 fl5 us5=>?_
  have I5:Inv X pins Z1 H1 { s1 with heap:=h5,toks:=s1.toks }:=fly I1 b.st b.fr cv fl.1 fl5.1 (us4.trans us5)
  refine wpAny_handleBy_cons (codeAny_handlers_test ?_) (by intro z; cases z)
  refine ZeG (X:=Xh X ea) (toH I5) hg hm ?_ hdb
  obtain⟨oe,he,hec⟩:=fl5.there
  have LT:PySem.W.Looks (model X.prog X.w) h5 (typeOf (.ref ea)) (.ref C):=hec ▸ (PySem.W.Looks.ld he).andThen .now
  refine PySem.W.exm_one (K:=X.K) I5.kIn LT hx _ _ _ _ (λ_ _ z=>z) ?_
  refine codeAny_handlers_suite_as ?_
  refine lands_againW (s:={ s1 with heap:=h5 }) fl5 λh6 fl6 us6=>?_
  have I6:Inv X pins Z1 H1 { s1 with heap:=h6,toks:=s1.toks }:=fly I1 b.st b.fr cv fl.1 fl6.1 ((us4.trans us5).trans us6)
  obtain⟨oe6,he6,hec6⟩:=fl6.there
  have nB:B.get? ea=none:=fl6.2.1
  have hn:H1 ea=none:=by
   cases z:H1 ea with
   | none=>rfl
   | some o =>
    obtain⟨o',z'⟩:=cv.trk ea o z
    rw [nB] at z'; cases z'
  have nfr:ea ∉ frs X.stack:=λz=>by
   obtain⟨_,o,z1,z2⟩:=I6.stack.mem z
   obtain⟨oe',vs,T,oT,ts,y1,_,y2,_⟩:=fl6.2.2.2
   have z1:h6.get? ea=some o:=z1
   rw [y1] at z1; cases z1
   exact z2 vs y2
  have I7:Inv X pins Z1 (upd H1 ea (Zoa C ea)) { s1 with heap:=h6,toks:=s1.toks }:=by
   refine Zt9 I6 hn (λu z=>?_) (λz=>nfr ?_) (λy c e z=>?_) (λp hp z=>?_) ⟨⟨oe6,he6,hec6⟩,⟨oe6,he6⟩,λha hb ⟨o,z1,z2⟩ k=>⟨o,k o z1,z2⟩⟩
   ·obtain⟨o',z'⟩:=cv.old ea u z nfr
    rw [nB] at z'; cases z'
   ·rw [b.st]
    exact List.mem_filterMap.mpr ⟨X.env,.head _,by rw [z]; exact b.fr⟩
   ·obtain⟨o',z'⟩:=cv.cel y c e
    rw [z,nB] at z'; cases z'
   ·obtain⟨o',z'⟩:=cv.pin p hp
    rw [z,nB] at z'; cases z'
  refine ZdB (X:=Xh X ea) (v:=.ref ea) (toH I7) hN hi (.inl hk) rfl (λs8 I8=>?_) (.inr hk)
  refine Yo (hs ea pins s8 _ _ _ I8 (q ea hn)) (λf s9 q9=>?_) λ_ _ z=>z.elim
  cases f with
  | next =>
   obtain⟨Z9,H9,I9,q9⟩:=q9
   exact Ztx (ofH I.ok I9) hN hi hk λs' I'=>⟨_,_,I',q9⟩
  | brk =>
   obtain⟨Z9,H9,I9,q9⟩:=q9
   exact Ztx (ofH I.ok I9) hN hi hk λs' I'=>⟨_,_,I',q9⟩
  | cont =>
   obtain⟨Z9,H9,I9,q9⟩:=q9
   exact Ztx (ofH I.ok I9) hN hi hk λs' I'=>⟨_,_,I',q9⟩
  | ret v =>
   obtain⟨y,Z9,H9,I9,r9,q9⟩:=q9
   exact Ztx (ofH I.ok I9) hN hi hk λs' I'=>⟨y,_,_,I',r9,q9⟩
end
end My
namespace My
open PySem PySem.Spec L2 PySem.W PySem.Builtin PySem.Builtin.ObjectAttr PySem.Builtin.Getset_descriptor
open PyProof.Rows hiding St
section
variable {prog:Program}{w:World}{A:Around}{E:VSP}{s:Shared}{K:Frag}{x D:Addr}
def Zkx{M:Model}{h:Heap}{C:Addr}(p:ZnI C x h):Looks M h (typeOf (.ref x)) (.ref C):=by
 obtain⟨o,h1,h2⟩:=p
 exact h2 ▸ (Looks.ld h1).andThen .now
structure ExcK(K:Frag)(D:Addr):Prop where
 cl:(clsIn K D).isSome=true
 ga:findIn K (.ref D) "__getattribute__"=some (some (.builtin "BaseException.__getattribute__"))
 no:findIn K (.ref D) "__getattr__"=some none
 ha:findIn K (.ref D) "__class__"=some (some (.builtin "object.__class__"))
 hn:specialIn K (.builtin "object.__class__") "__get__"=some (some (.builtin "getset_descriptor.__get__"))
 tk:takesIn K (.builtin "object.__class__")=some true
 mo:mroIn K D (.type "object")=some true
 mb:mroIn K D (.type "BaseException")=some true
def Zre{R:Result->Shared->Prop}{tp:Value}(X:K.In s.heap)(ty:∀ M:Model,Looks M s.heap (typeOf (.ref x)) (.ref D))(hm:mroIn K D (.type "object")=some true)(h:R (.ok (.ret (.ref D))) s) :
  codeAny (model prog w) A (.call (.builtin "getset_descriptor.__get__") ⟨[.builtin "object.__class__",.ref x,tp],[]⟩) R s:=by
 obtain⟨hh,gg,dd,tt,oo⟩:=s
 have T0:=ty (model prog w)
 have T1:=looks_mroIn (M:=model prog w) X hm
 refine VF KF.slot_gs.plain KF.entry_gs ?_
 refine KF.slot_gs.check _ _ _ _ _ _ _ _ KF.type_class (KF.args_gs _ _ _) ?_
 unfold Builtin.«getset_descriptor.__get__» descrGet
 rw [dga_obj]
 refine Ya (Yb ?_)
 unfold descrGetter descrCheckInstance descrNameAndClass isInstance
 simp only [KF.owner_class]
 repeat lk
 refine⟨Code.quiet_builtin _ (by decide +kernel),?_⟩
 refine YM KF.entry_class ?_
 unfold Builtin.«object.__class__» shownTypeOf
 repeat lk
 exact h
def ZkK{Q:Option Value->Shared->Prop}(X:K.In s.heap)(T:ExcK K D)(p:ZnI D x s.heap)(h:Q (some (.ref D)) { s with toks:=s.toks + 1 }):wpAny (model prog w) A (getAttr? (.ref x) "__class__") Q E s:=by
 obtain⟨hh,g,d,t,os⟩:=s
 have L0:=Zkx (M:=model prog w) p
 have L1:=looks_findIn (M:=model prog w) X T.ga
 have L2:=looks_findIn (M:=model prog w) X T.no
 have L3:=looks_mroIn (M:=model prog w) X T.mo
 have L4:=looks_mroIn (M:=model prog w) X T.mb
 have f3:=PySem.F.attr_ValueError.ga.bind (.ref x)
 unfold getAttr? getAttrBy? getAttrBy
 refine Ya (wpAny_mkText (Ya (VA (YE (Ya (L0.at (Ya (L1.at ?_))))))))
 dsimp only
 have own:(onTheHeap (Value.ref D) && Value.builtin "BaseException.__getattribute__" == Value.builtin "object.__getattribute__")=false:=by
  rw [show (Value.builtin "BaseException.__getattribute__" == Value.builtin "object.__getattribute__")=false from by decide +kernel,Bool.and_false]
 rw [if_neg (by rw [own]; exact Yr)]
 unfold getAttrByItsOwn hookBefore
 rw [if_pos (show onTheHeap (Value.ref D)=true from rfl)]
 refine Ya (L2.at (Ya (VA (YE ?_))))
 unfold callGetattribute
 rw [if_neg (by decide)]
 unfold boundAndCalled
 rw [f3]
 refine Ya (Yb ?_)
 dsimp only
 refine Vf (VF PySem.F.attr_ValueError.ga.plain F.entry_bexc_ga ?_)
 have hk:builtinKind "BaseException.__getattribute__"=some .slot:=by decide +kernel
 have hp:splitId "BaseException.__getattribute__"=some ("BaseException","__getattribute__"):=by decide +kernel
 have ok:=F.args_bexc_ga (.ref x) (.str "__class__" t)
 simp only [checkBuiltinCall,hk,hp,List.cons_append,List.nil_append]
 refine Ya ?_
 unfold isInstance
 refine Ya (L0.at (L4.at ?_))
 rw [if_neg (by decide)]
 refine wpAny_of_eq ok ?_
 have F1:=looks_findIn (M:=model prog w) X T.ha
 have F2:Looks (model prog w) hh (getOf (some (.builtin "object.__class__"))) (some (.builtin "getset_descriptor.__get__")):=looks_specialIn X T.hn
 have F3:=looks_takesIn (M:=model prog w) X T.tk
 have LF:Looks (model prog w) hh (find (.ref x) (.ref D) "__class__") (.bind (.builtin "getset_descriptor.__get__") (.builtin "object.__class__")) :=
  F1.andThen (F2.andThen ((show Looks (model prog w) hh (dataDescriptor? (some (.builtin "object.__class__")) (some (.builtin "getset_descriptor.__get__"))) (some (.builtin "getset_descriptor.__get__",.builtin "object.__class__")) from F3.andThen .now).andThen (Looks.tag .now)))
 unfold Builtin.«object.__getattribute__»
 refine Ya (Yb ?_)
 dsimp only
 refine Ya (Yb ?_)
 refine Ya (L0.at (Ya (LF.at ?_)))
 dsimp only
 unfold bindTo
 dsimp only
 refine Ya (YE (Vf (Zre X (λM=>Zkx p) T.mo ?_)))
 refine Yb ?_
 show wpAny _ _ (handedOut (.ref D)) _ _ _
 rw [handedOut_of rfl]
 exact Yb (Yb h)
def Znm(T:ExcK K D):KitX K (.ref x) (.ref D) (ZnI D x) where
 ty:=λ_ _ _ q=>Zkx q
 it:=λ_ _ X _=>by
  obtain⟨cd,hc⟩:=Option.isSome_iff_exists.mp T.cl
  unfold clsIn at hc
  split at hc
  ·rename_i ho
   intro A' Q' E' s' k q
   unfold isType loadHead
   exact Ya (wpAny_loadPart (k _ _ (X _ _ ho)) (Yb q))
  ·cases hc
 ne:=λh tp dd its n sl X htp=>by
  obtain⟨cd,hc⟩:=Option.isSome_iff_exists.mp T.cl
  refine Bool.eq_false_iff.mpr λq=>?_
  have e:D=tp:=Value.ref.inj (VB.mp q)
  subst e
  unfold clsIn at hc
  split at hc
  ·rename_i ho
   have z:=(X _ _ ho).symm.trans htp
   cases z
  ·cases hc
 ca:=λX q k=>ZkK X T q k
end
end My
namespace My
open PySem PySem.Spec L2
open PyProof.Rows hiding St
def Zuz:V->Option Value
 | .ref a=>some (.ref a)
 | .ty n=>some (.type n)
 | _=>none
def ZoP{y:V}{u c:Value}(r:ZP y u)(e:Zuz y=some c):u=c:=by
 cases y
 case ref a=>cases e; exact r
 case ty n=>cases e; exact r
 all_goals cases e
section
variable {X:Cx}{e:Expr}{es:List Expr}{t:TA}{pos p:Pos}
def Zps(K:PySem.W.Frag):List V->Hp->VK->Prop:=λxs H Q=>∃ ea C y c b,xs=[.ref ea,y]/\H ea=some (Zoa C ea)/\ExcK K C/\Zuz y=some c/\kitOne K (.ref C) c=some b/\Q (.bl b) H
def ZjE:JM X (.builtin "isinstance") (Zps X.K):=by
 intro pins s Z H xs us Q I r h
 obtain⟨ea,C,y,c,b,rfl,he,T,hc,hk,q⟩:=h
 obtain⟨u,v,rfl,ru,rv⟩:=ZkY r
 cases (show u=Value.ref ea from ru)
 cases ZoP rv hc
 obtain⟨p,_⟩:=(show Ji X.prog X.w H s.heap ea (Zoa C ea) from I.hok ea _ he)
 exact kia_one (Znm T) I.kIn p hk (λz=>nomatch z) λtk=>⟨.bl b,H,I.tok tk,rfl,q⟩
def ZgE(hg:Gl X "isinstance")(hm:X.mg "isinstance"=none)(ha:QA X (e :: es) t)(hp:(e :: es).all ZA=true:=by rfl):QE X (.Call (.Name "isinstance" p) (e :: es) [] pos) (tCB (Zps X.K) t):=⟨ZhA ZjE hg hm (by rfl) ha.h hp⟩
end
structure FunD(K:PySem.W.Frag)(x qual:Str)(st:Stmt)(dV:Value)(f:Addr)(fd:FuncData):Prop where
 ex:∃ (oc:Value) (od:Option Addr) (kV doc pm:Value) (an:Option Addr) (cdv ct:Value) (osl:Array (Option Value)),
  fd=fnOf x qual (Zh st) (Zg st) (Za st) dV kV doc pm an cdv ct/\K.lookup f=some ⟨oc,od,.func fd,osl⟩/\codeIn K cdv qual=true
 kp:keepIn K (.ref f)=true
variable {K:PySem.W.Frag}
def Zcj{x qual:Str}{st:Stmt}{dV:Value}{f:Addr}{oc:Value}{od an:Option Addr}{osl:Array (Option Value)}{kV doc pm cdv ct:Value}(l:K.lookup f=some ⟨oc,od,.func (fnOf x qual (Zh st) (Zg st) (Za st) dV kV doc pm an cdv ct),osl⟩)
  (c:codeIn K cdv qual=true) (k:keepIn K (.ref f)=true):FunD K x qual st dV f (fnOf x qual (Zh st) (Zg st) (Za st) dV kV doc pm an cdv ct):=⟨⟨oc,od,kV,doc,pm,an,cdv,ct,osl,rfl,l,c⟩,k⟩
section
variable {P:Program}{w:World}{K:PySem.W.Frag}{mg:Str->Option Value}{base:Heap}{x qual:Str}{st:Stmt}{dV:Value}{f:Addr}{fd:FuncData}{N ps:List Str}{k:Nat}{sp:Sp}
def okX(F:FunD K x qual st dV f fd)(S:FnScope N ps (Za st))(len:∀ vs H Q E,sp vs H Q E->vs.length=ps.length)
  (hbody:∀ (cdv:Value) (A:Around) (outer:List Env) (s:Shared) (H:Hp) (vs:List V) (Q:VK) (E:XK),Room k (A.deeper (envOfC qual (Za st) s.heap.objs.size f cdv))->sp vs H Q E ->
   ∃ t,QB (Zjl (CX1 P w) P w K mg base N qual (Za st) f cdv A outer s H E) (Zg st) t/\t { nx:=λ_ H'=>Q .non H',rt:=Q } (Zv N vs) H):FnOk P w K mg base (CX1 P w) (k + 1) f fd ps sp:=by
 obtain⟨oc,od,kV,doc,pm,an,cdv,ct,osl,rfl,lk,hcd⟩:=F.ex
 refine Zqt lk hcd S len λA outer s H vs Q E hr hsp=>?_
 obtain⟨t,h,q⟩:=hbody cdv A outer s H vs Q E hr hsp
 exact⟨t,h.h,q⟩
def ZuP(F:FunD K x qual st dV f fd)(S:FnScope N ps (Za st))(len:∀ vs H Q E,sp vs H Q E->vs.length=ps.length)
  (hbody:∀ (cdv:Value) (A:Around) (outer:List Env) (s:Shared) (H:Hp) (vs:List V) (Q:VK) (E:XK),Room k (A.deeper (envOfC qual (Za st) s.heap.objs.size f cdv))->sp vs H Q E ->
   ∃ t,QB (Zjl Zx P w K mg base N qual (Za st) f cdv A outer s H E).nox (Zg st) t/\t { nx:=λ_ H'=>Q .non H',rt:=Q } (Zv N vs) H):FnOk P w K mg base Zx (k + 1) f fd ps sp:=by
 obtain⟨oc,od,kV,doc,pm,an,cdv,ct,osl,rfl,lk,hcd⟩:=F.ex
 refine Zqt lk hcd S len λA outer s H vs Q E hr hsp=>?_
 obtain⟨t,h,q⟩:=hbody cdv A outer s H vs Q E hr hsp
 exact⟨t,h.h.nox,q⟩
def Zf2(F:FnOk P w K mg base (CX1 P w) k f fd ps sp):FnOk P w K mg base Zx k f fd ps (λvs H Q _=>sp vs H Q E0) :=
 ⟨λvs H Q _ h=>F.len vs H Q _ h,λA outer s H args us vs Q _ hr e0 hb r h=>YF (F.run A outer s H args us vs Q E0 hr e0 hb r h) λres s' q=>by
  cases res with
  | error e =>
   obtain⟨_,_,_,_,_,_,_,_,_,_,_,_,_,z⟩:=q
   exact z.elim
  | ok fl=>cases fl <;> exact q⟩
end
def ZdT{x y:Int}{a b:Nat}(hx:x.natAbs < 2 ^ a)(hy:y.natAbs < 2 ^ b)(h:a + b<=1000000):IntMulOk x y:=by
 have key:∀ {z:Int}{n:Nat},z.natAbs < 2 ^ n->Builtin.Int.intBits z<=n:=λ{z n} hz=>by
  unfold Builtin.Int.intBits
  split
  ·exact YA _
  ·rename_i h0
   have h1:z.natAbs ≠ 0:=by
    intro q
    apply h0
    have:z=0:=by omega
    simp [this]
   have:=(Nat.log2_lt h1).mpr hz
   omega
 exact IntMulOk.of_le (key hx) (key hy) (by omega)
structure FnD(P:Program)(w:World)(K:PySem.W.Frag)(mg:Str->Option Value)(base:Heap)(CX:CXT)(k:Nat)(x:Str)(ps:List Str)(dvs:List V)(sp:Sp):Prop where
 ex:∃ (f:Addr) (fd:FuncData) (ds:List Value),FnOk P w K mg base CX k f fd ps sp/\Zy K fd ps ds/\ZD dvs ds/\keepIn K (.ref f)=true/\mg x=some (.ref f)
structure QX(X:Cx)(e:Expr)(t:TEX):Prop where
 h:PEX X e t
structure QSX(X:Cx)(sts:List Stmt)(t:TSX):Prop where
 h:Zuk X sts t
section
variable {X:Cx}{E:XK}{j k:Nat}{x:Str}{ps:List Str}{sp:Sp}{p pos:Pos}{e:Expr}{es:List Expr}{t:TA}{dvs:List V}{C:Addr}
def ZnM(b:Goes X E)(F:Fn X.prog X.w X.K X.mg X.base (CX1 X.prog X.w) j x ps sp)(hr:Room k X.A)(hj:j<=k)(hg:Gl X x)(ha:QA X (e :: es) t)(hp:(e :: es).all ZA=true:=by rfl)(hdb:(x == ("__debug__":Str))=false:=by decide) :
  QE X (.Call (.Name x p) (e :: es) [] pos) (Zh3 sp [] E t):=by
 obtain⟨f,fd,G,bd,kp,m⟩:=F.ex
 exact⟨Zk6 G (hr.mono hj) hg m kp bd .nil b.pass ha.h hdb (ZC (Jo hp).1) (Zdp (Jo hp).2)⟩
def Zem{np cpos:Pos}(b:Goes X E)(hm:X.mg x=some (.ref C))(q:ZkV X.K C)(hg:Gl X x)(ha:QA X (e :: es) t)(hc:X.calm=true:=by rfl)(hp:(e :: es).all ZA=true:=by rfl)(hdb:(x == ("__debug__":Str))=false:=by decide) :
  QS X (.Raise (some (.Call (.Name x np) (e :: es) [] cpos)) none pos) (ZiQ C E t):=⟨Zoy b hc hg hm q ha.h hdb (ZC (Jo hp).1) (Zdp (Jo hp).2)⟩
def Zeg{P:Program}{w:World}{mg:Str->Option Value}{base:Heap}{N:List Str}{qual:Str}{scope:Scope}{f:Addr}{cd:Value}{A:Around}{outer:List Env}{s:Shared}{H:Hp}{E:XK}{CX:CXT} :
  Body (Zjl CX P w K mg base N qual scope f cd A outer s H E).nox:=⟨rfl,rfl,rfl,λ_=>rfl⟩
def tXE(te:TEX):TSX:=λD EX Z H=>te Z H (λ_ H1=>D.nx Z H1) (EX Z)
def tXS(i:Nat)(te:TEX):TSX:=λD EX Z H=>te Z H (λv H1=>D.nx (Z.set i (some v)) H1) (EX Z)
def Zip{te:TEX}(he:QX X e te)(hs:swapsWith e none pos.line X.env=pure false:=by rfl):QSX X [.Expr e pos] (tXE te):=⟨Zi8 (ZoW he.h hs)⟩
def Zt7{body:List Stmt}{n:Str}{np hpos:Pos}{b₀:Stmt}{suite:List Stmt}{tb:TSX}{th:Addr->TS}{D:Addr}(i:Nat)(b:Body X)(hN:X.N.Nodup)(hm:X.mg x=some (.ref D))(hb:QSX X body tb)(hs:∀ ea,QB (Xh X ea) (b₀ :: suite) (th ea))
  (hg:Gl X x:=by rfl) (hi:X.N[i]?=some n:=by rfl) (hk:X.env.scope.names.lookup n=some .local:=by rfl) (hdb:(x == ("__debug__":Str))=false:=by decide) :
  QS X (.Try body [.ExceptHandler (some (.Name x np)) (some n) (b₀ :: suite) hpos] [] [] pos) (Zth X.K tb D i th):=⟨Zr7 b hb.h hg hm hN hi hk (λea=>(hs ea).h) hdb⟩
end
inductive EqD (H:Hp):V->V->Bool->Nat->Prop where
 | flat {x y:V}(fx:Zmk x=true) (fy:Zmk y=true):EqD H x y (eqV x y) 0
 | tup {a b:Addr}{xs ys:List V}{e:Nat->Bool}{n:Nat}(ha:H a=some (.tup xs)) (hb:H b=some (.tup ys)) (h:∀ j x y,xs[j]?=some x->ys[j]?=some y->EqD H x y (e j) n) :
   EqD H (.ref a) (.ref b) ((List.range (min xs.length ys.length)).all e && xs.length == ys.length) (n + 1)
 | lst {a b:Addr}{xs ys:List V}{e:Nat->Bool}{n:Nat}(ha:H a=some (.lst xs)) (hb:H b=some (.lst ys)) (hl:xs.length=ys.length) (h:∀ j x y,xs[j]?=some x->ys[j]?=some y->EqD H x y (e j) n) :
   EqD H (.ref a) (.ref b) ((List.range xs.length).all e) (n + 1)
 | lstNe {a b:Addr}{xs ys:List V}{n:Nat}(ha:H a=some (.lst xs)) (hb:H b=some (.lst ys)) (hl:xs.length ≠ ys.length):EqD H (.ref a) (.ref b) false (n + 1)
 | up {x y:V}{b:Bool}{n:Nat}(h:EqD H x y b n):EqD H x y b (n + 1)
def ZcT{x:V}(h:Zmk x=true):eqV x x=true:=by
 cases x
 case non=>rfl
 case bl b=>simp [eqV]
 case int i=>simp [eqV]
 case str y=>simp [eqV]
 all_goals exact absurd (show false=true from h) (by decide)
def ZdC{n:Nat}{e:Nat->Bool}(h:∀ j,j < n->e j=true):(List.range n).all e=true:=List.all_eq_true.mpr λj hj=>h j (YH.mp hj)
variable {H:Hp}
def EqD.self{x y:V}{b:Bool}{n:Nat}(h:EqD H x y b n):x=y->b=true:=by
 induction h with
 | flat fx fy=>intro e; subst e; exact ZcT fx
 | @tup a b xs ys e n ha hb h ih =>
  intro q
  injection q with q
  subst q
  rw [ha] at hb
  injection hb with hb
  injection hb with hb
  subst hb
  rw [ZdC,Bool.true_and,beq_self_eq_true]
  intro j hj
  rw [Nat.min_self] at hj
  exact ih j _ _ (Yc hj) (Yc hj) rfl
 | @lst a b xs ys e n ha hb hl h ih =>
  intro q
  injection q with q
  subst q
  rw [ha] at hb
  injection hb with hb
  injection hb with hb
  subst hb
  exact ZdC λj hj=>ih j _ _ (Yc hj) (Yc hj) rfl
 | up h ih=>exact ih
 | lstNe ha hb hl =>
  intro q
  injection q with q
  subst q
  rw [ha] at hb
  injection hb with hb
  injection hb with hb
  subst hb
  exact absurd rfl hl
section
variable {X:Cx}{pins:List (Addr × Obj)}{Z:St}{H:Hp}{s:Shared}
theorem EqD.at(I:Inv X pins Z H s){x y:V}{b:Bool}{n:Nat}(h:EqD H x y b n):∀ {A:Around}{u v:Value},ZP x u->ZP y v->A.units + n < cLine ->
  SeqAt.EqAt A s u v b/\((∃ a c,x=.ref a/\y=.ref c)->SeqAt.RcAt A s u v b):=by
 induction h with
 | flat fx fy =>
  intro A u v r1 r2 _
  refine⟨ZkI r1 r2 fx fy,?_⟩
  rintro⟨a,c,rfl,_⟩
  cases fx
 | @tup a b xs ys e n ha hb h ih =>
  intro A u v r1 r2 hu
  cases r1
  cases r2
  obtain⟨its,v1,t1,_⟩:=I.tuple (SqT.of ha)
  obtain⟨jts,v2,t2,_⟩:=I.tuple (SqT.of hb)
  have rc:SeqAt.RcAt A s (.ref a) (.ref b) ((List.range (min xs.length ys.length)).all e && xs.length == ys.length):=by
   have z:=SeqAt.RcAt.tuples (A:=A) (s:=s) (e:=e) t1 t2 (by omega) λj h1 h2=>by
    have k1:j < xs.length:=by rw [v1.length]; simpa using h1
    have k2:j < ys.length:=by rw [v2.length]; simpa using h2
    obtain⟨u1,q1,w1⟩:=v1.get (Yc k1)
    obtain⟨u2,q2,w2⟩:=v2.get (Yc k2)
    have g1:its.toArray[j]=u1:=by
     have:=Yf.mp q1
     obtain⟨hh,this⟩:=this
     simpa using this
    have g2:jts.toArray[j]=u2:=by
     have:=Yf.mp q2
     obtain⟨hh,this⟩:=this
     simpa using this
    rw [g1,g2]
    exact (ih j _ _ (Yc k1) (Yc k2) w1 w2 (by show A.units + 1 + n < cLine; omega)).1
   simpa [v1.length,v2.length] using z
  refine⟨?_,λ_=>rc⟩
  by_cases q:a=b
  ·have:=(EqD.tup ha hb h).self (by rw [q])
   rw [this,q]
   exact SeqAt.EqAt.same _
  ·exact SeqAt.EqAt.of_refs q rc
 | @lst a b xs ys e n ha hb hl h ih =>
  intro A u v r1 r2 hu
  cases r1
  cases r2
  obtain⟨its,v1,t1,_⟩:=I.list (JY.of ha)
  obtain⟨jts,v2,t2,_⟩:=I.list (JY.of hb)
  have rc:SeqAt.RcAt A s (.ref a) (.ref b) ((List.range xs.length).all e):=by
   have z:=SeqAt.RcAt.lists (A:=A) (s:=s) (e:=e) t1.isList t2.isList (by simp [<- v1.length,<- v2.length,hl]) (by omega) λj h1 h2=>by
    have k1:j < xs.length:=by rw [v1.length]; simpa using h1
    have k2:j < ys.length:=by rw [v2.length]; simpa using h2
    obtain⟨u1,q1,w1⟩:=v1.get (Yc k1)
    obtain⟨u2,q2,w2⟩:=v2.get (Yc k2)
    have g1:its.toArray[j]=u1:=by
     have:=Yf.mp q1
     obtain⟨hh,this⟩:=this
     simpa using this
    have g2:jts.toArray[j]=u2:=by
     have:=Yf.mp q2
     obtain⟨hh,this⟩:=this
     simpa using this
    rw [g1,g2]
    exact (ih j _ _ (Yc k1) (Yc k2) w1 w2 (by show A.units + 1 + n < cLine; omega)).1
   simpa [v1.length,v2.length] using z
  refine⟨?_,λ_=>rc⟩
  by_cases q:a=b
  ·have:=(EqD.lst ha hb hl h).self (by rw [q])
   rw [this,q]
   exact SeqAt.EqAt.same _
  ·exact SeqAt.EqAt.of_refs q rc
 | up h ih =>
  intro A u v r1 r2 hu
  exact ih r1 r2 (by omega)
 | @lstNe a b xs ys n ha hb hl =>
  intro A u v r1 r2 hu
  cases r1
  cases r2
  obtain⟨its,v1,t1,_⟩:=I.list (JY.of ha)
  obtain⟨jts,v2,t2,_⟩:=I.list (JY.of hb)
  have rc:SeqAt.RcAt A s (.ref a) (.ref b) false:=SeqAt.RcAt.lists_lengths t1.isList t2.isList (by simp [<- v1.length,<- v2.length]; exact hl) (by omega)
  have ne:a ≠ b:=λq=>by
   subst q
   rw [ha] at hb
   injection hb with hb
   injection hb with hb
   subst hb
   exact hl rfl
  exact⟨SeqAt.EqAt.of_refs ne rc,λ_=>rc⟩
end
section
variable {X:Cx}{a b:Expr}{ta tb:TE}{pos:Pos}{k:Nat}
def Zsb:R2:=λx y H Q=>∃ t n p c,x=.ref p/\y=.ref c/\EqD H x y t n/\n<=60/\Q (.bl t) H
def Zpr(hr:Room k X.A):OpR X (compareOp .Eq) Zsb:=by
 intro pins s Z H x y v u Q I rx ry h
 obtain⟨t,n,p,c,e1,e2,h,hn,q⟩:=h
 have hu:=hr.units
 exact ((h.at I rx ry (by omega)).2 ⟨p,c,e1,e2⟩) _ _ _ _ ⟨.bl t,H,I,rfl,q⟩
def ZrY(hr:Room k X.A)(ha:QE X a ta)(hb:QE X b tb):QE X (.Compare a [.Eq] [b] pos) (JT Zsb ta tb):=⟨ZdQ (Zpr hr) ha.h hb.h (Zcx _)⟩
def Zsf(hr:Room k X.A)(ha:QE X a ta)(hb:QE X b tb):QT X (.Compare a [.Eq] [b] pos) (JF (JT Zsb ta tb)):=⟨Zc9 (Zpr hr) ha.h hb.h (Zcx _)⟩
end
section
variable {X:Cx}{pins:List (Addr × Obj)}{Z:St}{H:Hp}{s:Shared}{h':Heap}
theorem Ze0:∀ {xs:List V}{us:List Value},xs.length=us.length->(∀ (i:Nat) x u,xs[i]?=some x->us[i]?=some u->ZP x u)->ZD xs us
 | [],[],_,_=>.nil
 | x :: xs,u :: us,hl,h=>.cons (h 0 x u rfl rfl) (Ze0 (by simpa using hl) λi x u h1 h2=>h (i + 1) x u h1 h2)
def Zrk(lo hi:Int):List V:=(List.range (hi - lo).toNat).map λk:Nat=>V.int (lo + (k:Int))
theorem Zgm{lo hi:Int}:(Zrk lo hi).length=(hi - lo).toNat:=by simp [Zrk]
def Zor{lo hi:Int}{i:Nat}(h:i < (hi - lo).toNat):(Zrk lo hi)[i]?=some (.int (lo + i)):=by
 unfold Zrk
 rw [Yh,List.getElem?_range h]
 rfl
def Zkh(K:PySem.W.Frag):List V->Hp->VK->Prop:=λxs H Q=>∃ p ys,xs=[.ref p]/\(JY K H p ys\/SqT K H p ys\/∃ lo hi,H p=some (.rng lo hi)/\-(2 ^ 62)<=lo/\lo < 2 ^ 62/\-(2 ^ 62)<=hi/\hi < 2 ^ 62/\ys=Zrk lo hi/\hi - lo<=1000000) /\
 ∀ l H2,H l=none->Zn H H2->H2 l=some (.lst ys)->Q (.ref l) H2
def ZjI(hc:X.calm=true):JM X (.type "list") (Zkh X.K):=by
 intro pins s Z H xs us Q I r h
 obtain⟨p,ys,rfl,hq,q⟩:=h
 have old:∀ l,H l=none->Q (.ref l) (upd H l (.lst ys)):=λl hl=>q l _ hl (ZH hl _) Zi
 rcases hq with hq | hq | ⟨lo,hi,hq,h1,h2,h3,h4,rfl,h5⟩
 ·exact Zd6 pins s Z H [.ref p] us Q I r ⟨p,ys,rfl,.inl hq,old⟩
 ·exact Zd6 pins s Z H [.ref p] us Q I r ⟨p,ys,rfl,.inr hq,old⟩
 ·obtain⟨u,rfl,rx⟩:=Zdh r
  cases rx
  obtain⟨t,u,v,hr⟩:=I.hok p _ hq
  have hn:Builtin.Range.rangeSize lo hi 1=((hi - lo).toNat:Int):=by rw [rangeSize_one]; split <;> omega
  refine call_list_range (I.ok.hd hc) hr (small_one h1 h2 h3 h4) hn (by omega) λh' tk acc' c' kk hl ⟨hs,hacc⟩=>?_
  have hf:H s.heap.objs.size=none:=I.hok.fresh (Yd _)
  refine⟨.ref s.heap.objs.size,_,I.laid kk (Nat.le_refl _) (show Ji X.prog X.w _ h' _ (.lst (Zrk lo hi)) from ⟨?_,acc'.toList,c',Ze0 ?_ λi x u e1 e2=>?_,by simpa using hl⟩),rfl,old _ hf⟩
  ·rw [Zgm]; exact Yj (m:=1000000) (by omega) (by decide)
  ·rw [Zgm]; simpa using hs.symm
  ·have hi:i < (hi - lo).toNat:=by rw [<- Zgm]; exact (Yf.mp e1).1
   rw [Zor hi] at e1
   cases e1
   obtain⟨t,rfl⟩:=hacc i u (by simpa using e2)
   exact⟨t,by rw [Int.mul_one]⟩
end
def Zk1(X:Cx)(N:List Str)(sc:Scope)(cl:List (Str × Addr))(fn:Str->Bool)(s:Shared)(H:Hp)(fp:List Addr):Cx where
 prog:=X.prog
 w:=X.w
 K:=X.K
 mg:=X.mg
 base:=X.base
 A:=X.A
 N:=N
 s₀:=s
 H₀:=H
 env:=compEnvC sc cl s.heap.objs.size X.env
 outer:=X.stack
 stack:=X.stack
 ex:=fp
 calm:=X.calm
 fn:=fn
 pn:=[]
 xe:=λ_ _=>False
abbrev blk(X:Cx)(N:List Str)(sc:Scope)(cl:List (Str × Addr))(s:Shared)(H:Hp)(fp:List Addr):Cx:=Zk1 X N sc cl (λ_=>false) s H fp
def JU(Z:St)(caps:List Nat):St:=caps.map λi=>(Z[i]?).join
structure Blk(X:Cx)(ts:List Str)(caps:List Nat)(cs:List Str)(sc:Scope)(cl:List (Str × Addr)):Prop where
 clos:closureFor sc X.env=pure cl
 kind:sc.kind=.function
 cell:∀ x∈sc.names,x.2 ≠ .cell
 loc:∀ x∈sc.names,x.2=.local->sc.names.lookup x.1=some .local
 sub:∀ x c,cl.lookup x=some c->X.env.cells.lookup x=some c
 has:∀ x,((relabel sc X.env).names.lookup x=some .cell\/(relabel sc X.env).names.lookup x=some .free)->∃ c,cl.lookup x=some c
 len:caps.length=cs.length
 cap:∀ (k:Nat) i x,caps[k]?=some i->cs[k]?=some x->X.N[i]?=some x/\(X.env.kindOf x=some .cell\/X.env.kindOf x=some .free)
 capK:∀ x∈cs,(relabel sc X.env).names.lookup x=some .cell\/(relabel sc X.env).names.lookup x=some .free
section
variable {X:Cx}{pins:List (Addr × Obj)}{Z:St}{H:Hp}{s:Shared}{ts cs:List Str}{caps:List Nat}{sc:Scope}{cl:List (Str × Addr)}{fp:List Addr}
theorem Zpc(B:Blk X ts caps cs sc cl)(I:Inv X pins Z H s)(hf:∀ b∈fp,Zkm X pins H b)(hlt:∀ b∈fp,b < s.heap.objs.size):(blk X (ts ++ cs) sc cl s H fp).Ok where
 mod:=I.ok.mod
 kind:=B.kind
 glob:=I.ok.glob
 blt:=I.ok.blt
 above:=Yd _
 inj:=λx y c h1 h2=>I.ok.inj x y c (B.sub x c h1) (B.sub y c h2)
 has:=λx h=>B.has x h
 cab:=λx c h _=>by cases h
 hd:=I.ok.hd
 frames:=I.ok.frames
 stk:=.inl rfl
 exf:=λb hb=>⟨Yn (hlt b hb),λx c h=>(hf b hb).2.2.2.2.1 x c (B.sub x c h)⟩
 bs:=I.bs
 bsz:=Yj I.ok.bsz I.sz
 noex:=λb o e hb=>by
  rcases (hf b hb).2.2.2.1 with z | z
  ·exact I.ok.noex b o e z
  ·exact YR _ (Yq (Ye (I.ok.bs b o e).1) z)
 exfs:=λb hb z=>by
  rcases Yl.mp (I.stkSub b z) with e | e
  ·exact (hf b hb).2.1 e
  ·exact (hf b hb).2.2.1 e
 funs:=I.stack
 frf:=I.stkFree
def Zp1(B:Blk X ts caps cs sc cl)(I:Inv X pins Z H s)(hf:∀ b∈fp,Zkm X pins H b)(hlt:∀ b∈fp,b < s.heap.objs.size){h₁:Heap}{t':Nat}(hn:h₁.Ns s.heap.objs.size λ_=>none)(kk:∀ b o,s.heap.get? b=some o->h₁.get? b=some o) :
  Inv (blk X (ts ++ cs) sc cl s H fp) [] (List.replicate ts.length none ++ JU Z caps) H { s with heap:=h₁,toks:=t' }:=by
 have hfr:H s.heap.objs.size=none:=I.hok.fresh (Yd _)
 refine⟨Zpc B I hf hlt,rfl,I.bare,Un.kept kk,⟨_,hn,λi x v h1 h2 h3=>?_⟩,λx c e=>?_,hfr,λx c e=>I.freeC x c (B.sub x c e),λp hp=>absurd (show p∈([]:List (Addr × Obj)) from hp) (by simp),I.hok.kept kk,?_⟩
 ·have hi:¬ i < ts.length:=λhi=>by
   rw [List.getElem?_append_left (by simpa using hi),List.getElem?_replicate,if_pos hi] at h2
   cases h2
  have h1':(ts ++ cs)[i]?=some x:=h1
  rw [YI (by omega)] at h1'
  rw [List.getElem?_append_right (by simp; omega),List.length_replicate] at h2
  unfold JU at h2
  rw [Yh] at h2
  cases e:caps[i - ts.length]? with
  | none=>rw [e] at h2; cases h2
  | some j =>
   rw [e] at h2
   have h2':(Z[j]?).join=some v:=by simpa using h2
   have h2'':Z[j]?=some (some v):=by
    cases q:Z[j]? with
    | none=>rw [q] at h2'; cases h2'
    | some o=>rw [q] at h2'; cases h2'; rfl
   obtain⟨hN,hk⟩:=B.cap _ _ _ e h1'
   obtain⟨m,hm,hl⟩:=I.loc
   obtain⟨u,r,l⟩:=hl j x v hN h2'' (.inr hk)
   refine⟨u,r,?_⟩
   rcases l with ⟨l,_⟩ | ⟨_,c,hc,⟨o,ho,hd⟩⟩
   ·rcases hk with z | z <;> (rw [z] at l; cases l)
   ·have ck:=B.capK x (Yz h1')
    obtain⟨c',hc'⟩:=B.has x ck
    have:=B.sub x c' hc'
    rw [hc] at this
    cases this
    exact .inr ⟨ck,c,hc',o,kk c o ho,hd⟩
 ·obtain⟨v,o,ho,hd⟩:=I.cell x c (B.sub x c e)
  exact⟨v,o,kk c o ho,hd⟩
 ·show (List.replicate ts.length (none:Option V) ++ JU Z caps).length=(ts ++ cs).length
  rw [YZ,YZ,List.length_replicate]
  unfold JU
  rw [Yi,B.len]
def Zms(ifs:List Expr)(env:Env):Sem Bool:=forIn ifs true λc r=>if r=true then do let ok <- isTrue c env (eval c env); pure (ForInStep.yield ok) else pure (ForInStep.yield r)
def PTs(X:Cx)(ifs:List Expr)(t:TT):Prop :=
 ∀ (pins:List (Addr × Obj)) (s:Shared) (Z:St) (H:Hp) (Q:Bool->Hp->Prop),Inv X pins Z H s->t Z H Q->wpAny (model X.prog X.w) X.A (Zms ifs X.env) (TP X pins Z Q) X.xe s
def ZpS:TT:=λ_ H Q=>Q true H
def ZlP:PTs X [] ZpS:=λ_ _ _ H _ I h=>wpAny_tests_nil ⟨H,I,h⟩
def Zqn{c:Expr}{t:TT}(h:PT X c t):PTs X [c] t:=λpins s Z H Q I hq=>wpAny_tests_one (h pins s Z H Q I hq)
def Zk0{prog:Program}{w:World}{A:Around}{R:Result->Shared->Prop}{s:Shared}{elt target iter:Expr}{ifs:List Expr}{scope:Scope}{pos:Pos}{it acc:Value}{env:Env}(I:Nat->Shared->Prop)
  (turn:∀ n s,I n s->wpAny (model prog w) A (pyNext it) (λr s₁=>match r with
   | none=>R (.ok .next) s₁
   | some v=>wpAny (model prog w) A (letOwnedTupleGo target it v) (λ_ s₁'=>wpAny (model prog w) A (assign target env v) (λ_ s₂=>wpAny (model prog w) A (Zms ifs env) (λok s₃ =>
     if ok=true then wpAny (model prog w) A (eval elt env) (λx s₄ =>
      wpAny (model prog w) A (call (.builtin "list.append") [acc,x]) (λ_ s₅=>∃ m,m < n/\I m s₅) (notedBy (model prog w) A env λe s'=>R (.error e) s') s₄) (notedBy (model prog w) A env λe s'=>R (.error e) s') s₃
     else ∃ m,m < n/\I m s₃) (notedBy (model prog w) A env λe s'=>R (.error e) s') s₂) (notedBy (model prog w) A env λe s'=>R (.error e) s') s₁') (notedBy (model prog w) A env λe s'=>R (.error e) s') s₁) (notedBy (model prog w) A env λe s'=>R (.error e) s') s)
  (n:Nat) (h:I n s):codeAny (model prog w) A (.compLoop (.ListComp elt [⟨target,iter,ifs,0⟩] scope pos) 0 it acc env) R s:=by
 refine codeAny_loop rfl I (λn s hI=>?_) n h
 show wpAny _ _ ((compTurn (.ListComp elt [⟨target,iter,ifs,0⟩] scope pos) 0 it acc env).onRaise (λx=>do noteFrame x env; theTreesLotGoes x)) _ _ s
 refine wpAny_noted ?_
 rw [compTurn_list]
 refine Ya (wpAny_standAt (Ya (Yo (turn n s hI) (λr s₁ h₁=>?_) λ_ _ h'=>h')))
 cases r with
 | none=>exact Yb h₁
 | some v =>
  refine Ya (Yo h₁ (λ_ s₁' h₁'=>?_) λ_ _ h'=>h')
  refine Ya (Yo h₁' (λ_ s₂ h₂=>Ya (Yo h₂ (λok s₃ h₃=>?_) λ_ _ h'=>h')) λ_ _ h'=>h')
  cases ok with
  | false=>exact Yb ⟨rfl,h₃⟩
  | true=>exact Ya (Ya (Yo h₃ (λx s₄ h₄=>Ya (Yo h₄ (λ_ s₅ h₅=>Yb (Yb ⟨rfl,h₅⟩)) λ_ _ h'=>h')) λ_ _ h'=>h'))
def Zh1(nt:Nat)(cp:St)(J:It)(g:TG)(tt:TT)(te:TE)(H1:Hp)(Q:VK):Prop:=∀ acc H2,H1 acc=none->Zn H1 H2->H2 acc=some (.lst []) ->
 ∃ W:Nat->Nat->List V->Hp->Prop,(∃ m,W 0 m [] H2)/\∀ i m ys H,W i m ys H->H acc=some (.lst ys)/\((J.stop i H/\Q (.ref acc) H)\/(J.go i H/\ys.length < 1000000/\∃ N:List V->Hp->Prop,(∀ ys' H',N ys' H'->∃ m',m' < m/\W (i + 1) m' ys' H') /\
  ∀ os x H',os.length=nt->J.yld i H x H'->g x (os ++ cp) H' λτ H3=>∃ os',os'.length=nt/\τ=os' ++ cp/\tt τ H3 λb H4=>if b=true then te τ H4 λv H5=>H5 acc=some (.lst ys)/\N (ys ++ [v]) (upd H5 acc (.lst (ys ++ [v]))) else N ys H4))
def Zrj(nt:Nat)(cp:St)(J:It)(g:TG)(te:TE)(H1:Hp)(Q:VK):Prop:=Zh1 nt cp J g ZpS te H1 Q
def ZiI(nt:Nat)(caps:List Nat)(wi:TI)(g:TG)(tt:TT)(te:TE):TE:=λZ H Q=>wi Z H λJ H1=>Zh1 nt (JU Z caps) J g tt te H1 Q
def ZgA(nt:Nat)(caps:List Nat)(wi:TI)(g:TG)(te:TE):TE:=λZ H Q=>wi Z H λJ H1=>Zrj nt (JU Z caps) J g te H1 Q
def ZhY(X:Cx)(pins:List (Addr × Obj))(Z:St)(Q:VK)(acc:Value)(C:Addr)(r:Result)(s':Shared):Prop :=
 r=.ok .next/\∃ a H',acc=.ref a/\Inv X pins Z H' s'/\Zkm X pins H' C/\(∃ m,s'.heap.Ns C m)/\Q (.ref a) H'
def Zrd{elt target iter:Expr}{ifs:List Expr}{pos:Pos}{g:TG}{tt:TT}{te:TE}{it acc:Addr}{tn:Nat->Heap->Prop}{J:It}{Q:VK}{cells:List (Str × Addr)}{fn:Str->Bool}{s3 s4:Shared}{H3:Hp}{W:Nat->Nat->List V->Hp->Prop}{m0:Nat}(hc:X.calm=true)
  (hg:PG (Zk1 X (ts ++ cs) sc cells fn s3 H3 fp) target g) (ht:PTs (Zk1 X (ts ++ cs) sc cells fn s3 H3 fp) ifs tt) (he:PE (Zk1 X (ts ++ cs) sc cells fn s3 H3 fp) elt te) (ok:(Zk1 X (ts ++ cs) sc cells fn s3 H3 fp).Ok)
  (I3:Inv X pins Z H3 s3) (f3:∀ b∈fp,Zkm X pins H3 b) (hlt3:∀ b∈fp,b < s3.heap.objs.size) (T:Turn X.prog X.w X.K target J fp it tn) (J4:Inv (Zk1 X (ts ++ cs) sc cells fn s3 H3 fp) [] (List.replicate ts.length none ++ JU Z caps) H3 s4) (st4:tn 0 s4.heap) (w0:W 0 m0 [] H3)
  (step:∀ i m ys H,W i m ys H->H acc=some (.lst ys)/\((J.stop i H/\Q (.ref acc) H)\/(J.go i H/\ys.length < 1000000/\∃ N:List V->Hp->Prop,(∀ ys' H',N ys' H'->∃ m',m' < m/\W (i + 1) m' ys' H') /\
   ∀ os x H',os.length=ts.length->J.yld i H x H'->g x (os ++ JU Z caps) H' λτ H3=>∃ os',os'.length=ts.length/\τ=os' ++ JU Z caps/\tt τ H3 λb H4=>if b=true then te τ H4 λv H5=>H5 acc=some (.lst ys)/\N (ys ++ [v]) (upd H5 acc (.lst (ys ++ [v]))) else N ys H4))) :
  codeAny (model X.prog X.w) X.A (.compLoop (.ListComp elt [⟨target,iter,ifs,0⟩] sc pos) 0 (.ref it) (.ref acc) (compEnvC sc cells s3.heap.objs.size X.env)) (ZhY X pins Z Q (.ref acc) s3.heap.objs.size) s4:=by
 have stat:∀ {H':Hp},(∀ b∈fp,H' b=none)->∀ b∈fp,Zkm (Zk1 X (ts ++ cs) sc cells fn s3 H3 fp) [] H' b:=λhn b hb =>
  ⟨hn b hb,Nat.ne_of_lt (hlt3 b hb),ok.exfs b hb,.inl hb,ok.exf b hb |>.2,λp hp=>absurd (show p∈([]:List (Addr × Obj)) from hp) (by simp)⟩
 refine Zk0 (λn s'=>∃ i os ys H',os.length=ts.length/\Inv (Zk1 X (ts ++ cs) sc cells fn s3 H3 fp) [] (os ++ JU Z caps) H' s'/\tn i s'.heap/\(∀ b∈fp,H' b=none)/\W i n ys H') ?_ m0
  ⟨0,List.replicate ts.length none,[],_,by simp,J4,st4,λb hb=>(f3 b hb).1,w0⟩
 rintro n s5 ⟨i,os,ys,H5,ol,J5,st5,fr5,w5⟩
 obtain⟨ha,hcase⟩:=step i n ys H5 w5
 rcases hcase with ⟨stop,q⟩ | ⟨go,hys,N,hN,turn⟩
 ·refine Jl (T.done (Zk1 X (ts ++ cs) sc cells fn s3 H3 fp) rfl rfl rfl hc i [] s5 _ H5 _ J5 (stat fr5) st5 stop) λr s6 ⟨hr,J6⟩=>?_
  subst hr
  have hf6:H5 s3.heap.objs.size=none:=J6.free
  obtain⟨m6,hm6,_⟩:=J6.loc
  exact⟨rfl,_,H5,rfl,I3.call' (J6.os) J6.base J6.hok J6.bare (λb hb=>⟨(f3 b hb).2.2.2.1,(f3 b hb).2.1,(f3 b hb).2.2.2.2.1,(f3 b hb).2.2.2.2.2⟩),I3.fpOk (Yd _) hf6,⟨m6,hm6⟩,q⟩
 ·refine Jl (T.item (Zk1 X (ts ++ cs) sc cells fn s3 H3 fp) rfl rfl rfl hc i [] s5 _ H5 _ J5 (stat fr5) st5 go) λr s6 ⟨u,hr,h6⟩=>?_
  subst hr
  refine Jl h6 λ_ s7 ⟨x,H7,J7,r7,y7,st7,fr7⟩=>?_
  have J7':=J7.pinned (stat fr7) (T.obj _ _ st7)
  refine Yo (hg _ s7 _ H7 x u _ J7' r7 (turn os x H7 ol y7)) (λ_ s8 ⟨Z8,H8,J8,os',ol',e8,q8⟩=>?_) λ_ _ z=>z.elim
  subst e8
  refine Yo (ht _ s8 _ H8 _ J8 q8) (λb s8' ⟨H8',J8',q8'⟩=>?_) λ_ _ z=>z.elim
  cases b with
  | false =>
   rw [if_neg (by decide)] at q8' ⊢
   obtain⟨m',hm',w9⟩:=hN _ _ q8'
   refine⟨m',hm',i + 1,os',ys,_,ol',J8'.unpinned,T.keep _ _ _ st7 λb hb o e=>(J8'.pin (b,o) (Yy _ (Yy _ (ZbL hb e)))).1,λb hb=>?_,w9⟩
   obtain⟨o,e,d⟩:=T.obj _ _ st7 b hb
   exact (J8'.pin (b,o) (Yy _ (Yy _ (ZbL hb e)))).2.1
  | true =>
   rw [if_pos rfl] at q8' ⊢
   refine Yo (he _ s8' _ H8' _ J8' q8') (λv s9 ⟨v9,H9,J9,r9,ha9,n9⟩=>?_) λ_ _ z=>z.elim
   refine Yo (ZgU (X:=Zk1 X (ts ++ cs) sc cells fn s3 H3 fp) _ s9 _ H9 (.ref acc) [v9] (.ref acc) [v] (λ_ H'=>H'=upd H9 acc (.lst (ys ++ [v9]))) J9 rfl (.cons r9 .nil) ⟨_,ys,v9,rfl,rfl,ha9,Zuu hys,rfl⟩) (λ_ s10 ⟨_,H10,J10,_,e10⟩=>?_) λ_ _ z=>z.elim
   subst e10
   obtain⟨m',hm',w9⟩:=hN _ _ n9
   refine⟨m',hm',i + 1,os',ys ++ [v9],_,ol',J10.unpinned,T.keep _ _ _ st7 λb hb o e=>(J10.pin (b,o) (Yy _ (Yy _ (ZbL hb e)))).1,λb hb=>?_,w9⟩
   obtain⟨o,e,d⟩:=T.obj _ _ st7 b hb
   exact (J10.pin (b,o) (Yy _ (Yy _ (ZbL hb e)))).2.1
def Zmz{elt target iter:Expr}{ifs:List Expr}{pos:Pos}{g:TG}{tt:TT}{te:TE}{it:Addr}{tn:Nat->Heap->Prop}{J:It}{Q:VK}{E:VSP}(B:Blk X ts caps cs sc cl)(hc:X.calm=true)
  (hg:∀ s H fp,PG (blk X (ts ++ cs) sc cl s H fp) target g) (ht:∀ s H fp,PTs (blk X (ts ++ cs) sc cl s H fp) ifs tt) (he:∀ s H fp,PE (blk X (ts ++ cs) sc cl s H fp) elt te)
  (I2:Inv X pins Z H s) (T:Turn X.prog X.w X.K target J fp it tn) (st2:tn 0 s.heap) (f2:∀ b∈fp,Zkm X pins H b) (h:Zh1 ts.length (JU Z caps) J g tt te H Q) :
  wpAny (model X.prog X.w) X.A (newList []) (λacc s₃=>wpAny (model X.prog X.w) X.A (newFunctionEnv sc X.env.globals cl [] X.env.qual none .none (some X.env)) (λcenv s₄ =>
   codeAny (model X.prog X.w) X.A (.compStart (.ListComp elt [⟨target,iter,ifs,0⟩] sc pos) 0 (.ref it) acc { cenv with scope:=relabel sc X.env }) (ZhY X pins Z Q acc cenv.locals) s₄) E s₃) E s:=by
 refine wpAny_newObj_type (wpAny_newFunctionEnv B.cell (by intro y hy; simp at hy) (λh₁ hns₁ hsb₁=>?_) B.kind)
 dsimp only at hns₁ hsb₁ ⊢
 have hnew:H s.heap.objs.size=none:=I2.hok.fresh (Yd _)
 have I3:Inv X pins Z (upd H s.heap.objs.size (.lst [])) { s with heap:=s.heap.push { cls:=.type "list",dict:=none,data:=.seq ([]:List Value).toArray } } :=
  I2.laid (t':=s.toks) (λb u e=>Yg _ e) (Yd _) ⟨YA _,[],0,.nil,Ym _ rfl⟩
 obtain⟨W,⟨m0,w0⟩,step⟩:=h s.heap.objs.size _ hnew (ZH hnew _) Zi
 have old2:∀ b o,s.heap.get? b=some o->(s.heap.push { cls:=.type "list",dict:=none,data:=.seq ([]:List Value).toArray }).get? b=some o:=λb o e=>Yg _ e
 generalize hs3:({ s with heap:=s.heap.push { cls:=.type "list",dict:=none,data:=.seq ([]:List Value).toArray } }:Shared)=s3 at I3
 have hh:s.heap.push { cls:=.type "list",dict:=none,data:=.seq ([]:List Value).toArray }=s3.heap:=by rw [<- hs3]
 rw [hh] at hns₁ hsb₁ old2
 have fpO:∀ b∈fp,∃ o,s.heap.get? b=some o:=λb hb=>let ⟨o,e,_⟩:=T.obj 0 _ st2 b hb; ⟨o,e⟩
 have f3:∀ b∈fp,Zkm X pins (upd H s.heap.objs.size (.lst [])) b:=λb hb=>⟨by
  obtain⟨o,e⟩:=fpO b hb
  rw [Zj (Yn (Ye e))]; exact (f2 b hb).1,(f2 b hb).2⟩
 have hlt3:∀ b∈fp,b < s3.heap.objs.size:=λb hb=>let ⟨o,e⟩:=fpO b hb; Ye (old2 b o e)
 have kk:∀ b o,s3.heap.get? b=some o->h₁.get? b=some o:=λb o e=>hsb₁.extBut b o (Yn (Ye e)) (Yg _ e)
 have J4:=Zp1 (t':=s.toks + ([]:List (Str × Value)).length) B I3 f3 hlt3 (h₁:=h₁) hns₁ kk
 have st4:tn 0 h₁:=T.keep _ _ _ st2 λb hb o e=>kk b o (old2 b o e)
 have key:∀ s4:Shared,s4={ s3 with heap:=h₁,toks:=s.toks + ([]:List (Str × Value)).length } ->
   codeAny (model X.prog X.w) X.A (.compLoop (.ListComp elt [⟨target,iter,ifs,0⟩] sc pos) 0 (.ref it) (.ref s.heap.objs.size) (compEnvC sc cl s3.heap.objs.size X.env)) (ZhY X pins Z Q (.ref s.heap.objs.size) s3.heap.objs.size) s4:=by
  rintro s4 rfl
  exact Zrd hc (hg _ _ _) (ht _ _ _) (he _ _ _) (Zpc B I3 f3 hlt3) I3 f3 hlt3 T J4 st4 w0 step
 have key2:=key { s with heap:=h₁,toks:=s.toks + ([]:List (Str × Value)).length } (by rw [<- hs3])
 rw [hh]
 exact codeAny_compStart_list key2 (T.self _ 0 _ _ _ st4 key2)
def Znq{elt target iter:Expr}{ifs:List Expr}{pos:Pos}{wi:TI}{g:TG}{tt:TT}{te:TE}(B:Blk X ts caps cs sc cl)(hi:PI X target iter wi)
  (hg:∀ s H fp,PG (blk X (ts ++ cs) sc cl s H fp) target g) (ht:∀ s H fp,PTs (blk X (ts ++ cs) sc cl s H fp) ifs tt) (he:∀ s H fp,PE (blk X (ts ++ cs) sc cl s H fp) elt te) (hc:X.calm=true:=by rfl) (hs:∀ x,foldedSetIterable iter X.env x=pure x:=by intro _; rfl) :
  PE X (.ListComp elt [⟨target,iter,ifs,0⟩] sc pos) (ZiI ts.length caps wi g tt te):=by
 intro pins s Z H Q I h
 rw [eval_ListComp]
 refine wpAny_comprehension_free (use:=none) rfl hs B.clos B.kind B.loc (Jl (hi pins s Z H _ I h) λv s1 h1=>Jl h1 λitv s2 h2=>?_)
 obtain⟨it,fp,tn,J,H2,e,I2,T,st2,f2,hq⟩:=h2
 subst e
 refine Jl (Zmz B hc hg ht he I2 T st2 f2 hq) λacc s3 h3=>Jl h3 λcenv s4 h4=>YF h4 λr s' hp=>?_
 obtain⟨rfl,a,H',rfl,I',fC,⟨m,hm⟩,q⟩:=hp
 exact⟨m,hm,λh' sb=>⟨.ref a,H',I'.turned (t':=s'.toks) (λb o hb e=>sb.extBut b o hb e) fC.1 fC.2.1 fC.2.2.2.1 fC.2.2.2.2.1 fC.2.2.2.2.2,rfl,q⟩⟩
def ZeY{elt target iter:Expr}{ifs:List Expr}{x:Str}{px pos spos:Pos}{wi:TI}{g:TG}{tt:TT}{te:TE}(i:Nat)(B:Blk X ts caps cs sc cl)(hi:PI X target iter wi)
  (hg:∀ s H fp,PG (blk X (ts ++ cs) sc cl s H fp) target g) (ht:∀ s H fp,PTs (blk X (ts ++ cs) sc cl s H fp) ifs tt) (he:∀ s H fp,PE (blk X (ts ++ cs) sc cl s H fp) elt te) (hx:PG X (.Name x px) (Zdb i))
  (hsw:swapsWith (.ListComp elt [⟨target,iter,ifs,0⟩] sc pos) (some (.Name x px)) spos.line X.env=pure true) (hc:X.calm=true:=by rfl) (hs:∀ x,foldedSetIterable iter X.env x=pure x:=by intro _; rfl) :
  PS X (.Assign [.Name x px] (.ListComp elt [⟨target,iter,ifs,0⟩] sc pos) spos) (Zm4 (ZiI ts.length caps wi g tt te) (Zdb i)):=by
 intro pins s Z H D I h
 rw [exec_Assign_Name_used _ _ _ _ hsw]
 refine Ya (wpAny_standAt (Ya ?_))
 show wpAny _ X.A (do let _ <- comprehension (.ListComp elt [⟨target,iter,ifs,0⟩] sc pos) sc X.env _ (newList []) false (eval iter X.env) (some (assign (.Name x px) X.env))) _ _ s
 refine Ya (Yo (wpAny_comprehension_free (use:=some (assign (.Name x px) X.env)) (Q:=λ_ s'=>SP X pins D .next s') rfl hs B.clos B.kind B.loc
  (Jl (hi pins s Z H _ I h) λv s1 h1=>Jl h1 λitv s2 h2=>?_)) (λ_ s' hq=>Yb (Yb hq)) λ_ _ e=>e)
 obtain⟨it,fp,tn,J,H2,e,I2,T,st2,f2,hq⟩:=h2
 subst e
 refine Jl (Zmz B hc hg ht he I2 T st2 f2 hq) λacc s3 h3=>Jl h3 λcenv s4 h4=>YF h4 λr s' hp=>?_
 obtain⟨rfl,a,H',rfl,I',fC,⟨m,hm⟩,q⟩:=hp
 obtain⟨oC,esC,epC,hoC,hdC,rC⟩:=id hm
 have Ip:Inv X (pins ++ [(cenv.locals,oC)]) Z H' s':=I'.pins_of λp hp=>by
  rcases Yp.mp hp with z | z
  ·exact I'.pin p (Yy _ z)
  ·have z:p=(cenv.locals,oC):=by simpa using z
   subst z
   exact⟨hoC,fC.1,fC.2.1,fC.2.2.1,λv z=>by rw [show oC.data=_ from hdC] at z; cases z⟩
 refine Jl (hx _ s' Z H' (.ref a) (.ref a) _ Ip rfl q) λ_ s5 ⟨Z5,H5,I5,q5⟩=>?_
 have pC:=I5.pin (cenv.locals,oC) (List.mem_append_right _ (List.mem_append_right _ (by simp)))
 refine⟨m,⟨oC,esC,epC,pC.1,hdC,rC⟩,λh' sb=>⟨Z5,H5,I5.unpinned.turned (t':=s5.toks) (λb o hb e=>sb.extBut b o hb e) pC.2.1 fC.2.1 fC.2.2.2.1 fC.2.2.2.2.1 fC.2.2.2.2.2,q5⟩⟩
def Zra{elt target iter:Expr}{pos:Pos}{wi:TI}{g:TG}{te:TE}(B:Blk X ts caps cs sc cl)(hi:PI X target iter wi)
  (hg:∀ s H fp,PG (blk X (ts ++ cs) sc cl s H fp) target g) (he:∀ s H fp,PE (blk X (ts ++ cs) sc cl s H fp) elt te) (hc:X.calm=true:=by rfl) (hs:∀ x,foldedSetIterable iter X.env x=pure x:=by intro _; rfl) :
  PE X (.ListComp elt [⟨target,iter,[],0⟩] sc pos) (ZgA ts.length caps wi g te):=Znq B hi hg (λ_ _ _=>ZlP) he hc hs
def Zkj{elt target iter:Expr}{x:Str}{px pos spos:Pos}{wi:TI}{g:TG}{te:TE}(i:Nat)(B:Blk X ts caps cs sc cl)(hi:PI X target iter wi)
  (hg:∀ s H fp,PG (blk X (ts ++ cs) sc cl s H fp) target g) (he:∀ s H fp,PE (blk X (ts ++ cs) sc cl s H fp) elt te) (hx:PG X (.Name x px) (Zdb i))
  (hsw:swapsWith (.ListComp elt [⟨target,iter,[],0⟩] sc pos) (some (.Name x px)) spos.line X.env=pure true) (hc:X.calm=true:=by rfl) (hs:∀ x,foldedSetIterable iter X.env x=pure x:=by intro _; rfl) :
  PS X (.Assign [.Name x px] (.ListComp elt [⟨target,iter,[],0⟩] sc pos) spos) (Zm4 (ZgA ts.length caps wi g te) (Zdb i)):=ZeY i B hi hg (λ_ _ _=>ZlP) he hx hsw hc hs
end
section
variable {X:Cx}{tg e elt it c d:Expr}{te:TE}{ta:TA}{wi:TI}{g:TG}{pos p:Pos}{ts cs:List Str}{caps:List Nat}{sc:Scope}{cl:List (Str × Addr)}
def ZfL(hg:Gl X "list")(hm:X.mg "list"=none)(ha:QA X [c] ta)(hp:ZA c=true:=by rfl)(hc:X.calm=true:=by rfl):QE X (.Call (.Name "list" p) [c] [] pos) (tCB (Zkh X.K) ta):=⟨Ze7 (ZjI hc) hg hm (by decide +kernel) ha.h (by decide) (by decide) (ZC hp) rfl⟩
def ZrB(hg:Gl X "min")(hm:X.mg "min"=none)(ha:QA X [c,d] ta)(hp:ZA c=true:=by rfl)(hq:ZA d=true:=by rfl)(hc:X.calm=true:=by rfl) :
  QE X (.Call (.Name "min" p) [c,d] [] pos) (tCB (λxs H Q=>∃ i j,xs=[.int i,.int j]/\Q (.int (if j < i then j else i)) H) ta):=⟨Zci (Zmr hc) hg hm (by decide +kernel) ha.h (by decide) (by decide) (ZC hp) (by rw [ZC hq]; rfl)⟩
def ZlW{o i:Expr}{to ti:TE}(ho:QE X o to)(hi:QE X i ti) (ha:∀ v,assign (.Subscript o i pos) X.env v=(do
      let ov <- holding [v] (eval o X.env)
      let iv <- holding [v,ov] (eval i X.env)
      standAt pos
      holding [v,ov,iv] (setItem ov iv v)
      release [v,ov,iv] []):=by intro _; rfl):QG X (.Subscript o i pos) (Zte to ti ZoD):=⟨Zrn ho.h hi.h ZnD ha⟩
def ZuA(ts:List Str)(hk:sc.kind=.function:=by rfl)(h:(sc.names.all λx=>x.2 != .free && x.2 != .cell && (x.2 != .local || sc.names.lookup x.1 == some .local))=true:=by decide +kernel):Blk X ts [] [] sc []:=by
 have hh:∀ x∈sc.names,x.2 ≠ .free/\x.2 ≠ .cell/\(x.2=.local->sc.names.lookup x.1=some .local):=λx hx=>by
  have q:=List.all_eq_true.mp h x hx
  simp only [Bool.and_eq_true,bne_iff_ne,ne_eq,Bool.or_eq_true,beq_iff_eq] at q
  exact⟨q.1.1,q.1.2,λz=>q.2.elim (λy=>absurd z y) id⟩
 have rl:relabel sc X.env=sc:=by
  unfold relabel
  rw [map_eq_self λx hx=>by
   have q:(x.2 == NameKind.free)=false:=by simpa using (hh x hx).1
   obtain⟨n,k⟩:=x
   simp only at q
   simp [q]]
 refine⟨closureFor_none λx hx=>(hh x hx).1,hk,λx hx=>(hh x hx).2.1,λx hx=>(hh x hx).2.2,λx c e=>by simp at e,λx e=>?_,rfl,λk i x e=>by simp at e,λx e=>by simp at e⟩
 rw [rl] at e
 rcases e with e | e
 ·exact absurd rfl (hh _ (Y4 e)).2.1
 ·exact absurd rfl (hh _ (Y4 e)).1
def Zf0(cells:List (Str × Addr)):List (Str × NameKind)->List (Str × Addr)->Option (List (Str × Addr))
 | [],acc=>some acc
 | (n,k) :: r,acc=>if k == .free then (match cells.lookup n with | some c=>Zf0 cells r ((n,c) :: acc) | none=>none) else Zf0 cells r acc
def ZfY{env:Env}:∀ {ns:List (Str × NameKind)}{acc cl:List (Str × Addr)},Zf0 env.cells ns acc=some cl ->
  (forIn ns acc λx r=>(match x with | (name,kind)=>if (kind == NameKind.free)=true then do let c <- PySem.cellOf env name; pure (ForInStep.yield ((name,c) :: r)) else pure (ForInStep.yield r):Sem (ForInStep (List (Str × Addr)))))=(pure cl:Sem _)
 | [],acc,cl,h=>by cases h; rfl
 | (n,k) :: r,acc,cl,h=>by
  unfold Zf0 at h
  rw [List.forIn_cons]
  dsimp only
  split at h
  ·rename_i hk
   rw [if_pos hk]
   split at h
   ·rename_i c hc
    have e:PySem.cellOf env n=pure c:=by unfold PySem.cellOf; rw [hc]
    rw [e]
    exact ZfY h
   ·cases h
  ·rename_i hk
   rw [if_neg hk]
   exact ZfY h
def Ze9{cells:List (Str × Addr)}:∀ {ns:List (Str × NameKind)}{acc cl:List (Str × Addr)},Zf0 cells ns acc=some cl->(∀ p∈acc,cells.lookup p.1=some p.2)->∀ p∈cl,cells.lookup p.1=some p.2
 | [],acc,cl,h,ha=>by cases h; exact ha
 | (n,k) :: r,acc,cl,h,ha=>by
  unfold Zf0 at h
  split at h
  ·split at h
   ·rename_i c hc
    exact Ze9 h λp hp=>by
     rcases Yl.mp hp with rfl | hp
     ·exact hc
     ·exact ha p hp
   ·cases h
  ·exact Ze9 h ha
def Zew{cells:List (Str × Addr)}{x:Str}:∀ {ns:List (Str × NameKind)}{acc cl:List (Str × Addr)},Zf0 cells ns acc=some cl->((x,NameKind.free)∈ns\/∃ c,(x,c)∈acc)->∃ c,(x,c)∈cl
 | [],acc,cl,h,ha=>by
  cases h
  rcases ha with z | z
  ·cases z
  ·exact z
 | (n,k) :: r,acc,cl,h,ha=>by
  unfold Zf0 at h
  split at h
  ·split at h
   ·rename_i c hc
    refine Zew h ?_
    rcases ha with z | ⟨c',z⟩
    ·rcases Yl.mp z with e | z
     ·cases e; exact .inr ⟨c,Vi⟩
     ·exact .inl z
    ·exact .inr ⟨c',YY _ z⟩
   ·cases h
  ·rename_i hk
   refine Zew h ?_
   rcases ha with z | z
   ·rcases Yl.mp z with e | z
    ·cases e; exact absurd rfl hk
    ·exact .inl z
   ·exact .inr z
def ZdA{x:Str}{c:Addr}:∀ {l:List (Str × Addr)},(x,c)∈l->∃ c',l.lookup x=some c'
 | [],h=>by cases h
 | (n,d) :: r,h=>by
  rw [List.lookup_cons]
  cases e:x == n with
  | true=>exact⟨d,rfl⟩
  | false =>
   rcases Yl.mp h with z | z
   ·cases z; simp at e
   ·exact ZdA z
def Zdx{env:Env}{x:Str}{k:NameKind}(h:(relabel sc env).names.lookup x=some k):(x,k)∈sc.names\/(k=.cell/\(x,NameKind.free)∈sc.names):=by
 have m:=Y4 h
 unfold relabel at m
 obtain⟨⟨n,k'⟩,hm,e⟩:=Yk.mp m
 dsimp only at e
 split at e
 ·rename_i hc
  cases e
  simp only [Bool.and_eq_true,beq_iff_eq] at hc
  rw [hc.1.1] at hm
  exact .inr ⟨rfl,hm⟩
 ·cases e
  exact .inl hm
theorem ZcL{env:Env}{x:Str}:∀ {ns:List (Str × NameKind)},ns.lookup x=some NameKind.free ->
  (ns.map λ(n,k)=>if (k == NameKind.free && env.scope.kind == .function && env.kindOf n == some .cell) then (n,NameKind.cell) else (n,k)).lookup x=some .cell \/
  (ns.map λ(n,k)=>if (k == NameKind.free && env.scope.kind == .function && env.kindOf n == some .cell) then (n,NameKind.cell) else (n,k)).lookup x=some .free
 | [],h=>by cases h
 | (n,k) :: r,h=>by
  rw [List.lookup_cons] at h
  rw [Ys]
  dsimp only
  cases e:x == n with
  | true =>
   rw [e] at h
   cases h
   split <;> simp [List.lookup_cons,e]
  | false =>
   rw [e] at h
   split
   ·simp only [List.lookup_cons,e]; exact ZcL h
   ·simp only [List.lookup_cons,e]; exact ZcL h
def Ztt(ts:List Str)(caps:List Nat)(cs:List Str)(hcl:Zf0 X.env.cells sc.names []=some cl:=by rfl)(hcap:caps.map (λi=>X.N[i]?)=cs.map some:=by rfl)(hck:(cs.all λx=>X.env.kindOf x == some .cell || X.env.kindOf x == some .free)=true:=by rfl)
  (hcf:cs.map (λx=>sc.names.lookup x)=cs.map (λ_=>some NameKind.free):=by rfl) (hk:sc.kind=.function:=by rfl) (h:(sc.names.all λx=>x.2 != .cell && (x.2 != .local || sc.names.lookup x.1 == some .local))=true:=by decide +kernel):Blk X ts caps cs sc cl:=by
 have hh:∀ x∈sc.names,x.2 ≠ .cell/\(x.2=.local->sc.names.lookup x.1=some .local):=λx hx=>by
  have q:=List.all_eq_true.mp h x hx
  simp only [Bool.and_eq_true,bne_iff_ne,ne_eq,Bool.or_eq_true,beq_iff_eq] at q
  exact⟨q.1,λz=>q.2.elim (λy=>absurd z y) id⟩
 have len:caps.length=cs.length:=by have:=congrArg List.length hcap; simpa using this
 refine⟨?_,hk,λx hx=>(hh x hx).1,λx hx=>(hh x hx).2,λx c e=>?_,λx e=>?_,len,λk i x e1 e2=>?_,λx hx=>?_⟩
 ·simp only [closureFor]
  rw [ZfY hcl]
  rfl
 ·exact Ze9 hcl (λp hp=>by cases hp) _ (Y4 e)
 ·have m:(x,NameKind.free)∈sc.names:=by
   rcases e with e | e
   ·rcases Zdx e with z | ⟨_,z⟩
    ·exact absurd rfl (hh _ z).1
    ·exact z
   ·rcases Zdx e with z | ⟨z,_⟩
    ·exact z
    ·cases z
  obtain⟨c,hc⟩:=Zew hcl (.inl m)
  exact ZdA hc
 ·have h1:=congrArg (·[k]?) hcap
  simp only [List.getElem?_map,e1,e2,Option.map_some,Option.some.injEq] at h1
  have h2:=List.all_eq_true.mp hck x (Yz e2)
  simp only [Bool.or_eq_true,beq_iff_eq] at h2
  exact⟨h1,h2⟩
 ·obtain⟨k,hk'⟩:=Y2 hx
  have h1:=congrArg (·[k]?) hcf
  simp only [List.getElem?_map,hk',Option.map_some,Option.some.injEq] at h1
  exact ZcL h1
structure QTs(X:Cx)(ifs:List Expr)(t:TT):Prop where
 h:PTs X ifs t
def Zr1{tt:TT}(h:QT X c tt):QTs X [c] tt:=⟨Zqn h.h⟩
def ZjZ{ifs:List Expr}{tt:TT}{x:Str}{px spos:Pos}(i:Nat)(B:Blk X ts caps cs sc cl)(hi:QI X tg it wi)(hg:∀ s H fp,QG (blk X (ts ++ cs) sc cl s H fp) tg g)(ht:∀ s H fp,QTs (blk X (ts ++ cs) sc cl s H fp) ifs tt)(he:∀ s H fp,QE (blk X (ts ++ cs) sc cl s H fp) elt te)(hx:QG X (.Name x px) (Zdb i))
  (hsw:swapsWith (.ListComp elt [⟨tg,it,ifs,0⟩] sc pos) (some (.Name x px)) spos.line X.env=pure true:=by rfl) (hc:X.calm=true:=by rfl) (hs:∀ x,foldedSetIterable it X.env x=pure x:=by intro _; rfl) :
  QS X (.Assign [.Name x px] (.ListComp elt [⟨tg,it,ifs,0⟩] sc pos) spos) (Zm4 (ZiI ts.length caps wi g tt te) (Zdb i)):=⟨ZeY i B hi.h (λs H fp=>(hg s H fp).h) (λs H fp=>(ht s H fp).h) (λs H fp=>(he s H fp).h) hx.h hsw hc hs⟩
def ZiU(B:Blk X ts caps cs sc cl)(hi:QI X tg it wi)(hg:∀ s H fp,QG (blk X (ts ++ cs) sc cl s H fp) tg g)(he:∀ s H fp,QE (blk X (ts ++ cs) sc cl s H fp) elt te)(hc:X.calm=true:=by rfl)(hs:∀ x,foldedSetIterable it X.env x=pure x:=by intro _; rfl) :
  QE X (.ListComp elt [⟨tg,it,[],0⟩] sc pos) (ZgA ts.length caps wi g te):=⟨Zra B hi.h (λs H fp=>(hg s H fp).h) (λs H fp=>(he s H fp).h) hc hs⟩
def Zlv{x:Str}{px spos:Pos}(i:Nat)(B:Blk X ts caps cs sc cl)(hi:QI X tg it wi)(hg:∀ s H fp,QG (blk X (ts ++ cs) sc cl s H fp) tg g)(he:∀ s H fp,QE (blk X (ts ++ cs) sc cl s H fp) elt te)(hx:QG X (.Name x px) (Zdb i))
  (hsw:swapsWith (.ListComp elt [⟨tg,it,[],0⟩] sc pos) (some (.Name x px)) spos.line X.env=pure true:=by rfl) (hc:X.calm=true:=by rfl) (hs:∀ x,foldedSetIterable it X.env x=pure x:=by intro _; rfl) :
  QS X (.Assign [.Name x px] (.ListComp elt [⟨tg,it,[],0⟩] sc pos) spos) (Zm4 (ZgA ts.length caps wi g te) (Zdb i)):=⟨Zkj i B hi.h (λs H fp=>(hg s H fp).h) (λs H fp=>(he s H fp).h) hx.h hsw hc hs⟩
end
section
variable {X:Cx}{a b c e:Expr}{ta tb tc te:TE}{pos:Pos}{st:Stmt}
theorem ZsH(ha:QE X a ta)(hb:QE X b tb)(hc:QE X c tc)(hm:lastMarks [CmpOp.LtE,CmpOp.Lt] [b,c]=false:=by with_unfolding_all rfl):QE X (.Compare a [.LtE,.Lt] [b,c] pos) (ZfE (rI0 λi j=>.bl (decide (i<=j))) (rI0 λi j=>.bl (decide (i < j))) ta tb tc):=⟨Zn4 ZpO Zp9 ha.h hb.h hc.h hm⟩
def Zft{x:Str}{i:Int}{tk:Tok}(hg:Gl X x)(hm:X.mg x=some (.int i tk))(hd:(x == ("__debug__":Str))=false:=by decide):QE X (.Name x pos) (tC (.int i)):=⟨Zio hg hm ⟨_,rfl⟩ hd⟩
end
variable {g:TG}{tt:TT}{te:TE}
def Zi6{lo:Int}{n nt:Nat}{cp:St}{H1:Hp}{Q:VK}(Pv:Addr->Nat->List V->Hp->Prop)(h0:∀ acc H2,H1 acc=none->Zn H1 H2->H2 acc=some (.lst [])->Pv acc 0 [] H2)
  (hl:∀ acc i ys H,Pv acc i ys H->H acc=some (.lst ys)/\ys.length < 1000000)
  (hs:∀ acc i ys H os,H1 acc=none->i < n->Pv acc i ys H->os.length=nt->g (.int (lo + (i:Nat))) (os ++ cp) H λτ H3=>∃ os',os'.length=nt/\τ=os' ++ cp/\tt τ H3 λb H4=>if b=true then te τ H4 λv H5=>H5 acc=some (.lst ys)/\Pv acc (i + 1) (ys ++ [v]) (upd H5 acc (.lst (ys ++ [v]))) else Pv acc (i + 1) ys H4)
  (hd:∀ acc ys H,H1 acc=none->Pv acc n ys H->Q (.ref acc) H):Zh1 nt cp (Itr lo n) g tt te H1 Q:=by
 intro acc H2 hn sm e
 refine⟨λi m ys H=>m=n - i/\i<=n/\Pv acc i ys H,⟨n,by simp,Nat.zero_le _,h0 acc H2 hn sm e⟩,?_⟩
 rintro i m ys H ⟨rfl,hi,p⟩
 obtain⟨q1,q2⟩:=hl acc i ys H p
 refine⟨q1,?_⟩
 by_cases hlt:i < n
 ·refine .inr ⟨hlt,q2,Pv acc (i + 1),λys' H' p'=>⟨n - (i + 1),by omega,rfl,hlt,p'⟩,λos x H' ol y=>?_⟩
  obtain⟨rfl,rfl⟩:=y
  exact hs acc i ys _ os hn hlt p ol
 ·have e:i=n:=by omega
  subst e
  exact .inl ⟨Yd _,hd _ _ _ hn p⟩
def ZmB{lo:Int}{n nt:Nat}{cp:St}{H1:Hp}{Q:VK}(Pv:Addr->Nat->List V->Hp->Prop)(h0:∀ acc H2,H1 acc=none->Zn H1 H2->H2 acc=some (.lst [])->Pv acc 0 [] H2)
  (hl:∀ acc i ys H,Pv acc i ys H->H acc=some (.lst ys)/\ys.length < 1000000)
  (hs:∀ acc i ys H os,H1 acc=none->i < n->Pv acc i ys H->os.length=nt->g (.int (lo + (i:Nat))) (os ++ cp) H λτ H3=>∃ os',os'.length=nt/\τ=os' ++ cp/\te τ H3 λv H4=>H4 acc=some (.lst ys)/\Pv acc (i + 1) (ys ++ [v]) (upd H4 acc (.lst (ys ++ [v]))))
  (hd:∀ acc ys H,H1 acc=none->Pv acc n ys H->Q (.ref acc) H):Zrj nt cp (Itr lo n) g te H1 Q:=by
 refine Zi6 (tt:=ZpS) Pv h0 hl (λacc i ys H os a b c d=>?_) hd
 have h:=hs acc i ys H os a b c d
 have e:(λτ H3=>∃ os',os'.length=nt/\τ=os' ++ cp/\ZpS τ H3 λb H4=>if b=true then te τ H4 λv H5=>H5 acc=some (.lst ys)/\Pv acc (i + 1) (ys ++ [v]) (upd H5 acc (.lst (ys ++ [v]))) else Pv acc (i + 1) ys H4) =
   (λτ H3=>∃ os',os'.length=nt/\τ=os' ++ cp/\te τ H3 λv H4=>H4 acc=some (.lst ys)/\Pv acc (i + 1) (ys ++ [v]) (upd H4 acc (.lst (ys ++ [v])))):=by
  funext τ H3
  simp only [ZpS,if_true]
 rw [e]
 exact h
def ZtD(lo:Int)(n:Nat)(g:TG)(tb:TS)(D:Ends)(Z:St):Hp->Prop:=λH1=>∃ W:Nat->Nat->St->Hp->Prop,(∃ m,W 0 m Z H1)/\∀ i m Z H,W i m Z H ->
 ((Itr lo n).stop i H/\D.nx Z H)\/((Itr lo n).go i H/\∃ N:St->Hp->Prop,(∀ Z' H',N Z' H'->∃ m',m' < m/\W (i + 1) m' Z' H')/\∀ x H',(Itr lo n).yld i H x H'->g x Z H' λZ2 H2=>tb { D with nx:=N,ct:=N,bk:=D.nx } Z2 H2)
theorem ZeU{ta:TA}{tb:TS}{D:Ends}{Z:St}:Zqy (Zkl ta) g tb D Z H=ta Z H λvs H1=>∃ j:Int,vs=[.int j]/\-(2 ^ 62)<=j/\j < 2 ^ 62/\ZtD 0 j.toNat g tb D Z H1:=rfl
def ZgL{ta:TA}{tb:TS}{D:Ends}{Z:St}:Zqy (ZpH ta) g tb D Z H=ta Z H λvs H1=>∃ i j:Int,vs=[.int i,.int j]/\(-(2 ^ 62)<=i/\i < 2 ^ 62/\-(2 ^ 62)<=j/\j < 2 ^ 62)/\ZtD i (j - i).toNat g tb D Z H1:=rfl
def Zep{lo:Int}{n:Nat}{tb:TS}{D:Ends}{Z:St}(Pv:Nat->St->Hp->Prop)(h0:Pv 0 Z H)(hs:∀ i Z H,i < n->Pv i Z H->g (.int (lo + (i:Nat))) Z H λZ2 H2=>tb { D with nx:=Pv (i + 1),ct:=Pv (i + 1),bk:=D.nx } Z2 H2)
  (hd:∀ Z H,Pv n Z H->D.nx Z H):ZtD lo n g tb D Z H:=by
 refine⟨λi m Z H=>m=n - i/\i<=n/\Pv i Z H,⟨n,by simp,Nat.zero_le _,h0⟩,?_⟩
 rintro i m Z H ⟨rfl,hi,p⟩
 by_cases hlt:i < n
 ·refine .inr ⟨hlt,Pv (i + 1),λZ' H' p'=>⟨n - (i + 1),by omega,rfl,hlt,p'⟩,λx H' y=>?_⟩
  obtain⟨rfl,rfl⟩:=y
  exact hs i Z _ hlt p
 ·have e:i=n:=by omega
  subst e
  exact .inl ⟨Yd _,hd _ _ p⟩
def ZrG(K:PySem.W.Frag)(g:TG)(tb:TS)(D:Ends)(Z:St):V->Hp->Prop:=λx H1=>∃ a,x=.ref a/\(∃ xs,JY K H1 a xs)/\∃ W:Nat->Nat->St->Hp->Prop,(∃ m,W 0 m Z H1)/\∀ i m Z H,W i m Z H ->
 ((Itl K a).stop i H/\D.nx Z H)\/((Itl K a).go i H/\∃ N:St->Hp->Prop,(∀ Z' H',N Z' H'->∃ m',m' < m/\W (i + 1) m' Z' H')/\∀ x H',(Itl K a).yld i H x H'->g x Z H' λZ2 H2=>tb { D with nx:=N,ct:=N,bk:=D.nx } Z2 H2)
theorem Zb7{tb:TS}{D:Ends}{Z:St}:Zqy (ZjS K te) g tb D Z H=te Z H (ZrG K g tb D Z):=rfl
theorem ZcV{a:Addr}{xs:List V}{tb:TS}{D:Ends}{Z:St}(Pv:Nat->St->Hp->Prop)(h0:Pv 0 Z H)(hl:∀ i Z H,i<=xs.length->Pv i Z H->JY K H a xs)
  (hs:∀ i x Z H,xs[i]?=some x->Pv i Z H->g x Z H λZ2 H2=>tb { D with nx:=Pv (i + 1),ct:=Pv (i + 1),bk:=D.nx } Z2 H2) (hd:∀ Z H,Pv xs.length Z H->D.nx Z H):ZrG K g tb D Z (.ref a) H :=
 ⟨a,rfl,⟨xs,hl 0 Z H (YA _) h0⟩,Zi0 Pv h0 hl hs hd⟩
structure Mth(P:Program)(w:World)(K:PySem.W.Frag)(mg:Str->Option Value)(base:Heap)(CX:CXT)(k:Nat)(C:Addr)(m:Str)(ps:List Str)(sp:Sp):Prop where
 ex:∃ (f:Addr) (fd:FuncData),FnOk P w K mg base CX k f fd ps sp/\Zy K fd ps []/\Meth K C m f/\Cls K C
structure Mkr(P:Program)(w:World)(K:PySem.W.Frag)(mg:Str->Option Value)(base:Heap)(CX:CXT)(k:Nat)(C:Addr)(x:Str)(ps:List Str)(sp:Sp):Prop where
 ex:∃ (f:Addr) (fd:FuncData),FnOk P w K mg base CX k f fd ps sp/\Zy K fd ps []/\Mk K C f/\mg x=some (.ref C)
section
variable {X:Cx}{CX:CXT}{j k:Nat}{C:Addr}{x m fl:Str}{ps:List Str}{sp:Sp}{p pos apos:Pos}{e o value:Expr}{es:List Expr}{t:TA}{ta tv:TE}{E:XK}
def Jc{pl:Sem Bool}(F:Mth X.prog X.w X.K X.mg X.base Zx j C m ps sp)(hr:Room k X.A)(hj:j<=k)(ho:QE X o ta)(ha:QA X (e :: es) t)(hp:(e :: es).all ZA=true:=by rfl)
  (ht:eval (.Call (.Attribute o m apos) (e :: es) [] pos) X.env=(do
   let ov <- eval o X.env
   standAt apos.atName
   let (f,first) <- holding [ov] (getMethod ov m pl)
   callWith pos f first (backTo pos (starEach (e :: es) X.env)) (backToKw pos (keywordEach [] X.env))):=by rfl) :
  QE X (.Call (.Attribute o m apos) (e :: es) [] pos) (ZhO C m sp [] E0 ta t):=by
 obtain⟨f,fd,G,b,hm,c⟩:=F.ex
 exact⟨Zlx ho.h c hm G (hr.mono hj) b .nil ZnG ha.h (ZC (Jo hp).1) (Zdp (Jo hp).2) ht⟩
def ZbT{pl:Sem Bool}(F:Mth X.prog X.w X.K X.mg X.base Zx j C m ps sp)(hr:Room k X.A)(hj:j<=k)(ho:QE X o ta)
  (ht:eval (.Call (.Attribute o m apos) [] [] pos) X.env=(do
   let ov <- eval o X.env
   standAt apos.atName
   let (f,first) <- holding [ov] (getMethod ov m pl)
   callWith pos f first (backTo pos (starEach [] X.env)) (backToKw pos (keywordEach [] X.env))):=by rfl) :
  QE X (.Call (.Attribute o m apos) [] [] pos) (ZhO C m sp [] E0 ta Zrl):=by
 obtain⟨f,fd,G,b,hm,c⟩:=F.ex
 exact⟨Znw ho.h c hm G (hr.mono hj) b .nil ZnG ht⟩
def Zp8{pl:Sem Bool}(g:Goes X E)(F:Mth X.prog X.w X.K X.mg X.base (CX1 X.prog X.w) j C m ps sp)(hr:Room k X.A)(hj:j<=k)(ho:QE X o ta)(ha:QA X (e :: es) t)(hp:(e :: es).all ZA=true:=by rfl)
  (ht:eval (.Call (.Attribute o m apos) (e :: es) [] pos) X.env=(do
   let ov <- eval o X.env
   standAt apos.atName
   let (f,first) <- holding [ov] (getMethod ov m pl)
   callWith pos f first (backTo pos (starEach (e :: es) X.env)) (backToKw pos (keywordEach [] X.env))):=by rfl) :
  QE X (.Call (.Attribute o m apos) (e :: es) [] pos) (ZhO C m sp [] E ta t):=by
 obtain⟨f,fd,G,b,hm,c⟩:=F.ex
 exact⟨Zlx ho.h c hm G (hr.mono hj) b .nil g.pass ha.h (ZC (Jo hp).1) (Zdp (Jo hp).2) ht⟩
def ZgO(F:Mkr X.prog X.w X.K X.mg X.base Zx j C x ps sp)(hr:Room (k + 1) X.A)(hj:j<=k)(hg:Gl X x)(ha:QA X (e :: es) t)(hp:(e :: es).all ZA=true:=by rfl)(hdb:(x == ("__debug__":Str))=false:=by decide) :
  QE X (.Call (.Name x p) (e :: es) [] pos) (Zni C sp [] E0 t):=by
 obtain⟨f,fd,G,b,M,hm⟩:=F.ex
 exact⟨Zqj M (G.mono hj) hr hg hm b .nil ZnG ha.h hdb (ZC (Jo hp).1) (Zdp (Jo hp).2)⟩
def ZV(ho:QE X e ta)(hb:attributeBase e fl X.env (eval e X.env)=eval e X.env:=by rfl):QE X (.Attribute e fl pos) (Ztd X.K ta fl):=⟨ZrO ho.h hb⟩
def ZiF{pos':Pos}(ho:QE X o ta)(hv:QE X value tv)(hs:swapsWith value (some (.Attribute o fl pos')) pos.line X.env=pure false:=by rfl):QS X (.Assign [.Attribute o fl pos'] value pos) (Zty X.K ta tv fl):=⟨ZrQ ho.h hv.h hs⟩
def Zmp(C:Addr)(m:Str)(sp:Sp)(ta:TE)(t:TA):TEX:=λZ H Q EX=>ta Z H λx H1=>∃ a dx fs,x=.ref a/\H1 a=some (.ins C dx fs)/\fs.lookup m=none/\t Z H1 λvs H2=>sp (x :: vs) H2 Q EX
def ZlF{pl:Sem Bool}(b:Body X)(F:Mth X.prog X.w X.K X.mg X.base (CX1 X.prog X.w) j C m ps sp)(hr:Room k X.A)(hj:j<=k)(ho:QE X.nox o ta)(ha:QA X.nox (e :: es) t)(hp:(e :: es).all ZA=true:=by rfl)
  (ht:eval (.Call (.Attribute o m apos) (e :: es) [] pos) X.env=(do
   let ov <- eval o X.env
   standAt apos.atName
   let (f,first) <- holding [ov] (getMethod ov m pl)
   callWith pos f first (backTo pos (starEach (e :: es) X.env)) (backToKw pos (keywordEach [] X.env))):=by rfl) :
  QX X (.Call (.Attribute o m apos) (e :: es) [] pos) (Zmp C m sp ta t):=by
 obtain⟨f,fd,G,bd,hm,c⟩:=F.ex
 have G':FnOk X.prog X.w X.K X.mg X.base (CX1 X.prog X.w) k f fd ps sp:=G.mono hj
 refine⟨?_⟩
 intro pins s Z H Q EX I h
 refine methodCall_KW (pl:=pl) (Yo (ho.h pins s Z H _ (I.wish _) h) (λu s1 ⟨x,H1,I1,rx,a,dx,fs,ex,ea,l,q⟩=>?_) λ_ _ z=>z.elim) ht
 subst ex
 obtain rfl:u=Value.ref a:=rx
 refine ZdM I1.unwish ea c hm l ?_
 refine callWith_K (first:=[.ref a]) (h₀:=X.base) I.ok.mod.kin hm.kp (Yo (ha.h pos pins s1 Z H1 _ I1 q) (λus s2 ⟨vs,H2,I2,r,q2⟩=>⟨I2.kIn,?_⟩) λ_ _ z=>z.elim) (ZC (Jo hp).1) (Zdp (Jo hp).2)
 exact ZuT (us:=.ref a :: us) (vs:=.ref a :: vs) b G' hr bd .nil I2.unwish (.cons rfl r) (by rw [Vk]; exact q2)
end
def Zlp(B:Heap)(l:List Env)(e:Addr)(cls a0:Value)(h:Heap):Prop:=B.StaysIn h/\B.get? e=none/\h.FunFrames B l/\∃ fl,h.TracedAtW B e cls a0 fl
section
variable {M:Model}{A:Around}{E:VSP}{s:Shared}{B:Heap}{env:Env}{outer:List Env}{L e:Addr}{cls a0:Value}
def Zlp.but{l:List Env}{h h':Heap}{C:Addr}{m:Str->Option Value}(x:Zlp B l e cls a0 h)(hn:h.Ns C m)(sb:Heap.SameBut C h h')(hB:B.get? C=none)(hl:C ∉ l.filterMap (·.frame)):Zlp B l e cls a0 h':=by
 obtain⟨hkb,hen,hfr,fl,oe,vs,T,oT,ts,he,hcls,hd,h1,hnT,hTe,hT,hdT,h3⟩:=x
 obtain⟨oC,es,ep,hC,hdC,_⟩:=hn
 have e2:∀ b,b ≠ C->h'.get? b=h.get? b:=sb.2
 have ne:∀ b ob ws,h.get? b=some ob->ob.data=.fields ws->b ≠ C:=λb ob ws g1 g2 z=>by
  rw [z,hC] at g1
  cases g1
  rw [hdC] at g2
  cases g2
 have frm:∀ {l:List Env},h.FunFrames B l->C ∉ l.filterMap (·.frame)->h'.FunFrames B l:=by
  intro l
  induction l with
  | nil=>exact λ_ _=>trivial
  | cons env Jh ih =>
   rintro⟨hk,⟨L,o,hf,hn,ho,hd⟩,hr⟩ hc
   rw [VR,hf] at hc
   have hc':C ≠ L/\C ∉ Jh.filterMap (·.frame):=by simpa using hc
   exact⟨hk,⟨L,o,hf,hn,(e2 L (Ne.symm hc'.1)).trans ho,hd⟩,ih hr hc'.2⟩
 refine⟨λb o q=>(e2 b λz=>by rw [z,hB] at q; cases q).trans (hkb b o q),hen,frm hfr hl,fl,oe,vs,T,oT,ts,(e2 e (ne e oe vs he hd)).trans he,hcls,hd,h1,hnT,hTe,(e2 T (ne T oT ts hT hdT)).trans hT,hdT,h3⟩
end
section
variable {X:Cx}{E:XK}{pins:List (Addr × Obj)}{Z:St}{H:Hp}{s:Shared}
variable {ts cs:List Str}{caps:List Nat}{sc:Scope}{cl:List (Str × Addr)}{fp:List Addr}
end
section
variable {X:Cx}{E:XK}{j k:Nat}{x:Str}{ps:List Str}{sp:Sp}{p pos:Pos}{e elt tg it:Expr}{es:List Expr}{t:TA}{ts cs:List Str}{caps:List Nat}{sc:Scope}{cl:List (Str × Addr)}{wi:TI}{g:TG}{te:TE}
end
def Zk3(K:PySem.W.Frag)(D:Addr)(th:Addr->TS)(En:Ends)(Z:St):XK:=λc _ H'=>∃ C,c=.ref C/\exmOne K (.ref C) (.ref D)=some true/\∀ ea,th ea { nx:=En.nx,rt:=En.rt,bk:=En.bk,ct:=En.ct } Z H'
def Zr5(K:PySem.W.Frag)(tb:TSX)(D:Addr)(th:Addr->TS):TS:=λEn Z H=>tb En (Zk3 K D th En) Z H
section
variable {X:Cx}{body:List Stmt}{x:Str}{np hpos pos:Pos}{b₀:Stmt}{suite:List Stmt}{tb:TSX}{th:Addr->TS}{D:Addr}
end
def Zpu(C:Addr)(sp:Sp)(t:TA):TEX:=λZ H Q EX=>t Z H λvs H1=>∀ x dx,H1 x=none->H1 dx=none->dx ≠ x->sp (.ref x :: vs) (upd (upd H1 dx (.own x)) x (.ins C dx [])) (λv H2=>v=.non/\Q (.ref x) H2) EX
section
variable {X:Cx}{j k:Nat}{C:Addr}{x:Str}{ps:List Str}{sp:Sp}{p pos:Pos}{e:Expr}{es:List Expr}{t:TA}
end
section
variable {X:Cx}{e:Expr}{te:TE}{p1 p2 p3 pos:Pos}{c1 c2:Str}{k1 k2:Nat}
def tFs(te:TE):TE:=λZ H Q=>te Z H λx H1=>∃ i:Int,x=.int i/\i.natAbs < 2 ^ 30/\∀ z,Q (.str z) H1
def ZrU(he:QE X e te)(h1:c1.length<=1000:=by decide +kernel)(h2:c2.length<=1000:=by decide +kernel):QE X (.JoinedStr [.Constant (.str c1) k1 p1,.FormattedValue e (-1) none p2,.Constant (.str c2) k2 p3] pos) (tFs te):=⟨by
 intro pins s Z H Q I h
 have big:∀ n:Nat,n<=5000->n<=sizeLine:=λn h=>Yj h (by decide)
 have l1:(Str.empty ++ c1).length<=1000:=by
  rw [strLen_append]
  have:Str.empty.length=0:=rfl
  omega
 refine PyProof.Rows.JoinedStr_many (joinParts_cons ?_)
 refine Calls.Constant_str ⟨big _ (Yj l1 (by decide)),joinParts_cons (PyProof.Rows.FormattedValue_plain (Jl (he.h pins _ Z H _ (I.tok _) h) λv s1 ⟨x,H1,I1,r1,i,e1,hi,q1⟩=>?_))⟩
 subst e1
 obtain⟨t,rfl⟩:=r1
 have hd:i.natAbs.log2 < 30:=ZbC hi (by decide)
 have l2:=int_text_length_le (k:=30) (by decide) hd
 have l3:((Str.empty ++ c1) ++ (Str.ofString (toString i))).length<=2000:=by
  rw [strLen_append,PySem.ofString_length]
  omega
 refine PyProof.Rows.formatField_int_small (Nat.lt_trans hd (by decide)) ⟨big _ (Yj l3 (by decide)),joinParts_cons ?_⟩
 have l4:(((Str.empty ++ c1) ++ (Str.ofString (toString i))) ++ c2).length<=3000:=by
  rw [strLen_append]
  omega
 refine Calls.Constant_str ⟨big _ (Yj l4 (by decide)),joinParts_nil ⟨.str _,H1,(((I1.tok _).tok _).tok _),⟨_,rfl⟩,q1 _⟩ (big _ (Yj l4 (by decide)))⟩⟩
end
section
variable {X:Cx}{e:Expr}{t:TA}{p pos:Pos}
end
section
variable {X:Cx}{pins:List (Addr × Obj)}{Z:St}{H:Hp}{s:Shared}
def EqD.neAt(I:Inv X pins Z H s){x y:V}{b:Bool}{n:Nat}(h:EqD H x y b n):∀ {A:Around}{u v:Value},ZP x u->ZP y v->A.units + n < cLine->(∃ a c,x=.ref a/\y=.ref c)->SeqAt.RcNeAt A s u v (!b):=by
 induction h with
 | flat fx fy =>
  rintro A u v r1 r2 _ ⟨a,c,rfl,_⟩
  cases fx
 | up h ih =>
  intro A u v r1 r2 hu w
  exact ih r1 r2 (by omega) w
 | @tup a b xs ys e n ha hb h ih =>
  intro A u v r1 r2 hu _
  cases r1
  cases r2
  obtain⟨its,v1,t1,_⟩:=I.tuple (SqT.of ha)
  obtain⟨jts,v2,t2,_⟩:=I.tuple (SqT.of hb)
  have z:=SeqAt.RcNeAt.tuples (A:=A) (s:=s) (e:=e) t1 t2 (by omega) λj h1 h2=>by
   have k1:j < xs.length:=by rw [v1.length]; simpa using h1
   have k2:j < ys.length:=by rw [v2.length]; simpa using h2
   obtain⟨u1,q1,w1⟩:=v1.get (Yc k1)
   obtain⟨u2,q2,w2⟩:=v2.get (Yc k2)
   have g1:its.toArray[j]=u1:=by
    have:=Yf.mp q1
    obtain⟨hh,this⟩:=this
    simpa using this
   have g2:jts.toArray[j]=u2:=by
    have:=Yf.mp q2
    obtain⟨hh,this⟩:=this
    simpa using this
   rw [g1,g2]
   exact ((h j _ _ (Yc k1) (Yc k2)).at I w1 w2 (by show A.units + 1 + n < cLine; omega)).1
  simpa [v1.length,v2.length] using z
 | @lst a b xs ys e n ha hb hl h ih =>
  intro A u v r1 r2 hu _
  cases r1
  cases r2
  obtain⟨its,v1,t1,_⟩:=I.list (JY.of ha)
  obtain⟨jts,v2,t2,_⟩:=I.list (JY.of hb)
  have z:=SeqAt.RcNeAt.lists (A:=A) (s:=s) (e:=e) t1.isList t2.isList (by simp [<- v1.length,<- v2.length,hl]) (by omega) λj h1 h2=>by
   have k1:j < xs.length:=by rw [v1.length]; simpa using h1
   have k2:j < ys.length:=by rw [v2.length]; simpa using h2
   obtain⟨u1,q1,w1⟩:=v1.get (Yc k1)
   obtain⟨u2,q2,w2⟩:=v2.get (Yc k2)
   have g1:its.toArray[j]=u1:=by
    have:=Yf.mp q1
    obtain⟨hh,this⟩:=this
    simpa using this
   have g2:jts.toArray[j]=u2:=by
    have:=Yf.mp q2
    obtain⟨hh,this⟩:=this
    simpa using this
   rw [g1,g2]
   exact ((h j _ _ (Yc k1) (Yc k2)).at I w1 w2 (by show A.units + 1 + n < cLine; omega)).1
  simpa [v1.length,v2.length] using z
 | @lstNe a b xs ys n ha hb hl =>
  intro A u v r1 r2 hu _
  cases r1
  cases r2
  obtain⟨its,v1,t1,_⟩:=I.list (JY.of ha)
  obtain⟨jts,v2,t2,_⟩:=I.list (JY.of hb)
  exact SeqAt.RcNeAt.lists_lengths t1.isList t2.isList (by simp [<- v1.length,<- v2.length]; exact hl) (by omega)
end
section
variable {X:Cx}{a b:Expr}{ta tb:TE}{pos:Pos}{k:Nat}
def Zuo:R2:=λx y H Q=>∃ t n p c,x=.ref p/\y=.ref c/\EqD H x y t n/\n<=60/\Q (.bl (!t)) H
def ZsL(hr:Room k X.A):OpR X (compareOp .NotEq) Zuo:=by
 intro pins s Z H x y v u Q I rx ry h
 obtain⟨t,n,p,c,e1,e2,h,hn,q⟩:=h
 have hu:=hr.units
 exact (h.neAt I rx ry (by omega) ⟨p,c,e1,e2⟩) _ _ _ _ ⟨.bl (!t),H,I,rfl,q⟩
def Zf4(hr:Room k X.A)(ha:QE X a ta)(hb:QE X b tb):QT X (.Compare a [.NotEq] [b] pos) (JF (JT Zuo ta tb)):=⟨Zc9 (ZsL hr) ha.h hb.h (Zcx _)⟩
end
section
variable {X:Cx}{o e:Expr}{es:List Expr}{to:TE}{t:TA}{name:Str}{apos cpos:Pos}{id:String}{r:V->List V->Hp->VK->Prop}
def Zuy(r:V->List V->Hp->VK->Prop)(to:TE):TE:=λZ H Q=>to Z H λx H1=>r x [] H1 Q
def tLm(r:V->List V->Hp->VK->Prop)(to:TE)(t:TA):TE:=λZ H Q=>to Z H λx H1=>∃ l zs,x=.ref l/\H1 l=some (.lst zs)/\t Z H1 λvs H2=>r x vs H2 Q
def Zq4(slot:Slot "list" name id)(hty:typeOf (.builtin id)=pure (.type "method_descriptor"))(hm:MtM X id r)(ho:PE X o to)(ha:PA X (e :: es) t)
  (hbase:attributeBase o name X.env (eval o X.env)=eval o X.env:=by rfl)
  (hfew:((backTo cpos (starEach (e :: es) X.env)).all (λx=>!x.1) && (backToKw cpos (keywordEach [] X.env)).all (λx=>x.1.isSome)
   && decide ((e :: es).length + ([]:List Keyword).length + (if ([]:List Keyword).isEmpty then 0 else 1) < 30))=true:=by rfl)
  (hline:(apos.endLine == cpos.line)=true:=by rfl) (hs:starEach (e :: es) X.env=(false,eval e X.env) :: starEach es X.env:=by rfl) (hplain:(backTo cpos (starEach es X.env)).any (·.1)=false:=by rfl) :
  PE X (.Call (.Attribute o name apos) (e :: es) [] cpos) (tLm r to t):=by
 intro pins s Z H Q I h
 refine wpAny_Call_method_late hbase hfew hline rfl (Jl (ho pins s Z H _ I h) λv s1 ⟨x,H1,I1,r1,l,zs,e1,e2,q1⟩=>?_)
 obtain⟨h1,h2⟩:=Zpk (T:="list") I1 r1 (by rw [e1]; exact .inl ⟨rfl,zs,JY.of e2⟩)
 refine⟨"list",id,PySem.F.plainAttrs_list,slot,hty,h1,h2,?_⟩
 have hA:=ha cpos pins s1 Z H1 _ I1 q1
 rw [hs] at hA ⊢
 refine VQ (by show (false || (backTo cpos (starEach es X.env)).any (·.1))=false; rw [hplain] <;> rfl) (VT ?_)
 exact Jl hA λus s2 ⟨vs,H2,I2,r2,q2⟩=>hm pins s2 Z H2 x vs v us Q I2 r1 r2 q2
def ZtG(ho:QE X o to)(ha:QA X [e] t)(hbase:attributeBase o "extend" X.env (eval o X.env)=eval o X.env:=by rfl)(hline:(apos.endLine == cpos.line)=true:=by rfl)(hp:ZA e=true:=by rfl) :
  QE X (.Call (.Attribute o "extend" apos) [e] [] cpos) (tLm Zgs to t) :=
 ⟨Zq4 PySem.F.slot_list_extend PySem.F.type_list_extend ZmQ ho.h ha.h hbase (by rw [ZC hp]; rfl) hline (ZC hp) rfl⟩
end
def Zn6{P:Program}{w:World}{k:Je}{u:Value}(h:(ZL P w).is k u=true):ZP (kV k) u:=by
 rcases ZaF h with ⟨i,t,rfl,rfl⟩ | ⟨x,t,rfl,rfl⟩ <;> exact⟨t,rfl⟩
section
variable {X:Cx}{pins:List (Addr × Obj)}{Z:St}{H:Hp}{s:Shared}{a:Addr}{kvs:List (Je × V)}
def Zsm(I:Inv X pins Z H s)(e:H a=some (.dK kvs)):∃ o,Inv X pins Z (upd H a (.frz o (.dK kvs))) s:=by
 obtain⟨z,hd,vs,rel,o,es,ep,ho,r⟩:=Zq9 I.hok e
 refine⟨o,?_⟩
 exact I.write (x:=a) (e:=a) (o:=.frz o (.dK kvs)) (h':=s.heap) (t':=s.toks) (by rw [e]; exact trivial) (.inl rfl) (λb u _ q=>q) ⟨o,ho⟩ ⟨ho,z,hd,vs,rel,o,es,ep,ho,r⟩
def Zu4(i:Nat)(t:TS):TS:=λD Z H=>∃ a kvs,Z[i]?=some (some (.ref a))/\H a=some (.dK kvs)/\∀ o,t D Z (upd H a (.frz o (.dK kvs)))
def Zt3{sts:List Stmt}{t:TS}(i:Nat)(h:QB X sts t):QB X sts (Zu4 i t):=⟨λpins s Z H D I ⟨_,_,_,e,q⟩=>let ⟨o,I'⟩:=Zsm I e; h.h pins s Z _ D I' (q o)⟩
end
def Itd(a:Addr)(o:Obj)(kvs:List (Je × V)):It:=⟨λi H=>H a=some (.frz o (.dK kvs))/\i < kvs.length,λi H x H'=>H'=H/\∃ kv,kvs[i]?=some kv/\x=kV kv.1,λi H=>H a=some (.frz o (.dK kvs))/\kvs.length<=i⟩
def Zpf{P:Program}{w:World}{h:Heap}{a:Addr}{o:Obj}{kvs:List (Je × V)}{es}{ep:Nat}(ok:HOk P w H h)(e:H a=some (.frz o (.dK kvs)))(hep:o.data=.dict es ep) :
  (a == sysModules)=false/\kvs.length<=sizeLine/\∃ vs,KV kvs vs/\h.DictAt (ZL P w) a vs ep:=by
 obtain⟨ho,z,hd,vs,rel,o',es',ep',ho',h1,h2,h3⟩:=(show Ji P w H h a (.frz o (.dK kvs)) from ok a _ e)
 rw [ho] at ho'
 cases ho'
 rw [hep] at h2
 cases h2
 exact⟨hd,z,vs,rel,o,es,ho,h1,hep,h3⟩
def Zk7{kvs:List (Je × V)}{vs:List (Je × Value)}(r:KV kvs vs){i:Nat}(hi:i < kvs.length):∃ kv v,kvs[i]?=some kv/\vs[i]?=some (kv.1,v):=by
 have hl:i < vs.length:=by rw [<- r.length]; exact hi
 have hk:=congrArg (·[i]?) r.keys
 simp only [List.getElem?_map,List.getElem?_eq_getElem hi,List.getElem?_eq_getElem hl,Option.map_some,Option.some.injEq] at hk
 exact⟨kvs[i],vs[i].2,Yc hi,by rw [Yc hl,hk]⟩
def Zlf{P:Program}{w:World}{tg:Expr}(a it:Addr)(o:Obj)(kvs:List (Je × V)){es}{ep:Nat}(hep:o.data=.dict es ep):Turn P w K tg (Itd a o kvs) [it] it (λi h=>h.IsKeyIter it a i kvs.length ep) where
 mem:=by simp
 obj:=λi h st b hb=>by
  have e:b=it:=by simpa using hb
  subst e
  obtain⟨o,e,c,d⟩:=st
  exact⟨o,e,λv z=>by rw [d] at z; cases z⟩
 keep:=λi h h' st k=>st.at λo e=>k it (by simp) o e
 item:=by
  intro X hP hw hK hc i pins s Z H E I hf st hg
  subst hP hw hK
  obtain⟨e,hi⟩:=hg
  obtain⟨_,_,vs,rel,at_⟩:=Zpf I.hok e hep
  obtain⟨kv,v,g1,g2⟩:=Zk7 rel hi
  obtain⟨f0,f1,f2,f3,f4,f5⟩:=hf it (by simp)
  rw [rel.length] at st
  refine wpAny_pyNext_dict_item st at_ g2 λkey h' hk st' sb=>?_
  have I1:Inv X pins Z H { s with heap:=h' }:=I.turned (t':=s.toks) (λb o hb e=>(sb.2 b hb).trans e) f0 f1 f3 f4 f5
  obtain⟨ob,e',c,d⟩:=id st'
  rw [<- rel.length] at st'
  exact⟨key,rfl,Zoj (s:={ s with heap:=h' }) e' c d (by decide) ⟨kV kv.1,H,I1,Zn6 hk,⟨rfl,kv,g1,rfl⟩,st',λb hb=>(hf b hb).1⟩⟩
 done:=by
  intro X hP hw hK hc i pins s Z H E I hf st hg
  subst hP hw hK
  obtain⟨e,hi⟩:=hg
  obtain⟨_,_,vs,rel,at_⟩:=Zpf I.hok e hep
  obtain⟨f0,f1,f2,f3,f4,f5⟩:=hf it (by simp)
  rw [rel.length] at st hi
  exact wpAny_pyNext_dict_end (I.ok.hd hc) st at_ (YS hi) λh' eb=>⟨rfl,I.turned (t':=s.toks) (λb o hb e=>eb b o hb e) f0 f1 f3 f4 f5⟩
 self:=λ_ _ _ _ _ st h=>wpAny_pyIter_keyiter st h
def ZpX(tl:TE):TI:=λZ H R=>tl Z H λx H1=>∃ a o kvs,x=.ref a/\H1 a=some (.frz o (.dK kvs))/\R (Itd a o kvs) H1
section
variable {X:Cx}{tg l o i e value:Expr}{tl td ty tv:TE}{t:TA}{pos pos' p:Pos}
def ZqP(hl:PE X l tl):PI X tg l (ZpX tl):=by
 intro pins s Z H R I h
 refine Jl (hl pins s Z H _ I h) λv s1 ⟨x,H1,I1,r1,q1⟩=>?_
 obtain⟨a,o,kvs,e,hq,q⟩:=q1
 subst e
 cases r1
 obtain⟨ho,z,hd,vs,rel,o',es,ep,ho',h1,h2,h3⟩:=(show Ji X.prog X.w H1 s1.heap a (.frz o (.dK kvs)) from I1.hok a _ hq)
 rw [ho] at ho'
 cases ho'
 refine wpAny_pyIter_dict hd ⟨o,es,ho,h1,h2,h3⟩ ?_
 refine⟨s1.heap.objs.size,[s1.heap.objs.size],_,_,H1,rfl,I1.kept (t':=s1.toks) λb o e=>Yg _ e,Zlf a _ o kvs h2,⟨_,Ym _ rfl,rfl,by rw [rel.length]; rfl⟩,λb hb=>?_,q⟩
 have e:b=s1.heap.objs.size:=by simpa using hb
 subst e
 exact I1.fpOk (Yd _) (I1.hok.fresh (Yd _))
def Zrv(hl:QE X l tl):QI X tg l (ZpX tl):=⟨ZqP hl.h⟩
def tDG(td ty:TE):TE:=λZ H Q=>td Z H λx H1=>ty Z H1 λy H2=>∃ a kvs k v,x=.ref a/\Rd H2 a (.dK kvs)/\y=kV k/\Jm kvs k=some v/\Q v H2
def Zlz(hu:X.A.units + 1 < cLine)(ho:QE X o td)(hi:QE X i ty)(hs:ZuG i:=by intro _ _; rfl):QE X (.Subscript o i pos) (tDG td ty):=⟨by
 intro pins s Z H Q I h
 refine Zqp PySem.F.slot_dict_getitem.lookup hs (Jl (ho.h pins s Z H _ I h) λu s1 ⟨x,H1,I1,rx,q1⟩=>Jl (hi.h pins s1 Z H1 _ I1 q1) λiv s2 ⟨y,H2,I2,ry,a,kvs,k,v,ex,g,ey,hv,q2⟩=>?_)
 subst ex
 obtain rfl:u=Value.ref a:=rx
 have g':Zm3 H2 a y (some v):=.inl ⟨kvs,k,g,ey,hv.symm⟩
 exact⟨ZhP I2 g',ZkG hu I2 g' ry λw' s3 I3 rw'=>⟨v,H2,I3,rw',q2⟩⟩⟩
def sDP(td ty tv:TE):TS:=λD Z H=>tv Z H λv H1=>td Z H1 λx H2=>ty Z H2 λy H3=>∃ a kvs k,x=.ref a/\H3 a=some (.dK kvs)/\y=kV k/\kvs.length < 1000/\D.nx Z (upd H3 a (.dK (Jt kvs k v)))
def Ze4(hu:X.A.units + 1 < cLine)(ho:QE X o td)(hi:QE X i ty)(hv:QE X value tv)(hs:swapsWith value (some (.Subscript o i pos')) pos.line X.env=pure false:=by rfl):QS X (.Assign [.Subscript o i pos'] value pos) (sDP td ty tv):=⟨by
 intro pins s Z H D I h
 refine wpAny_Assign_Subscript (Jl (hv.h pins s Z H _ I h) λr s1 ⟨v,H1,I1,rv,q1⟩=>Jl (ho.h pins s1 Z H1 _ I1 q1) λu s2 ⟨x,H2,I2,rx,q2⟩=>Jl (hi.h pins s2 Z H2 _ I2 q2) λiv s3 ⟨y,H3,I3,ry,a,kvs,k,ex,g,ey,hl,q3⟩=>?_) hs
 subst ex ey
 obtain rfl:u=Value.ref a:=rx
 exact Zl0 hu I3 (Zrh.k g (ZgS (Yt hl))) ry rv λs4 I4=>⟨Z,_,I4,q3⟩⟩
def tDI(neg:Bool)(ty td:TE):TE:=λZ H Q=>ty Z H λy H1=>td Z H1 λx H2=>∃ a kvs k,x=.ref a/\Rd H2 a (.dK kvs)/\y=kV k/\Q (.bl (if neg=true then !(Jm kvs k).isSome else (Jm kvs k).isSome)) H2
theorem ZrF(hu:X.A.units + 1 < cLine)(hi:PE X i ty)(ho:PE X o td):PC X .In i o (tDI false ty td):=by
 intro pins s Z H Q I h
 refine Jl (hi pins s Z H _ I h) λiv s1 ⟨y,H1,I1,ry,q1⟩=>Jl (ho pins s1 Z H1 _ I1 q1) λu s2 ⟨x,H2,I2,rx,a,kvs,k,ex,g,ey,q2⟩=>?_
 subst ex
 obtain rfl:u=Value.ref a:=rx
 exact ZuU hu I2 (.inl ⟨kvs,k,g,ey,rfl⟩) ry λs3 I3=>⟨.bl _,H2,I3,rfl,by simpa using q2⟩
theorem ZpG(hu:X.A.units + 1 < cLine)(hi:PE X i ty)(ho:PE X o td):PC X .NotIn i o (tDI true ty td):=by
 intro pins s Z H Q I h
 refine Jl (hi pins s Z H _ I h) λiv s1 ⟨y,H1,I1,ry,q1⟩=>Jl (ho pins s1 Z H1 _ I1 q1) λu s2 ⟨x,H2,I2,rx,a,kvs,k,ex,g,ey,q2⟩=>?_
 subst ex
 obtain rfl:u=Value.ref a:=rx
 exact Zqz hu I2 (.inl ⟨kvs,k,g,ey,rfl⟩) ry λs3 I3=>⟨.bl _,H2,I3,rfl,by simpa using q2⟩
theorem ZtS(hu:X.A.units + 1 < cLine)(hi:QE X i ty)(ho:QE X o td)(hm:behindInMarks .In o=false:=by with_unfolding_all rfl):QT X (.Compare i [.In] [o] pos) (tB (tDI false ty td)):=⟨Zld (ZrF hu hi.h ho.h) hm⟩
theorem ZrV(hu:X.A.units + 1 < cLine)(hi:QE X i ty)(ho:QE X o td)(hm:behindInMarks .NotIn o=false:=by with_unfolding_all rfl):QT X (.Compare i [.NotIn] [o] pos) (tB (tDI true ty td)):=⟨Zld (ZpG hu hi.h ho.h) hm⟩
def Zhs:QE X (.Dict [] [] pos) (λ_ H Q=>∀ p H2,H p=none->Zn H H2->H2 p=some (.dK [])->Q (.ref p) H2):=⟨λpins s Z H Q I h=>ZnA pins s Z H Q I λp hp=>h p _ hp (ZH hp _) Zi⟩
def ZjG:JM X (.builtin "len") (λxs H Q=>∃ a kvs,xs=[.ref a]/\Rd H a (.dK kvs)/\Q (.int kvs.length) H):=by
 intro pins s Z H xs us Q I r h
 obtain⟨a,kvs,rfl,e,q⟩:=h
 obtain⟨u,rfl,ru⟩:=Zdh r
 cases ru
 exact Ztz I e λt s' I'=>⟨.int kvs.length,H,I',⟨t,rfl⟩,q⟩
def Zls(hg:Gl X "len")(hm:X.mg "len"=none)(ha:QA X [e] t)(hp:ZA e=true:=by rfl):QE X (.Call (.Name "len" p) [e] [] pos) (tCB (λxs H Q=>∃ a kvs,xs=[.ref a]/\Rd H a (.dK kvs)/\Q (.int kvs.length) H) t) :=
 ⟨Zci ZjG hg hm PySem.boot_len ha.h (by decide) (by decide) (ZC hp) rfl⟩
def ZfN:List V->Hp->VK->Prop:=λxs H Q=>∃ a kvs,xs=[.ref a]/\Rd H a (.dK kvs)/\∀ p H2,H p=none->Zn H H2->H2 p=some (.dK kvs)->Q (.ref p) H2
def ZjW:JM X (.type "dict") ZfN:=by
 intro pins s Z H xs us Q I r h
 obtain⟨a,kvs,rfl,e,q⟩:=h
 obtain⟨u,rfl,ru⟩:=Zdh r
 cases ru
 exact Zne I e λp s' hp I'=>⟨.ref p,_,I',rfl,q p _ hp (ZH hp _) Zi⟩
def ZfS(hg:Gl X "dict")(hm:X.mg "dict"=none)(ha:QA X [e] t)(hp:ZA e=true:=by rfl):QE X (.Call (.Name "dict" p) [e] [] pos) (tCB ZfN t):=⟨Ze7 ZjW hg hm (by decide +kernel) ha.h (by decide) (by decide) (ZC hp) rfl⟩
def Zpg:List V->Hp->VK->Prop:=λxs H Q=>∃ a kvs,xs=[.ref a]/\Rd H a (.dK kvs)/\∀ l H2,H l=none->Zn H H2->H2 l=some (.lst (kvs.map λkv=>kV kv.1))->Q (.ref l) H2
def Zki(hc:X.calm=true):JM X (.type "list") Zpg:=by
 intro pins s Z H xs us Q I r h
 obtain⟨a,kvs,rfl,e,q⟩:=h
 obtain⟨u,rfl,ru⟩:=Zdh r
 cases ru
 obtain⟨z,hd,vs,rel,dd⟩:=Zda I.hok e
 obtain⟨ep,at_⟩:=dd.dictAt
 have hf:H s.heap.objs.size=none:=I.hok.fresh (Yd _)
 refine kdl_call (kdl_dict hd) (I.ok.hd hc) at_ (by rw [<- rel.length]; exact z) λh' tk acc' c' kk hl ⟨hs,hacc⟩=>?_
 refine⟨.ref s.heap.objs.size,_,I.laid (o:=.lst (kvs.map λkv=>kV kv.1)) kk (Nat.le_refl _) (show Ji X.prog X.w _ h' _ (.lst (kvs.map λkv=>kV kv.1)) from ⟨by rw [List.length_map]; exact z,acc'.toList,c',Ze0 ?_ λi x u e1 e2=>?_,by simpa using hl⟩),rfl,q _ _ hf (ZH hf _) Zi⟩
 ·rw [List.length_map,rel.length]; simpa using hs.symm
 ·obtain⟨k,x',g1,g2⟩:=hacc i u (by simpa using e2)
  have hi:i < kvs.length:=by have:=(List.getElem?_eq_some_iff.mp e1).1; simpa using this
  obtain⟨kv,v,g3,g4⟩:=Zk7 rel hi
  rw [g1] at g4
  cases g4
  rw [Yh,g3] at e1
  cases e1
  exact Zn6 g2
def Zp4(hg:Gl X "list")(hm:X.mg "list"=none)(ha:QA X [e] t)(hp:ZA e=true:=by rfl)(hc:X.calm=true:=by rfl):QE X (.Call (.Name "list" p) [e] [] pos) (tCB Zpg t):=⟨Ze7 (Zki hc) hg hm (by decide +kernel) ha.h (by decide) (by decide) (ZC hp) rfl⟩
end
def ZsE(g:TG)(tb:TS)(D:Ends)(Z:St):V->Hp->Prop:=λx H1=>∃ a o kvs,x=.ref a/\H1 a=some (.frz o (.dK kvs))/\∃ W:Nat->Nat->St->Hp->Prop,(∃ m,W 0 m Z H1)/\∀ i m Z H,W i m Z H ->
 ((Itd a o kvs).stop i H/\D.nx Z H)\/((Itd a o kvs).go i H/\∃ N:St->Hp->Prop,(∀ Z' H',N Z' H'->∃ m',m' < m/\W (i + 1) m' Z' H')/\∀ x H',(Itd a o kvs).yld i H x H'->g x Z H' λZ2 H2=>tb { D with nx:=N,ct:=N,bk:=D.nx } Z2 H2)
def ZmG{tb:TS}{D:Ends}{Z:St}:Zqy (ZpX te) g tb D Z H=te Z H (ZsE g tb D Z):=rfl
def Zo6{a:Addr}{o:Obj}{kvs:List (Je × V)}{tb:TS}{D:Ends}{Z:St}(Pv:Nat->St->Hp->Prop)(h0:Pv 0 Z H)(hl:∀ i Z H,i<=kvs.length->Pv i Z H->H a=some (.frz o (.dK kvs)))
  (hs:∀ i kv Z H,kvs[i]?=some kv->Pv i Z H->g (kV kv.1) Z H λZ2 H2=>tb { D with nx:=Pv (i + 1),ct:=Pv (i + 1),bk:=D.nx } Z2 H2) (hd:∀ Z H,Pv kvs.length Z H->D.nx Z H):ZsE g tb D Z (.ref a) H:=by
 refine⟨a,o,kvs,rfl,hl 0 Z H (Nat.zero_le _) h0,λi m Z H=>m=kvs.length - i/\i<=kvs.length/\Pv i Z H,⟨kvs.length,by simp,Nat.zero_le _,h0⟩,?_⟩
 rintro i m Z H ⟨rfl,hi,p⟩
 have q:=hl i Z H hi p
 by_cases hlt:i < kvs.length
 ·refine .inr ⟨⟨q,hlt⟩,Pv (i + 1),λZ' H' p'=>⟨kvs.length - (i + 1),by omega,rfl,hlt,p'⟩,λx H' y=>?_⟩
  obtain⟨rfl,kv,hkv,rfl⟩:=y
  exact hs i kv Z _ hkv p
 ·have e:i=kvs.length:=by omega
  subst e
  exact .inl ⟨⟨q,Yd _⟩,hd _ _ p⟩
def ZiW{a:Addr}{xs:List V}{nt:Nat}{cp:St}{H1:Hp}{Q:VK}(Pv:Addr->Nat->List V->Hp->Prop)(h0:∀ acc H2,H1 acc=none->Zn H1 H2->H2 acc=some (.lst [])->Pv acc 0 [] H2)
  (hl:∀ acc i ys H,H1 acc=none->Pv acc i ys H->H acc=some (.lst ys)/\ys.length < 1000000/\JY K H a xs)
  (hs:∀ acc i x ys H os,H1 acc=none->xs[i]?=some x->Pv acc i ys H->os.length=nt->g x (os ++ cp) H λτ H3=>∃ os',os'.length=nt/\τ=os' ++ cp/\tt τ H3 λb H4=>if b=true then te τ H4 λv H5=>H5 acc=some (.lst ys)/\Pv acc (i + 1) (ys ++ [v]) (upd H5 acc (.lst (ys ++ [v]))) else Pv acc (i + 1) ys H4)
  (hd:∀ acc ys H,H1 acc=none->Pv acc xs.length ys H->Q (.ref acc) H):Zh1 nt cp (Itl K a) g tt te H1 Q:=by
 intro acc H2 hn sm e
 refine⟨λi m ys H=>m=xs.length - i/\i<=xs.length/\Pv acc i ys H,⟨xs.length,by simp,Nat.zero_le _,h0 acc H2 hn sm e⟩,?_⟩
 rintro i m ys H ⟨rfl,hi,p⟩
 obtain⟨q1,q2,q3⟩:=hl acc i ys H hn p
 refine⟨q1,?_⟩
 by_cases hlt:i < xs.length
 ·refine .inr ⟨⟨xs,xs[i],q3,by simp [hlt]⟩,q2,Pv acc (i + 1),λys' H' p'=>⟨xs.length - (i + 1),by omega,rfl,hlt,p'⟩,λos x H' ol y=>?_⟩
  obtain⟨rfl,hy⟩:=y
  exact hs acc i x ys _ os hn (hy xs q3) p ol
 ·have e:i=xs.length:=by omega
  subst e
  exact .inl ⟨⟨xs,q3,Yd _⟩,hd _ _ _ hn p⟩
section
variable {X:Cx}{l m:Expr}{ta:TA}{p pos pos':Pos}{es:List Expr}
end
end My
namespace My
open PySem PySem.Spec
open PyProof.Rows hiding St
def Zm6(l:List Nat):Prop:=l.Pairwise (· < ·)
theorem Zm6.at{l:List Nat}(h:Zm6 l){i j:Nat}{x y:Nat}(hi:l[i]?=some x)(hj:l[j]?=some y)(hij:i < j):x < y:=by
 obtain⟨hi1,rfl⟩:=Yf.mp hi
 obtain⟨hj1,rfl⟩:=Yf.mp hj
 exact List.pairwise_iff_getElem.mp h i j hi1 hj1 hij
def ZoE(xs:Array Nat)(j:Nat)(h:Zm6 xs.toList):∀ (f lo hi:Nat),hi - lo<=f->lo<=hi->hi<=xs.size->(∀ i x,i < lo->xs[i]?=some x->x < j)->(∀ i x,hi<=i->xs[i]?=some x->j<=x) ->
  SetTable.below.go xs j f lo hi<=xs.size/\(∀ i x,i < SetTable.below.go xs j f lo hi->xs[i]?=some x->x < j)/\∀ i x,SetTable.below.go xs j f lo hi<=i->xs[i]?=some x->j<=x:=by
 intro f
 induction f with
 | zero =>
  intro lo hi h1 h2 h3 h4 h5
  have:lo=hi:=by omega
  subst this
  unfold SetTable.below.go
  exact⟨h3,h4,h5⟩
 | succ f ih =>
  intro lo hi h1 h2 h3 h4 h5
  unfold SetTable.below.go
  by_cases c:lo < hi
  ·rw [if_pos c]
   have hm:(lo + hi) / 2 < xs.size:=by omega
   have e:xs[(lo + hi) / 2]?=some xs[(lo + hi) / 2]:=YX hm
   have e':xs.toList[(lo + hi) / 2]?=some xs[(lo + hi) / 2]:=by rw [YB]; exact e
   dsimp only
   rw [VO,e,Option.getD_some]
   by_cases c2:xs[(lo + hi) / 2] < j
   ·rw [if_pos c2]
    refine ih _ _ (by omega) (by omega) h3 (λi x hi1 hx=>?_) h5
    by_cases c3:i=(lo + hi) / 2
    ·subst c3; rw [e] at hx; cases hx; exact c2
    ·have:=h.at (by rw [YB]; exact hx) e' (show i < (lo + hi) / 2 by omega)
     omega
   ·rw [if_neg c2]
    refine ih _ _ (by omega) (by omega) (by omega) h4 λi x hi1 hx=>?_
    by_cases c3:i=(lo + hi) / 2
    ·subst c3; rw [e] at hx; cases hx; omega
    ·have:=h.at e' (by rw [YB]; exact hx) (show (lo + hi) / 2 < i by omega)
     omega
  ·rw [if_neg c]
   have:lo=hi:=by omega
   subst this
   exact⟨h3,h4,h5⟩
def ZfH(xs:Array Nat)(j:Nat)(h:Zm6 xs.toList):SetTable.below xs j<=xs.size/\(∀ i x,i < SetTable.below xs j->xs[i]?=some x->x < j)/\∀ i x,SetTable.below xs j<=i->xs[i]?=some x->j<=x :=
 ZoE xs j h xs.size 0 xs.size (by omega) (YA _) (Yd _) (λi x hi=>absurd hi (VJ _)) λi x hi hx=>by
  rw [Array.getElem?_eq_none hi] at hx; cases hx
def Zny{xs:Array Nat}{j:Nat}(h:Zm6 xs.toList)(hj:¬ xs[SetTable.below xs j]?=some j):Zm6 (SetTable.insertAt xs (SetTable.below xs j) j).toList:=by
 obtain⟨h1,h2,h3⟩:=ZfH xs j h
 rw [SetTable.toList_insertAt]
 generalize hp:SetTable.below xs j=p at *
 have hd:∀ y∈xs.toList.drop p,j < y:=λy hy=>by
  obtain⟨i,hi⟩:=Y2 hy
  rw [List.getElem?_drop,YB] at hi
  have h4:=h3 _ _ (Nat.le_add_right p i) hi
  by_cases c:y=j
  ·subst c
   by_cases ci:i=0
   ·subst ci; exact absurd hi hj
   ·have hps:p < xs.size:=by
     have:=(Array.getElem?_eq_some_iff.mp hi).1
     omega
    have e:=YX hps
    have h5:=h3 _ _ (Yd p) e
    have h6:=h.at (by rw [YB]; exact e) (by rw [YB]; exact hi) (show p < p + i by omega)
    omega
  ·omega
 have ht:∀ y∈xs.toList.take p,y < j:=λy hy=>by
  obtain⟨i,hi⟩:=Y2 hy
  have hip:i < p:=by have:=(Yf.mp hi).1; rw [Y6] at this; omega
  rw [List.getElem?_take,if_pos hip,YB] at hi
  exact h2 _ _ hip hi
 refine List.pairwise_append.mpr ⟨h.sublist (List.take_sublist _ _),List.pairwise_cons.mpr ⟨hd,h.sublist (List.drop_sublist _ _)⟩,λa ha b hb=>?_⟩
 rcases Yl.mp hb with rfl | hb
 ·exact ht a ha
 ·exact Nat.lt_trans (ht a ha) (hd b hb)
def TOk(b:Bool)(t:SetTable):Prop:=Zm6 t.place.toList/\t.dummies=#[]/\t.led=b
def ZjY(n:Nat):Zm6 (Array.range n).toList:=by
 rw [Array.toList_range]
 exact List.pairwise_lt_range
variable {t:SetTable}
def TOk.standIn{b:Bool}(h:TOk b t)(n:Nat):TOk b (t.standIn n):=⟨ZjY n,rfl,h.2.2⟩
theorem TOk.orStandIn{b:Bool}(h:TOk b t)(n:Nat):TOk b (t.orStandIn n):=by
 unfold SetTable.orStandIn
 split
 ·exact h
 ·exact h.standIn n
def Zqu(j:Nat):SetTable.has #[] j=false:=rfl
def Zkb(h:t.dummies=#[])(j:Nat):(t.slot j=.empty/\¬ t.place[SetTable.below t.place j]?=some j)\/∃ i,t.slot j=.live i:=by
 unfold SetTable.slot
 dsimp only
 by_cases c:(t.place[SetTable.below t.place j]? == some j)=true
 ·rw [if_pos c]
  exact .inr ⟨_,rfl⟩
 ·rw [if_neg c,h,Zqu]
  exact .inl ⟨rfl,λz=>c (by rw [z]; exact beq_self_eq_true _)⟩
def ZnJ(h:t.dummies=#[])(ha:Nat->Int)(x:Int):∀ (f:Nat) (p:SetTable.Probe) (j:Nat) (d:Option Nat),p.dummy=none->SetTable.probe.go t ha x f p=some (.empty j d)->d=none/\¬ t.place[SetTable.below t.place j]?=some j:=by
 intro f
 induction f with
 | zero=>intro p j d _ e; unfold SetTable.probe.go at e; cases e
 | succ f ih =>
  intro p j d hp e
  unfold SetTable.probe.go at e
  have adv:(t.advance p).dummy=none:=by
   unfold SetTable.advance
   split
   ·exact hp
   ·exact hp
  rcases Zkb h p.j with ⟨c,c2⟩ | ⟨i,c⟩
  ·rw [c] at e
   cases e
   exact⟨hp,c2⟩
  ·rw [c] at e
   dsimp only at e
   split at e
   ·cases e
   ·exact ih _ _ _ adv e
def Zie(h:t.dummies=#[]){x:Int}{j:Nat}{b:Bool}(e:t.freeSlot x=some (j,b)):b=false/\¬ t.place[SetTable.below t.place j]?=some j:=by
 unfold SetTable.freeSlot at e
 split at e
 ·rename_i j' d q
  obtain⟨rfl,h2⟩:=ZnJ h _ _ _ _ _ _ rfl q
  cases e
  exact⟨rfl,h2⟩
 ·cases e
def TOk.lay{b:Bool}(h:TOk b t)(es:Array (Int × Value))(x:Int)(v:Value):TOk b (layNew t es x v).2.1:=by
 unfold layNew
 split
 ·rename_i j d q
  have h2:=(Zie h.2.1 q).2
  dsimp only
  have k:TOk b (t.put j).1:=⟨Zny h.1 h2,by show (if SetTable.has t.dummies j then _ else t.dummies)=#[]; rw [h.2.1]; rfl,h.2.2⟩
  exact k.orStandIn _
 ·exact h.standIn _
def TOk.relay{b:Bool}(h:TOk b t)(es:Array (Int × Value))(n:Nat):TOk b (relayAll t es n).2.1:=by
 unfold relayAll
 split
 ·rename_i t' order q
  dsimp only
  split
  ·unfold SetTable.relaid SetTable.laid at q
   cases ho:SetTable.layClean (SetTable.sizeAbove n - 1) (es.map (·.1)) with
   | none=>rw [ho] at q; cases q
   | some owner =>
    rw [ho] at q
    simp only [Option.bind_eq_bind,Option.bind_some,Option.pure_def,Option.some.injEq,Prod.mk.injEq] at q
    obtain⟨rfl,_⟩:=q
    refine⟨?_,rfl,h.2.2⟩
    show Zm6 (List.map (λq:Nat × Nat=>q.1) _).toArray.toList
    have key:∀ (g:Nat->Option Nat) (l:List Nat),l.Pairwise (· < ·)->((l.filterMap λj=>(g j).map (j,·)).map (·.1)).Sublist l:=by
     intro g l _
     induction l with
     | nil=>exact .slnil
     | cons a l ih =>
      rename_i hp
      rw [VR]
      cases g a with
      | none=>exact (ih (List.pairwise_cons.mp hp).2).cons a
      | some y=>exact (ih (List.pairwise_cons.mp hp).2).cons₂ a
    exact List.pairwise_lt_range.sublist (key (λj=>owner.getD j none) _ List.pairwise_lt_range)
  ·exact h.standIn _
 ·exact h.standIn _
section
variable {prog:Program}{w:World}{A:Around}{E:VSP}{s:Shared}
def byT(w:World):Bool:=w.params.followText "set-order"
def JW(e:Int × Value):Int:=match e.2 with
 | .int k _=>k
 | _=>0
def ZiR(prog:Program)(w:World)(es:List (Int × Value)):Prop:=∀ e∈es,∃ (k:Int) (t:Tok),e.2=.int k t/\e.1=(intKind prog w).hash k
def ZiR.elems{es:List (Int × Value)}(h:ZiR prog w es):ElemsOf (intKind prog w) es:=λe he=>by
 obtain⟨k,t,h1,h2⟩:=h e he
 rw [h1]
 exact⟨⟨k,intKind_is _ _ _ _,h2⟩,rfl⟩
def ZiR.perm{es es':List (Int × Value)}(h:ZiR prog w es)(p:es'.Perm es):ZiR prog w es':=λe he=>h e (p.mem_iff.mp he)
theorem ZiR.is{es:List (Int × Value)}(h:ZiR prog w es){e:Int × Value}(he:e∈es)(k:Int):(intKind prog w).is k e.2=true ↔ k=JW e:=by
 obtain⟨k',t,h1,h2⟩:=h e he
 have h3:JW e=k':=by unfold JW; rw [h1]
 rw [h1,KeyKind.is_eq_decide (intKind_is _ _ k' t) k,decide_eq_true_eq,h3]
def JL(prog:Program)(w:World)(h:Heap)(a:Addr)(S:Int->Prop)(n:Nat):Prop :=
 ∃ o es ep t,h.get? a=some o/\o.ExactSet/\o.data=.set es ep t/\TOk (!byT w) t/\t.fits es.size=true/\ZiR prog w es.toList/\(es.toList.map JW).Nodup/\(∀ k,k∈es.toList.map JW ↔ S k)/\es.size<=n
theorem JL.keep{h h':Heap}{a:Addr}{S:Int->Prop}{n:Nat}(x:JL prog w h a S n)(hk:∀ o,h.get? a=some o->h'.get? a=some o):JL prog w h' a S n :=
 let ⟨o,es,ep,t,ho,r⟩:=x; ⟨o,es,ep,t,hk o ho,r⟩
def JL.lt{h:Heap}{a:Addr}{S:Int->Prop}{n:Nat}(x:JL prog w h a S n):a < h.objs.size:=let ⟨_,_,_,_,ho,_⟩:=x; Ye ho
def JL.store{h:Heap}{a:Addr}{o:Obj}{es:Array (Int × Value)}{ep:Nat}{es':Array (Int × Value)}{t':SetTable}{S:Int->Prop}{n:Nat}(ho:h.get? a=some o)(hex:o.ExactSet)(hd:o.data=.set es ep t)
  (h1:TOk (!byT w) t') (h2:t'.fits es'.size=true) (h3:ZiR prog w es'.toList) (h4:(es'.toList.map JW).Nodup) (h5:∀ k,k∈es'.toList.map JW ↔ S k) (h6:es'.size<=n) :
  (h.update a (Obj.putSet es' t')).get? a=some { o with data:=.set es' (ep + 1) t' }/\JL prog w (h.update a (Obj.putSet es' t')) a S n:=by
 have hg:(h.update a (Obj.putSet es' t')).get? a=some { o with data:=.set es' (ep + 1) t' }:=by
  have:=VS (Obj.putSet es' t') ho (by rw [putSet_of es' t' hd]; rfl)
  rw [putSet_of es' t' hd] at this; exact this
 exact⟨hg,_,es',ep + 1,t',hg,hex,rfl,h1,h2,h3,h4,h5,h6⟩
def Zmd{es:List (Int × Value)}(h:ZiR prog w es){k:Int}(e:es.findIdx? (λe=>(intKind prog w).is k e.2)=none):k ∉ es.map JW:=λhm=>by
 obtain⟨x,hx,rfl⟩:=Yk.mp hm
 have:=List.findIdx?_eq_none_iff.mp e x hx
 rw [(h.is hx _).mpr rfl] at this
 cases this
def ZlU{es:List (Int × Value)}(h:ZiR prog w es){k:Int}{j:Nat}(e:es.findIdx? (λe=>(intKind prog w).is k e.2)=some j):k∈es.map JW:=by
 obtain⟨hj,hp,_⟩:=List.findIdx?_eq_some_iff_getElem.mp e
 exact Yk.mpr ⟨_,Yx hj,((h.is (Yx hj) k).mp hp).symm⟩
def Zlw{g:Bool->Sem Unit}(hg:∀ (b:Bool) (s₁:Shared) (Q':Unit->Shared->Prop),Q' () s₁->wpAny (model prog w) A (g b) Q' E s₁){a:Addr}{o:Obj}{es:Array (Int × Value)}{ep:Nat}{t:SetTable}(ho:s.heap.get? a=some o)(hex:o.ExactSet)
  (hd:o.data=.set es ep t) {es1:Array (Int × Value)}{t2:SetTable}{S:Int->Prop}{n:Nat}(h1:TOk (!byT w) t2) (h2:t2.fits es1.size=true) (h3:ZiR prog w es1.toList) (h4:(es1.toList.map JW).Nodup) (h5:∀ k,k∈es1.toList.map JW ↔ S k)
  (h6:es1.size<=n) (hn:n < scanBound) {c:Bool}{R:Option Bool->Shared->Prop}(h:∀ h',Heap.SameBut a s.heap h'->JL prog w h' a S n->R (some true) { s with heap:=h' }) :
  wpAny (model prog w) A (do
    storeSet a es1 t2
    if c=true then do
      g (relayAll t2 es1 (SetTable.grown es1.size)).2.2
      storeSet a (relayAll t2 es1 (SetTable.grown es1.size)).1 (relayAll t2 es1 (SetTable.grown es1.size)).2.1
      pure (some true)
     else pure (some true)) R E s:=by
 have hs1:es1.size<=sizeLine:=fits_of_scanBound (YN h6 hn)
 refine Ya (wpAny_storeSet_of ho hd ?_ hs1)
 obtain⟨ho1,hS1⟩:=JL.store (prog:=prog) (w:=w) ho hex hd h1 h2 h3 h4 h5 h6
 have sb1:=Heap.SameBut.update s.heap a (Obj.putSet es1 t2)
 cases c with
 | false =>
  rw [if_neg (by decide)]
  exact Yb (h _ sb1 hS1)
 | true =>
  rw [if_pos rfl]
  have hp:=relayAll_perm t2 es1 (SetTable.grown es1.size)
  have hf:=relayAll_fits t2 es1 (SetTable.grown es1.size)
  have ht:=h1.relay es1 (SetTable.grown es1.size)
  generalize relayAll t2 es1 (SetTable.grown es1.size)=Rl at hp hf ht ⊢
  obtain⟨es2,t3,gave⟩:=Rl
  dsimp only at hp hf ht ⊢
  have hz:es2.size=es1.size:=by rw [<- YG,hp.length_eq,YG]
  refine Ya (hg _ _ _ (Ya (wpAny_storeSet_of ho1 rfl ?_ (by rw [hz]; exact hs1))))
  have kp:=hp.map JW
  obtain⟨_,hS2⟩:=JL.store (prog:=prog) (w:=w) (S:=S) (n:=n) ho1 hex rfl ht hf (h3.perm hp) (kp.nodup_iff.mpr h4) (λk=>(kp.mem_iff).trans (h5 k)) (by rw [hz]; exact h6)
  exact Yb (h _ (sb1.trans (Heap.SameBut.update _ a _)) hS2)
def Zlc{a:Addr}{S:Int->Prop}{n:Nat}{k:Int}{tk:Tok}{Q:Bool->Shared->Prop}(hS:JL prog w s.heap a S n)(hn:n + 1 < scanBound)(h:∀ h' r,Heap.SameBut a s.heap h'->JL prog w h' a (λk'=>S k'\/k'=k) (n + 1)->Q r { s with heap:=h' }) :
  wpAny (model prog w) A (setAddHashed a (.int k tk) ((intKind prog w).hash k)) Q E s:=by
 obtain⟨o,es,ep,t,ho,hex,hd,hT,hf,hA,hN,hM,hz⟩:=hS
 have hb:es.size < scanBound:=by omega
 unfold setAddHashed setAddHashedIn
 refine YE (Ya (Vc ho hd hf ?_))
 dsimp only
 rw [byScan_of (x:=.int k tk) rfl hb hA.elems]
 simp only [↓reduceIte]
 unfold setAddByScan
 refine Ya (Ya (Vo (Ya (wpAny_setScan_of (intKind_is _ _ k tk) ho hd hf hA.elems ?_))))
 cases hr:List.findIdx? (λe=>(intKind prog w).is k e.2) es.toList with
 | some j =>
  dsimp only
  have hk:=ZlU hA hr
  refine Yb (Yb ?_)
  have:=h s.heap false (Heap.SameBut.refl a s.heap) ⟨o,es,ep,t,ho,hex,hd,hT,hf,hA,hN,λk'=>(hM k').trans ⟨.inl,λz=>z.elim id λe=>(hM k').mp (e ▸ hk)⟩,Nat.le_succ_of_le hz⟩
  exact this
 | none =>
  dsimp only
  have hk:=Zmd hA hr
  have hperm:=layNew_perm t es ((intKind prog w).hash k) (.int k tk)
  have hfits:=layNew_fits t es ((intKind prog w).hash k) (.int k tk)
  have htab:=hT.lay es ((intKind prog w).hash k) (.int k tk)
  generalize layNew t es ((intKind prog w).hash k) (.int k tk)=Ly at hperm hfits htab ⊢
  obtain⟨es1,t1,wasD,gave⟩:=Ly
  dsimp only at hperm hfits htab ⊢
  rw [Array.toList_push] at hperm
  have kp:(es1.toList.map JW).Perm (es.toList.map JW ++ [k]):=by have:=hperm.map JW; rw [YQ] at this; exact this
  have hA1:ZiR prog w es1.toList:=λe he=>by
   rcases Yp.mp (hperm.mem_iff.mp he) with he | he
   ·exact hA e he
   ·rw [Yu.mp he]; exact⟨k,tk,rfl,rfl⟩
  have hN1:(es1.toList.map JW).Nodup:=kp.nodup_iff.mpr (List.nodup_append.mpr ⟨hN,by simp,λx hx y hy=>by rw [List.mem_singleton.mp hy]; intro e; exact hk (e ▸ hx)⟩)
  have hM1:∀ k',k'∈es1.toList.map JW ↔ (S k'\/k'=k):=λk'=>by rw [kp.mem_iff,Yp,hM k',Yu]
  have hz1:es1.size<=n + 1:=by rw [<- Array.length_toList,hperm.length_eq,List.length_append,Array.length_toList]; simpa using hz
  have gw:∀ (b:Bool) (s₁:Shared) (Q':Unit->Shared->Prop),Q' () s₁->wpAny (model prog w) A (match b with | true=>rule "set.scan.the-table-gave-way" | false=>pure ()) Q' E s₁ :=
   λb s₁ Q' hq=>by cases b <;> first | exact Yb hq | exact Vo hq
  refine Ya (gw _ _ _ ?_)
  have fin:∀ h',Heap.SameBut a s.heap h'->JL prog w h' a (λk'=>S k'\/k'=k) (n + 1)->Q true { s with heap:=h' }:=λh'=>h h' true
  split
  ·refine Ya ?_
   rw [hashByValue_scannable 8 (x:=.int k tk) rfl]
   refine Yb ?_
   refine Zlw (λb s₁ Q' hq=>by cases b <;> first | exact Yb hq | exact Vo hq) ho hex hd (S:=λk'=>S k'\/k'=k) (n:=n + 1) ?_ ?_ hA1 hN1 hM1 hz1 hn λh' sb x=>Yb (fin h' sb x)
   ·exact htab
   ·exact hfits
  ·refine Ya (Yb ?_)
   simp only [↓reduceIte]
   exact Zlw (λb s₁ Q' hq=>by cases b <;> first | exact Yb hq | exact Vo hq) ho hex hd (S:=λk'=>S k'\/k'=k) (n:=n + 1) htab hfits hA1 hN1 hM1 hz1 hn λh' sb x=>Yb (fin h' sb x)
end
section
variable {prog:Program}{w:World}{A:Around}{R:Result->Shared->Prop}{I:Addr}{fp wr:List Addr}{G:Array GenState->Array GenState->Prop}{P:Nat->Value->Prop}{St:Nat->Shared->Prop}
def Zgy{ns:List Int}{i:Nat}{v k:Int}(h:ns[i]?=some v):k∈ns.take (i + 1) ↔ k∈ns.take i\/k=v:=by
 rw [YL,h,Yp]
 simp
def Znt{ns:List Int}(W:WalksS prog w A.in1 I fp wr G ns.length P St)(S:Addr)(hSf:S ∉ fp)(hval:∀ i v,P i v->∃ k t,ns[i]?=some k/\v=.int k t)(hb:ns.length + 1 < scanBound) :
  ∀ (k i:Nat) (s:Shared),ns.length - i=k->i<=ns.length->St i s->JL prog w s.heap S (·∈ns.take i) i ->
   (∀ s',Moved (S :: wr) G s s'->JL prog w s'.heap S (·∈ns) ns.length->R (.ok (.ret .none)) s')->codeAny (model prog w) A (.builtin "set.update.loop" ⟨[.ref S,.ref I],[]⟩) R s:=by
 have hSw:S ∉ wr:=λh=>hSf (W.sub _ h)
 have hsub:∀ b∈wr,b∈S :: wr:=λb hb=>YY _ hb
 intro k
 induction k with
 | zero =>
  intro i s hk hi hst hS hR
  obtain rfl:i=ns.length:=by omega
  refine YM F.entry_set_update_loop ?_
  rw [Y3 F.plain_set_update_loop _]
  show wpAny _ A.in1 (pyNext (.ref I) >>= _) _ _ s
  refine Ya (W.done s _ _ hst λs' hm=>?_)
  show wpAny _ A.in1 (ret Value.none) _ _ s'
  rw [YO] at hS
  exact Yb (hR s' (hm.mono hsub) (hS.keep λo ho=>hm.heap S _ hSw ho))
 | succ k ih =>
  intro i s hk hi hst hS hR
  have hlt:i < ns.length:=by omega
  refine YM F.entry_set_update_loop ?_
  rw [Y3 F.plain_set_update_loop _]
  show wpAny _ A.in1 (pyNext (.ref I) >>= _) _ _ s
  refine Ya (W.item i s _ _ hlt hst λv s' hP hst' hm=>?_)
  obtain⟨z,t,hz,rfl⟩:=hval i v hP
  have hS':=hS.keep (λo ho=>hm.heap S _ hSw ho)
  show wpAny _ A.in1 (holding [Value.int z t] (setAdd S (.int z t)) >>= _) _ _ s'
  refine Ya (YE ?_)
  unfold setAdd
  refine YE (Ya ((intKind prog w).pyHash (k:=z) (intKind_is _ _ _ _) ?_))
  refine Zlc (s:={ s' with toks:=s'.toks + 1 }) hS' (by omega) λh' r hsb hS2=>?_
  have hSi:JL prog w h' S (·∈ns.take (i + 1)) (i + 1):=by
   rw [show (·∈ns.take (i + 1))=(λk'=>k'∈ns.take i\/k'=z) from funext λk'=>propext (Zgy hz)]
   exact hS2
  refine Yb ⟨Vm F.plain_set_update_loop _,ih (i + 1) _ (by omega) hlt (W.frame _ s' _ _ hst' (Vn _) λb hb o e=>?_) hSi λs'' hm'' hS''=>?_⟩
  ·rw [hsb.2 b (λh:b=S=>hSf (by rw [<- h]; exact hb))]; exact e
  ·refine hR s'' (Moved.trans W.gtrans ((hm.mono hsub).then_heap (Vn _) λb o hb e=>?_) hm'') hS''
   rw [hsb.2 b (λh:b=S=>hb (by rw [h]; exact Vi))]; exact e
end
section
variable {prog:Program}{w:World}{A:Around}{E:VSP}{s:Shared}
abbrev ZK(w:World):Obj:={ cls:=.type "set",dict:=none,data:=.set #[] 0 (.fresh 0 0 (!byT w)) }
def Zhx(a:Value){Q₁:VSP}(h:Q₁ (.ref s.heap.objs.size) { s with heap:=s.heap.push (ZK w) }) :
  codeAny (model prog w) A (.call (.builtin "set.__new__") ⟨[.type "set",a],[]⟩) (wants Q₁ E) s:=by
 refine codeAny_of_tree ?_
 show wpAny _ A.in1 (do checkBuiltinCall "set.__new__" ⟨[.type "set",a],[]⟩; again (.builtin "set.__new__" ⟨[.type "set",a],[]⟩)) _ _ s
 refine Ya (wpAny_of_eq (F.newCall_set_1 a) (Yb ⟨Vm F.plain_set_new _,YM F.entry_set_new ?_⟩))
 rw [Y3 F.plain_set_new _]
 unfold Builtin.«set.__new__» Builtin.Frozenset.newClass
 have hsub:=sub_set_self
 obtain⟨hp,g,d,tk,os⟩:=s
 dsimp only
 wp_walk
 refine wpAny_askSetting (Yb ?_)
 dsimp only
 simp only [newObj]
 exact Ya (wpAny_alloc (Yb (Yb h)))
theorem JL.fresh{h:Heap}{a:Addr}(e:h.get? a=some (ZK w)):JL prog w h a (·∈([]:List Int)) 0 :=
 ⟨_,#[],0,_,e,⟨rfl,rfl,rfl⟩,rfl,⟨List.Pairwise.nil,rfl,rfl⟩,rfl,(λe he=>by simp at he),List.nodup_nil,λk=>by simp,Nat.le_refl _⟩
set_option maxHeartbeats 3200000 in
theorem ZhG{l:Addr}{items:Array Value}{ns:List Int}{Q:VSP}(hh:A.handled=none)(hl:s.heap.IsList l items)(hi:IntsAre items.toList ns)(hb:ns.length + 1 < scanBound)
  (h:∀ (h':Heap) (tk:Nat),JL prog w h' s.heap.objs.size (·∈ns) ns.length->(∀ b o,s.heap.get? b=some o->h'.get? b=some o)->Q (.ref s.heap.objs.size) { s with heap:=h',toks:=tk }) :
  wpAny (model prog w) A (call (.type "set") [.ref l]) Q E s:=by
 obtain⟨c,tl,hmro⟩:=F.called_set.mro
 have hmade:=F.called_set.made
 have hsub:=F.called_set.sub
 refine Vf (codeAny_of_tree ?_)
 show wpAny _ _ (callAny (.type "set") _) _ _ _
 refine Yb ⟨Code.quiet_builtin _ (by decide +kernel),YM F.entry_type_call ?_⟩
 rw [Around.under_plain (weight_type_call_type "set" [.ref l] []) rfl]
 have h1:=F.called_set.notType
 have h2:=F.called_set.canCreate
 have hct:=F.typeCall_set_1 (.ref l)
 repeat (any_goals (first | assumption | wp_step))
 refine YF (Zhx (.ref l) (E:=E) (Q₁:=λobj s₁=>obj=.ref s.heap.objs.size/\s₁={ s with heap:=s.heap.push (ZK w) }) ⟨rfl,rfl⟩) λr s₁ hr=>?_
 cases r with
 | error e=>exact hr
 | ok fl =>
  cases fl with
  | ret obj =>
   obtain⟨rfl,rfl⟩:=hr
   have hS:(s.heap.push (ZK w)).get? s.heap.objs.size=some (ZK w):=Ym _ rfl
   have hT:Shared.TypeIs { s with heap:=s.heap.push (ZK w) } (.ref s.heap.objs.size) "set":=⟨_,hS,rfl⟩
   have hli:=F.called_set.init.lookup
   have hbi:=F.called_set.init.bind (.ref s.heap.objs.size)
   repeat (any_goals (first | assumption | wp_step))
   refine YF (VF (R:=wants (λr s₂=>r=.none/\∃ h' tk,s₂={ s with heap:=h',toks:=tk }/\JL prog w h' s.heap.objs.size (·∈ns) ns.length/\(∀ b o,s.heap.get? b=some o->h'.get? b=some o)) E)
    F.called_set.init.plain F.entry_set_init (check_set_init_1 hT ?_)) λr₂ s₂ hr₂=>?_
   ·obtain⟨ol,hol,hcl,nl,hdl⟩:=hl
    obtain⟨ocls,odict,odata,oslots⟩:=ol
    simp only at hcl hdl
    subst hcl; subst hdl
    have hol':(s.heap.push (ZK w)).get? l=some { cls:=.type "list",dict:=odict,data:=.seq items nl,slots:=oslots }:=Yg _ hol
    have hsls:=F.sub_list_set
    have hslf:=F.sub_list_frozenset
    have hne:(Value.type "list" == Value.type "dict")=false:=by decide
    have hl1:(s.heap.push (ZK w)).IsList l items:=⟨_,hol',rfl,nl,rfl⟩
    have hsz:items.size=ns.length:=by rw [<- YG]; exact IntsAre.length hi
    unfold Builtin.«set.__init__» noKeywords Builtin.Frozenset.updateFrom
    generalize hPI:pyIter=PI
    wp_walk
    subst hPI
    refine wpAny_pyIter_list hl1 (Ya (wpAny_runValue ?_))
    have hlS:l < s.heap.objs.size:=Ye hol
    have hz1:(s.heap.push (ZK w)).objs.size=s.heap.objs.size + 1:=Vy ..
    have hneI:l ≠ (s.heap.push (ZK w)).objs.size:=by rw [hz1]; exact Yn (Vt hlS)
    have hSf:s.heap.objs.size ∉ [(s.heap.push (ZK w)).objs.size,l]:=by
     rw [hz1]; simp only [List.mem_cons,List.not_mem_nil,or_false,not_or]; exact⟨Nat.ne_of_lt (Nat.lt_succ_self _),Nat.ne_of_gt hlS⟩
    have W:=(Walks.list (prog:=prog) (w:=w) (A:=A.in1.in1.in1) (by simp [hh]) _ l hneI items).toS
    rw [hsz] at W
    refine Znt W s.heap.objs.size hSf (λi v hv=>?_) hb ns.length 0 _ (by omega) (YA _) ⟨⟨_,Ym _ rfl,rfl,rfl⟩,(hl1.push _)⟩ (JL.fresh (Yg _ hS)) λs' hm hS'=>?_
    ·have hlt:i < ns.length:=by rw [<- hsz]; exact (Array.getElem?_eq_some_iff.mp hv).1
     obtain⟨t,e⟩:=IntsAre.int_at hi i v (by rw [YB]; exact hv)
     exact⟨ns[i],t,Yc hlt,by rw [e,List.getD_eq_getElem?_getD,Yc hlt]; rfl⟩
    ·obtain⟨h',g',d',tk',os'⟩:=s'
     have eg:g'=s.gens:=hm.gens
     have ed:d'=s.drawn:=hm.drawn
     have eo:os'=s.os:=hm.os
     subst eg; subst ed; subst eo
     show wpAny _ _ _ _ _ _
     refine Yb ?_
     show wpAny _ _ (ret Value.none) _ _ _
     refine Yb ⟨rfl,h',tk',rfl,hS',λb o e=>?_⟩
     have hb:=Ye e
     exact hm.heap b o (by rw [hz1]; simp only [List.mem_cons,List.not_mem_nil,or_false,not_or]; exact⟨Nat.ne_of_lt hb,Nat.ne_of_lt (Nat.lt_succ_of_lt hb)⟩) (Heap.get?_push_of_some _ (Heap.get?_push_of_some _ e))
   ·cases r₂ with
    | error e=>exact hr₂
    | ok fl₂ =>
     cases fl₂ with
     | ret r =>
      obtain⟨rfl,h',tk,rfl,hS',hk'⟩:=hr₂
      repeat (any_goals (first | assumption | wp_step))
      exact h _ _ hS' hk'
     | _=>exact hr₂.elim
  | _=>exact hr.elim
end
theorem ZeL:Manifest.owners.lookup (String.ofList ['r','o','t','a','r','e','t','i','_','t','e','s'].reverse)=some Manifest.sig_set_iterator:=by kernel_rfl
def Zaf:Slot "set_iterator" "__next__" "set_iterator.__next__" :=
 .of (owner:="set_iterator") (n:="__next__") (by rw [typeLookup_type,builtinLookup_eq_fast]; kernel_rfl) (by decide +kernel) (by decide +kernel) (by decide +kernel)
  (by first | exact .inl (by decide +kernel) | exact .inr (by decide +kernel)) (by rw [isSubtype_type]; kernel_rfl)
def Za9:entryFor table "set_iterator.__next__"=some Builtin.«set_iterator.__next__»:=entryFor_of_tree (by kernel_rfl)
def Zbj(a:Value):argsOk "set_iterator.__next__" ⟨[a],[]⟩:=by
 unfold argsOk; rw [signature?_of (id:="set_iterator.__next__") (n:=['_','_','t','x','e','n','_','_']) (o:=['r','o','t','a','r','e','t','i','_','t','e','s']) (by kernel_rfl) ZeL]; kernel_rfl
def ZcK:Slot "set_iterator" "__iter__" "set_iterator.__iter__" :=
 .of (owner:="set_iterator") (n:="__iter__") (by rw [typeLookup_type,builtinLookup_eq_fast]; kernel_rfl) (by decide +kernel) (by decide +kernel) (by decide +kernel)
  (by first | exact .inl (by decide +kernel) | exact .inr (by decide +kernel)) (by rw [isSubtype_type]; kernel_rfl)
def Zfg:entryFor table "set.__iter__"=some Builtin.«frozenset.__iter__» :=
 entryFor_alias (id':="frozenset.__iter__") (by kernel_rfl) rfl (by decide +kernel) (by kernel_rfl)
def Zef:entryFor table "set_iterator.__iter__"=some Builtin.«dict_keyiterator.__iter__» :=
 entryFor_alias (id':="dict_keyiterator.__iter__") (by kernel_rfl) rfl (by decide +kernel) (by kernel_rfl)
def Zfe(a:Value):argsOk "set_iterator.__iter__" ⟨[a],[]⟩:=by
 unfold argsOk; rw [signature?_of (id:="set_iterator.__iter__") (n:=['_','_','r','e','t','i','_','_']) (o:=['r','o','t','a','r','e','t','i','_','t','e','s']) (by kernel_rfl) ZeL]; kernel_rfl
def ZfF{α:Type}{l:List α}{i:Nat}(h:i < l.length):(l[i] :: l.eraseIdx i).Perm l:=by
 rw [List.eraseIdx_eq_take_drop_succ]
 have e:l=l.take i ++ l[i] :: l.drop (i + 1):=by rw [List.getElem_cons_drop,List.take_append_drop]
 conv=>rhs; rw [e]
 exact List.perm_middle.symm
section
variable {prog:Program}{w:World}{A:Around}{E:VSP}{s:Shared}
theorem ZkA{src:Source}{n:Nat}{Q:Nat->Shared->Prop}(hn:n ≠ 0)(h:∀ k d,k < n->Q k { s with drawn:=d }):wpAny (model prog w) A (choose src n) Q E s :=
 λ_ _ _=>⟨hn,h _ _ (Nat.mod_lt _ (Nat.pos_of_ne_zero hn))⟩
def Zdw{Q:Bool->Shared->Prop}(h:Q (byT w) s):wpAny (model prog w) A setsByText Q E s:=by
 unfold setsByText
 exact Ya (wpAny_askSetting (Yb h))
theorem Zg5{α:Type}:∀ (n:Nat) (xs:List α) (s:Shared) {Q:List α->Shared->Prop},xs.length<=n->(∀ ys d,ys.Perm xs->Q ys { s with drawn:=d })->wpAny (model prog w) A (drawOrder n xs) Q E s:=by
 intro n
 induction n with
 | zero =>
  intro xs s Q hl h
  have:xs=[]:=V0.mp (by omega)
  subst this
  unfold drawOrder
  exact Yb (h [] s.drawn .nil)
 | succ n ih =>
  intro xs s Q hl h
  cases xs with
  | nil=>unfold drawOrder; exact wpAny_pure (h [] s.drawn .nil)
  | cons x xs =>
   unfold drawOrder
   refine wpAny_bind (ZkA (by simp) λk d hk=>?_)
   have e:=Yc hk
   rw [e]
   dsimp only
   refine wpAny_bind (ih _ _ (by rw [List.length_eraseIdx,if_pos hk]; simp at hl ⊢; omega) λys d' hp=>?_)
   exact Yb (h _ d' ((hp.cons _).trans (ZfF hk)))
theorem ZqM{α:Type}(f:Nat->Nat):∀ (n k:Nat) (xs:List α) (out:Array α),xs.length<=n->(pickOrder.go f n k xs out).toList.Perm (out.toList ++ xs):=by
 intro n
 induction n with
 | zero =>
  intro k xs out hl
  have:xs=[]:=V0.mp (by omega)
  subst this
  unfold pickOrder.go
  simp
 | succ n ih =>
  intro k xs out hl
  unfold pickOrder.go
  cases xs with
  | nil=>simp
  | cons x xs =>
   have hk:f k % (x :: xs).length < (x :: xs).length:=Nat.mod_lt _ (by simp)
   rw [Yc hk]
   dsimp only
   refine (ih _ _ _ (by rw [List.length_eraseIdx,if_pos hk]; simp at hl ⊢; omega)).trans ?_
   rw [Array.toList_push,List.append_assoc]
   exact List.Perm.append_left _ (ZfF hk)
def Zl5{α:Type}(f:Nat->Nat)(xs:Array α):(pickOrder f xs).toList.Perm xs.toList:=by
 unfold pickOrder
 exact (ZqM f _ _ _ _ (by simp)).trans (by simp)
def SN(prog:Program)(w:World)(a:Addr)(o:Obj)(ep:Nat)(f:Nat->Nat)(L:List Value):Prop :=
 ∀ (A:Around) (E:VSP) (s:Shared) (Q:Option (Value × Nat)->Shared->Prop) (i:Nat),i<=L.length->s.heap.get? a=some o->Q ((L[i]?).map λv=>(v,f (i + 1))) s->wpAny (model prog w) A (setNext a (f i) i ep) Q E s
def Zqa{a:Addr}{o:Obj}{es:Array (Int × Value)}{ep:Nat}(hd:o.data=.set es ep t)(hf:t.fits es.size=true)(hb:byT w=true):SN prog w a o ep (λ_=>0) ((pickOrder (w.params.setOrder a ep) es).toList.map (·.2)):=by
 intro A E s Q i hi ho h
 unfold setNext
 refine Ya (Vc ho hd hf ?_)
 dsimp only
 refine Ya (Zdw ?_)
 rw [hb,if_pos rfl,if_neg (by simp)]
 unfold setWalk
 refine Ya (Ya (Vc ho hd hf ?_))
 dsimp only
 refine Ya (Zdw ?_)
 rw [hb,if_pos rfl]
 refine Ya (wpAny_askSetting (Yb (Yb ?_)))
 rw [Yh,YB,Option.map_map] at h
 exact h
def Zd3(p:Array Nat)(i:Nat):Nat:=match i with
 | 0=>0
 | i + 1=>p.getD i 0 + 1
theorem Zhi{p:Array Nat}(h:Zm6 p.toList){i:Nat}(hi:i<=p.size):SetTable.below p (Zd3 p i)=i:=by
 obtain⟨h1,h2,h3⟩:=ZfH p (Zd3 p i) h
 generalize SetTable.below p (Zd3 p i)=b at h1 h2 h3
 rcases Nat.lt_trichotomy b i with c | c | c
 ·have hb:b < p.size:=by omega
  have e:=YX hb
  have h4:=h3 _ _ (Yd b) e
  cases i with
  | zero=>omega
  | succ i =>
   have hi':i < p.size:=by omega
   have e2:=YX hi'
   have hs:Zd3 p (i + 1)=p[i] + 1:=by show p.getD i 0 + 1=_; rw [VO,e2]; rfl
   rw [hs] at h4
   by_cases c2:b=i
   ·subst c2; omega
   ·have:=h.at (by rw [YB]; exact e) (by rw [YB]; exact e2) (show b < i by omega)
    omega
 ·exact c
 ·have hi':i < p.size:=by omega
  have e:=YX hi'
  have h4:=h2 _ _ c e
  cases i with
  | zero=>exact absurd h4 (VJ _)
  | succ i =>
   have hi2:i < p.size:=by omega
   have e2:=YX hi2
   have hs:Zd3 p (i + 1)=p[i] + 1:=by show p.getD i 0 + 1=_; rw [VO,e2]; rfl
   rw [hs] at h4
   have:=h.at (by rw [YB]; exact e2) (by rw [YB]; exact e) (VI i)
   omega
def Zom{a:Addr}{o:Obj}{es:Array (Int × Value)}{ep:Nat}(hd:o.data=.set es ep t)(hf:t.fits es.size=true)(hT:TOk (!byT w) t)(hb:byT w=false)(hp:(!t.plain && decide (es.size > 1))=false) :
  SN prog w a o ep (Zd3 t.place) (es.toList.map (·.2)):=by
 intro A E s Q i hi ho h
 have hz:t.place.size=es.size:=by simp only [SetTable.fits,Bool.and_eq_true,beq_iff_eq] at hf; exact hf.1
 have hl:t.led=true:=by rw [hT.2.2,hb]; rfl
 unfold setNext
 refine Ya (Vc ho hd hf ?_)
 dsimp only
 refine Ya (Zdw ?_)
 rw [hb,if_neg (by decide)]
 refine Vw (λc=>absurd (hp.symm.trans c) (by decide)) (λ_=>?_)
 refine Ya ?_
 show wpAny _ _ (if (!t.led && !es.isEmpty)=true then unsupported _ else pure ()) _ _ _
 rw [hl,if_neg (by simp)]
 refine Yb (Yb ?_)
 rw [Zhi hT.1 (by rw [hz]; simpa using hi)]
 rw [Yh,YB] at h
 by_cases c:i < es.size
 ·have e:=YX c
  have e2:=YX (show i < t.place.size by rw [hz]; exact c)
  rw [e,e2]
  rw [e] at h
  have hs:Zd3 t.place (i + 1)=t.place[i] + 1:=by show t.place.getD i 0 + 1=_; rw [VO,e2]; rfl
  rw [hs] at h
  exact h
 ·rw [Array.getElem?_eq_none (by omega)] at h ⊢
  exact h
abbrev Zfh(f:Value)(i:Nat)(a:Addr)(n ep:Nat):Obj:={ cls:=.type "set_iterator",dict:=none,data:=.fields #[f,.int i 0,.ref a,.int n 0,.int ep 0],slots:=#[] }
def Zli{I a:Addr}{o:Obj}{es:Array (Int × Value)}{ep:Nat}{f:Nat->Nat}{L:List Value}{i:Nat}{v:Value}{Q:Option Value->Shared->Prop}(hne:I ≠ a)(hd:o.data=.set es ep t)(hf:t.fits es.size=true)(hsn:SN prog w a o ep f L)(hl:L.length=es.size)
  (hit:s.heap.get? I=some (Zfh (.int (f i) 0) i a es.size ep)) (ho:s.heap.get? a=some o) (hi:L[i]?=some v)
  (h:∀ h',h'.get? I=some (Zfh (.int (f (i + 1)) 0) (i + 1) a es.size ep)->Heap.SameBut I s.heap h'->Q (some v) { s with heap:=h' }):wpAny (model prog w) A (pyNext (.ref I)) Q E s:=by
 have hty:s.TypeIs (.ref I) "set_iterator":=⟨_,hit,rfl⟩
 unfold pyNext
 refine Ya (VA (VP (name:=Str.ofString "__next__") hty Zaf (YV Zaf hty Za9 ?_ (Zbj _))))
 unfold Builtin.«set_iterator.__next__»
 refine Ya (Yb ?_)
 refine Ya (wpAny_fieldsOf hit rfl ?_)
 dsimp only
 refine Ya (YT ho hd hf ?_)
 rw [if_neg (by simp)]
 have hil:i < L.length:=(Yf.mp hi).1
 refine Ya (hsn _ _ s _ i (Yt hil) ho ?_)
 rw [hi]
 dsimp only [Option.map]
 refine wpAny_bind (wpAny_setField_rec hit (by simp) λh1 g1 sb1=>?_)
 refine wpAny_bind (wpAny_setField_rec (s:={ s with heap:=h1 }) g1 (by simp) λh2 g2 sb2=>?_)
 refine Yb ⟨_,rfl,Yb (h h2 ?_ (sb1.trans sb2))⟩
 rw [g2]
 simp [rawInt]
def Zo3{I a:Addr}{o:Obj}{es:Array (Int × Value)}{ep:Nat}{f:Nat->Nat}{L:List Value}{Q:Option Value->Shared->Prop}(hh:A.handled=none)(hd:o.data=.set es ep t)(hf:t.fits es.size=true)(hsn:SN prog w a o ep f L)(hl:L.length=es.size)
  (hit:s.heap.get? I=some (Zfh (.int (f L.length) 0) L.length a es.size ep)) (ho:s.heap.get? a=some o) (h:∀ h',Heap.ExtBut I s.heap h'->Q none { s with heap:=h' }):wpAny (model prog w) A (pyNext (.ref I)) Q E s:=by
 have hty:s.TypeIs (.ref I) "set_iterator":=⟨_,hit,rfl⟩
 unfold pyNext
 refine Ya (VA (VP (name:=Str.ofString "__next__") hty Zaf (YV Zaf hty Za9 ?_ (Zbj _))))
 unfold Builtin.«set_iterator.__next__»
 refine Ya (Yb ?_)
 refine Ya (wpAny_fieldsOf hit rfl ?_)
 dsimp only
 refine Ya (YT ho hd hf ?_)
 rw [if_neg (by simp)]
 refine Ya (hsn _ _ s _ L.length (Yd _) ho ?_)
 rw [YS (Yd _)]
 dsimp only [Option.map]
 refine wpAny_bind (wpAny_setField_rec hit (by simp) λh1 g1 sb1=>?_)
 refine Ya ?_
 simp only [newExc,newTuple]
 refine Ya (Y5 ?_ (by size_fits))
 refine wpAny_bind (m:=firstArgMember _ _) (wpAny_of_eq (a:=Value.none) (by first | rfl | (simp only [firstArgMember]; rfl)) ?_)
 refine Y5 ?_ (by size_fits)
 simp only [raiseNew]
 refine Ya (wpAny_handled ?_)
 rw [show A.in1.handled=none from hh]
 refine Ya (Yb (wpAny_throw ?_))
 refine Ya (Vj (T:="StopIteration") (b:=true) ⟨_,Ym _ rfl,rfl⟩ isSubtype_stop ?_)
 exact Yb (h _ ((sb1.extBut.push _).push _))
def ZlJ{I a:Addr}{f:Value}{i n ep:Nat}{Q:VSP}(hit:s.heap.get? I=some (Zfh f i a n ep))(h:Q (.ref I) s):wpAny (model prog w) A (pyIter (.ref I)) Q E s:=by
 have hty:s.TypeIs (.ref I) "set_iterator":=⟨_,hit,rfl⟩
 refine wpAny_pyIter_slot hty ZcK (YV ZcK hty Zef ?_ (Zfe _))
 show wpAny _ _ (ret (.ref I)) _ _ s
 exact Yb ⟨_,rfl,"set_iterator",_,hty,Zaf.lookup,h⟩
def ZoK(hh:A.handled=none){I a:Addr}{o:Obj}{es:Array (Int × Value)}{ep:Nat}{t:SetTable}{f:Nat->Nat}{L:List Value}(hne:I ≠ a)(hd:o.data=.set es ep t)(hf:t.fits es.size=true)(hsn:SN prog w a o ep f L)(hl:L.length=es.size) :
  Walks prog w A I [I,a] [I] L.length (λi v=>L[i]?=some v) (λi h=>h.get? I=some (Zfh (.int (f i) 0) i a es.size ep)/\h.get? a=some o) where
 sub:=λb hb=>by simp only [List.mem_singleton] at hb; subst hb; simp
 frame:=λi h h' ⟨h1,h2⟩ hk=>⟨hk I (by simp) _ h1,hk a (by simp) _ h2⟩
 item:=λi s Q E hi ⟨h1,h2⟩ hQ=>Zli hne hd hf hsn hl h1 h2 (Yc hi) λh' g sb=>by
  have:=hQ _ h' s.toks (List.getElem?_eq_getElem hi) ⟨g,by rw [sb.2 a (λz=>hne z.symm)]; exact h2⟩ λb o hb e=>by rw [sb.2 b (λz=>hb (by rw [z]; simp))]; exact e
  exact this
 done:=λs Q E ⟨h1,h2⟩ hQ=>Zo3 hh hd hf hsn hl h1 h2 λh' x=>by
  have:=hQ h' s.toks λb o hb e=>x b o (λz=>hb (by rw [z]; simp)) e
  exact this
 self:=λi s Q E ⟨h1,h2⟩ hQ=>ZlJ h1 hQ
def Zjw{I a T:Addr}{o oT:Obj}{es:Array (Int × Value)}{ep c:Nat}{ps:List Nat}{i p:Nat}{x:Int × Value}{Q:Option Value->Shared->Prop}(hd:o.data=.set es ep t)(hf:t.fits es.size=true)(hT:oT.data=.seq (ps.map λk:Nat=>rawInt k).toArray c)
  (hit:s.heap.get? I=some (Zfh (.ref T) i a es.size ep)) (ho:s.heap.get? a=some o) (hoT:s.heap.get? T=some oT) (hi:ps[i]?=some p) (hx:es[p]?=some x)
  (h:∀ h',h'.get? I=some (Zfh (.ref T) (i + 1) a es.size ep)->Heap.SameBut I s.heap h'->Q (some x.2) { s with heap:=h' }):wpAny (model prog w) A (pyNext (.ref I)) Q E s:=by
 have hty:s.TypeIs (.ref I) "set_iterator":=⟨_,hit,rfl⟩
 unfold pyNext
 refine Ya (VA (VP (name:=Str.ofString "__next__") hty Zaf (YV Zaf hty Za9 ?_ (Zbj _))))
 unfold Builtin.«set_iterator.__next__»
 refine Ya (Yb ?_)
 refine Ya (wpAny_fieldsOf hit rfl ?_)
 dsimp only
 refine Ya (YT ho hd hf ?_)
 rw [if_neg (by simp)]
 unfold seqItems?
 dsimp only
 refine Ya (Ya (Vp hoT ?_))
 rw [hT]
 refine Yb ?_
 dsimp only
 rw [List.getElem?_toArray,Yh,Vb,hi]
 dsimp only [Option.map,rawInt]
 refine Ya ?_
 unfold setNextDrawn
 refine Ya (Vc ho hd hf ?_)
 dsimp only
 rw [if_neg (by simp),Int.toNat_natCast,hx]
 refine Yb ?_
 refine wpAny_bind (wpAny_setField_rec hit (by simp) λh1 g1 sb1=>?_)
 refine Yb ⟨_,rfl,Yb (h h1 ?_ sb1)⟩
 rw [g1]
 simp
def ZlY{I a T:Addr}{o oT:Obj}{es:Array (Int × Value)}{ep c:Nat}{ps:List Nat}{Q:Option Value->Shared->Prop}(hh:A.handled=none)(hd:o.data=.set es ep t)(hf:t.fits es.size=true)(hT:oT.data=.seq (ps.map λk:Nat=>rawInt k).toArray c)
  (hit:s.heap.get? I=some (Zfh (.ref T) ps.length a es.size ep)) (ho:s.heap.get? a=some o) (hoT:s.heap.get? T=some oT) (h:∀ h',Heap.ExtBut I s.heap h'->Q none { s with heap:=h' }):wpAny (model prog w) A (pyNext (.ref I)) Q E s:=by
 have hty:s.TypeIs (.ref I) "set_iterator":=⟨_,hit,rfl⟩
 unfold pyNext
 refine Ya (VA (VP (name:=Str.ofString "__next__") hty Zaf (YV Zaf hty Za9 ?_ (Zbj _))))
 unfold Builtin.«set_iterator.__next__»
 refine Ya (Yb ?_)
 refine Ya (wpAny_fieldsOf hit rfl ?_)
 dsimp only
 refine Ya (YT ho hd hf ?_)
 rw [if_neg (by simp)]
 unfold seqItems?
 dsimp only
 refine Ya (Ya (Vp hoT ?_))
 rw [hT]
 refine Yb ?_
 dsimp only
 rw [List.getElem?_toArray,Yh,Vb,YS (Yd _)]
 dsimp only [Option.map]
 refine wpAny_bind (wpAny_setField_rec hit (by simp) λh0 g0 sb0=>?_)
 refine wpAny_bind (wpAny_setField_rec (s:={ s with heap:=h0 }) g0 (by simp) λh1 g1 sb1=>?_)
 refine Ya ?_
 simp only [newExc,newTuple]
 refine Ya (Y5 ?_ (by size_fits))
 refine wpAny_bind (m:=firstArgMember _ _) (wpAny_of_eq (a:=Value.none) (by first | rfl | (simp only [firstArgMember]; rfl)) ?_)
 refine Y5 ?_ (by size_fits)
 simp only [raiseNew]
 refine Ya (wpAny_handled ?_)
 rw [show A.in1.handled=none from hh]
 refine Ya (Yb (wpAny_throw ?_))
 refine Ya (Vj (T:="StopIteration") (b:=true) ⟨_,Ym _ rfl,rfl⟩ isSubtype_stop ?_)
 exact Yb (h _ (((sb0.trans sb1).extBut.push _).push _))
def Zic(hh:A.handled=none){I a T:Addr}{o oT:Obj}{es:Array (Int × Value)}{ep c:Nat}{t:SetTable}{ps:List Nat}(hne:I ≠ a)(hnT:I ≠ T)(hd:o.data=.set es ep t)(hf:t.fits es.size=true)(hT:oT.data=.seq (ps.map λk:Nat=>rawInt k).toArray c)
  (hps:∀ (i p:Nat),ps[i]?=some p->p < es.size) :
  Walks prog w A I [I,a,T] [I] ps.length (λi v=>∃ p x,ps[i]?=some p/\es[p]?=some x/\v=x.2) (λi h=>h.get? I=some (Zfh (.ref T) i a es.size ep)/\h.get? a=some o/\h.get? T=some oT) where
 sub:=λb hb=>by simp only [List.mem_singleton] at hb; subst hb; simp
 frame:=λi h h' ⟨h1,h2,h3⟩ hk=>⟨hk I (by simp) _ h1,hk a (by simp) _ h2,hk T (by simp) _ h3⟩
 item:=λi s Q E hi ⟨h1,h2,h3⟩ hQ=>by
  have e:=Yc hi
  have e2:=YX (hps i _ e)
  refine Zjw hd hf hT h1 h2 h3 e e2 λh' g sb=>?_
  have:=hQ _ h' s.toks ⟨_,_,e,e2,rfl⟩ ⟨g,by rw [sb.2 a (λz=>hne z.symm)]; exact h2,by rw [sb.2 T (λz=>hnT z.symm)]; exact h3⟩ λb o hb e=>by rw [sb.2 b (λz=>hb (by rw [z]; simp))]; exact e
  exact this
 done:=λs Q E ⟨h1,h2,h3⟩ hQ=>ZlY hh hd hf hT h1 h2 h3 λh' x=>by
  have:=hQ h' s.toks λb o hb e=>x b o (λz=>hb (by rw [z]; simp)) e
  exact this
 self:=λi s Q E ⟨h1,h2⟩ hQ=>ZlJ h1 hQ
def ZmM:∀ {es:List (Int × Value)},ZiR prog w es->IntsAre (es.map (·.2)) (es.map JW)
 | [],_=>.nil
 | e :: es,h=>by
  obtain⟨k,t,h1,_⟩:=h e (Vi ..)
  have h3:JW e=k:=by unfold JW; rw [h1]
  rw [Ys,Ys,h1,h3]
  exact .cons k t (ZmM λx hx=>h x (YY _ hx))
theorem Zph{es:Array (Int × Value)}:∀ {ps:List Nat},(∀ (i p:Nat),ps[i]?=some p->p < es.size)->∀ vs:List Value,vs.length=ps.length->(∀ (i:Nat) v,vs[i]?=some v->∃ p x,ps[i]?=some p/\es[p]?=some x/\v=x.2)->vs=(ps.filterMap (es[·]?)).map (·.2)
 | [],_,vs,hl,_=>by rw [V0.mp hl]; rfl
 | p :: ps,hps,vs,hl,hv=>by
  cases vs with
  | nil=>cases hl
  | cons v vs =>
   obtain⟨p',x,e1,e2,rfl⟩:=hv 0 v rfl
   cases e1
   rw [VR,e2]
   dsimp only
   rw [List.map_cons,<- Zph (λi p h=>hps (i + 1) p h) vs (by simpa using hl) λi v h=>hv (i + 1) v h]
def Znf{a:Addr}{S:Int->Prop}{n:Nat}{Q:VSP}(hh:A.handled=none)(hS:JL prog w s.heap a S n)(hn:n < scanBound)
  (h:∀ (h':Heap) d (I:Addr) (fp:List Addr) (m:Nat) (P:Nat->Value->Prop) (St:Nat->Heap->Prop),(∀ b o,s.heap.get? b=some o->h'.get? b=some o)->Walks prog w A I fp [I] m P St->St 0 h'->s.heap.objs.size<=I->(∀ b∈fp,b=a\/s.heap.objs.size<=b)->(∀ b∈fp,b < h'.objs.size) ->
   m<=n->(∀ vs:List Value,vs.length=m->(∀ (i:Nat) v,vs[i]?=some v->P i v)->∃ ks:List Int,IntsAre vs ks/\ks.Nodup/\∀ k,k∈ks ↔ S k)->Q (.ref I) { s with heap:=h',drawn:=d }) :
  wpAny (model prog w) A (pyIter (.ref a)) Q E s:=by
 obtain⟨o,es,ep,t,ho,hex,hd,hT,hf,hA,hN,hM,hz⟩:=id hS
 have hty:s.TypeIs (.ref a) "set":=⟨_,ho,hex.1⟩
 refine wpAny_pyIter_slot hty F.slot_set_iter (YV F.slot_set_iter hty Zfg ?_ (F.args_set_iter_1 _))
 unfold Builtin.«frozenset.__iter__» Builtin.Frozenset.slot0 Builtin.Frozenset.sizeOf
 refine Ya (Ya (Yb (Yb ?_)))
 refine Ya (Ya (YT ho hd hf (Yb ?_)))
 unfold setDrawn
 refine Ya (Ya (Vc ho hd hf ?_))
 dsimp only
 refine Ya (Zdw (Yb ?_))
 have hlt:a < s.heap.objs.size:=Ye ho
 have told:∀ (es':List (Int × Value)),es'.Perm es.toList->∀ vs:List Value,vs=es'.map (·.2)->∃ ks:List Int,IntsAre vs ks/\ks.Nodup/\∀ k,k∈ks ↔ S k:=λes' hp vs hv =>
  ⟨es'.map JW,by rw [hv]; exact ZmM (hA.perm hp),(hp.map JW).nodup_iff.mpr hN,λk=>((hp.map JW).mem_iff).trans (hM k)⟩
 have plain:∀ (f:Nat->Nat) (es':List (Int × Value)),es'.Perm es.toList->f 0=0->SN prog w a o ep f (es'.map (·.2))->wpAny (model prog w) A.in1 (do
   let first <- pure (rawInt 0)
   let __do_lift <- setEpoch a
   let __do_lift <- newFields "set_iterator" [first,rawInt 0,Value.ref a,rawInt ↑es.size,rawInt ↑__do_lift]
   ret __do_lift) (λfin s'=>∃ v,fin=Fin.done (Flow.ret v)/\∃ T' r,s'.TypeIs v T'/\typeLookup (Value.type T') (Str.ofString "__next__")=pure (some r)/\Q v s') E s:=by
  intro f es' hp hf0 hsn
  refine Ya (Yb (Ya (VW ho hd hf (Ya ?_))))
  unfold newFields
  refine Y5 (Yb ⟨_,rfl,"set_iterator",_,⟨_,Ym _ rfl,rfl⟩,Zaf.lookup,?_⟩)
  have hl:(es'.map (·.2)).length=es.size:=by rw [Yi,hp.length_eq,YG]
  have key:=h (s.heap.push (Zfh (.int (f 0) 0) 0 a es.size ep)) s.drawn s.heap.objs.size [s.heap.objs.size,a] _ _ _ (λb o e=>Yg _ e) (ZoK hh (Vz hlt) hd hf hsn hl) ⟨Ym _ rfl,Yg _ ho⟩ (Yd _)
   (λb hb=>by simp only [List.mem_cons,List.not_mem_nil,or_false] at hb; rcases hb with rfl | rfl; exact .inr (Nat.le_refl _); exact .inl rfl)
   (λb hb=>by rw [Heap.size_push]; simp only [List.mem_cons,List.not_mem_nil,or_false] at hb; rcases hb with rfl | rfl; exact Nat.lt_succ_self _; exact Nat.lt_succ_of_lt hlt)
   (by rw [hl]; exact hz) (λvs hvl hv=>told es' hp vs (Vu λi=>by
    by_cases c:i < vs.length
    ·rw [Yc c,hv i _ (Yc c)]
    ·rw [YS (by omega),YS (by omega)]))
  rw [hf0] at key
  exact key
 cases hb:byT w with
 | true =>
  rw [if_neg (by simp)]
  exact plain (λ_=>0) _ (Zl5 (w.params.setOrder a ep) es) rfl (Zqa hd hf hb)
 | false =>
  refine Vw (λc=>?_) (λc=>?_)
  ·refine wpAny_bind (Zg5 _ _ _ (by simp) λps d hp=>?_)
   have hpl:ps.length=es.size:=by rw [hp.length_eq,List.length_range]
   have hz2:(ps.map λi:Nat=>rawInt i).length<=sizeLine:=by rw [Yi,hpl]; exact fits_of_scanBound (YN hz hn)
   refine Ya (wpAny_newTuple ?_ hz2)
   refine Ya (VW (Yg _ ho) hd hf (Ya ?_))
   unfold newFields
   refine Y5 (Yb ⟨_,rfl,"set_iterator",_,⟨_,Ym _ rfl,rfl⟩,Zaf.lookup,?_⟩)
   have hps:∀ (i p:Nat),ps[i]?=some p->p < es.size:=λi p e=>YH.mp (hp.mem_iff.mp (Yz e))
   have hz1:(s.heap.push { cls:=.type "tuple",data:=.seq (ps.map λi:Nat=>rawInt i).toArray }).objs.size=s.heap.objs.size + 1:=Vy ..
   refine h _ d (s.heap.push _).objs.size [(s.heap.push _).objs.size,a,s.heap.objs.size] _ _ _ (λb o e=>Yg _ (Yg _ e)) (Zic hh (ps:=ps) (c:=0) ?_ ?_ hd hf rfl hps) ⟨Ym _ rfl,Yg _ (Yg _ ho),Yg _ (Ym _ rfl)⟩ ?_ ?_ ?_ (by rw [hpl]; exact hz) λvs hvl hv=>?_
   ·rw [hz1]; exact Vz (Vt hlt)
   ·rw [hz1]; exact Nat.succ_ne_self _
   ·rw [hz1]; exact Vn _
   ·intro b hb
    rw [hz1] at hb
    simp only [List.mem_cons,List.not_mem_nil,or_false] at hb
    rcases hb with rfl | rfl | rfl
    ·exact .inr (Vn _)
    ·exact .inl rfl
    ·exact .inr (Yd _)
   ·intro b hb
    rw [hz1] at hb
    rw [Vy,hz1]
    simp only [List.mem_cons,List.not_mem_nil,or_false] at hb
    rcases hb with rfl | rfl | rfl
    ·exact VI _
    ·exact Vt (Vt hlt)
    ·exact Vt (VI _)
   ·refine told (ps.filterMap (es[·]?)) ((hp.filterMap _).trans (by rw [filterMap_getElem?_range])) vs ?_
    exact Zph hps vs hvl hv
  ·exact plain (Zd3 t.place) es.toList (.refl _) rfl (Zom hd hf hT hb (by cases q:(!t.plain && decide (es.size > 1)) with | false=>rfl | true=>exact absurd (show (!false && (!t.plain && decide (es.size > 1)))=true by rw [q]; rfl) c))
def ZnO{r:Addr}{Q:Bool->Shared->Prop}(hT:s.TypeIs (.ref r) "set")(h:Q false s):wpAny (model prog w) A (Builtin.List.listLengthHint (.ref r)) Q E s:=by
 unfold Builtin.List.listLengthHint
 refine Ya (wpAny_specialOf hT (show typeLookup (.type "set") "__len__"=pure (some (.builtin "set.__len__")) from by rw [typeLookup_type,builtinLookup_eq_fast]; kernel_rfl) ?_)
 generalize hid:("set.__len__":String)=id0
 wp_delta
 rw [show splitId id0=some ("set","__len__") from by subst hid; decide +kernel]
 subst hid
 refine Ya (Vj (T:="set") (b:=true) hT (by rw [isSubtype_type]; kernel_rfl) ?_)
 refine Vw (λhab=>absurd hab (by decide)) (λ_=>?_)
 refine Vw (λ_=>?_) (λhab=>absurd (by decide +kernel) hab)
 refine Ya (wpAny_typeOf hT ?_)
 exact Yb h
theorem JL.type{a:Addr}{S:Int->Prop}{n:Nat}(x:JL prog w s.heap a S n):s.TypeIs (.ref a) "set":=let ⟨o,_,_,_,ho,hex,_⟩:=x; ⟨o,ho,hex.1⟩
abbrev Zer(c:Nat):Obj:={ cls:=.type "list",data:=.seq #[] c }
def Zj6{a L:Addr}{S:Int->Prop}{n c₀:Nat}{res:Value}{R:Result->Shared->Prop}(hh:A.handled=none)(hS:JL prog w s.heap a S n)(hn:n < scanBound)(hLa:L ≠ a)(hL:s.heap.get? L=some (Zer c₀))
  (hR:∀ h' d tk (acc:Array Value) (ks:List Int) c',(∀ b o,b ≠ L->s.heap.get? b=some o->h'.get? b=some o)->h'.get? L=some { cls:=.type "list",dict:=none,data:=.seq acc c',slots:=#[] }->IntsAre acc.toList ks->ks.Nodup->(∀ k,k∈ks ↔ S k)->acc.size<=n ->
   R (.ok (.ret res)) { s with heap:=h',drawn:=d,toks:=tk }) :
  wpAny (model prog w) A.in1 (Builtin.List.listExtendWith (.ref L) (.ref a) res)
   (λfin s'=>match fin with | .done f=>R (.ok f) s' | .again c'=>c'.quiet=true/\codeAny (model prog w) A c' R s') (λe s'=>R (.error e) s') s:=by
 unfold Builtin.List.listExtendWith
 refine Ya (wpAny_typeOf (T:="set") hS.type ?_)
 have h1:Builtin.List.listSameRef (.ref L) (.ref a)=false:=by simp [Builtin.List.listSameRef,hLa]
 have h2:(Value.type "set" == Value.type "list")=false:=by decide
 have h3:(Value.type "set" == Value.type "tuple")=false:=by decide
 simp only [h1,h2,h3,Bool.or_false,Bool.false_eq_true,if_false]
 have hLlt:=Ye hL
 refine Ya (Znf (A:=A.in1) hh hS hn λh' d I fp m P St hk W hst hI hfp hfp2 hm told=>?_)
 have hLf:L ∉ fp:=λz=>by
  rcases hfp L z with e | e
  ·exact hLa e
  ·exact absurd hLlt (Nat.not_lt.mpr e)
 have hL1:h'.get? L=some (Zer c₀):=hk _ _ hL
 have key:∀ (h1:Heap) (c₁:Nat),(∀ b o,b ≠ L->h'.get? b=some o->h1.get? b=some o)->h1.get? L=some (Zer c₁)->codeAny (model prog w) A (.builtin "list.extend.loop" ⟨[.ref L,.ref I,res],[]⟩) R { s with heap:=h1,drawn:=d }:=by
  intro h1 c₁ k1 g1
  refine codeAny_extend_loopS W.toS (fits_of_scanBound (YN hm hn)) L hLf res m 0 _ #[] c₁ rfl (YA _) (W.frame 0 h' h1 hst λb hb o e=>k1 b o (λz=>hLf (z ▸ hb)) e) g1 (ItemsOf.nil _) λs' acc' c' hmv g' hacc=>?_
  rw [Moved.eq_with hmv]
  obtain⟨ks,i1,i2,i3⟩:=told acc'.toList (by rw [YG]; exact hacc.1) λj v e=>hacc.2 j v (by rw [<- YB]; exact e)
  refine hR s'.heap d s'.toks acc' ks c' (λb o hb e=>hmv.heap b o (λz=>?_) (k1 b o hb (hk b o e))) g' i1 i2 i3 (by rw [hacc.1]; exact hm)
  rcases Yl.mp z with z | z
  ·exact hb z
  ·rw [Yu.mp z] at e
   exact absurd (Ye e) (Nat.not_lt.mpr hI)
 have hS':JL prog w h' a S n:=hS.keep λo e=>hk _ _ e
 refine Ya (YE (ZnO (s:={ s with heap:=h',drawn:=d }) hS'.type ?_))
 refine Vw (λ_=>?_) (λ_=>Yb ⟨Vm F.plain_extend_loop _,key h' c₀ (λb o _ e=>e) hL1⟩)
 refine Ya (Vo (Ya ?_))
 show wpAny _ _ (updateSeq L (·.push .none) >>= λ_=>updateSeq L (·.pop)) _ _ _
 refine Ya (wpAny_updateSeq hL1 rfl ?_)
 have g2:=VS (Obj.mapSeq (·.push Value.none)) hL1 rfl
 refine wpAny_updateSeq (hz:=by seq_fits) g2 rfl ?_
 have g3:=VS (Obj.mapSeq (·.pop)) g2 rfl
 exact Yb ⟨Vm F.plain_extend_loop _,key _ _ (λb o hb e=>(Vr _ _ (Ne.symm hb)).trans ((Vr _ _ (Ne.symm hb)).trans e)) g3⟩
def Zil{a:Addr}{S:Int->Prop}{n:Nat}{Q:List Value->Shared->Prop}(hh:A.handled=none)(hS:JL prog w s.heap a S n)(hn:n < scanBound)
  (h:∀ h' d tk (vs:List Value) (ks:List Int),(∀ b o,s.heap.get? b=some o->h'.get? b=some o)->IntsAre vs ks->ks.Nodup->(∀ k,k∈ks ↔ S k)->vs.length<=n->s.heap.objs.size<=h'.objs.size->Q vs { s with heap:=h',drawn:=d,toks:=tk }) :
  wpAny (model prog w) A (collect (.ref a)) Q E s:=by
 unfold collect
 refine Ya (wpAny_runValue (YM entry_proto_collect' ?_))
 rw [Y3 F.plain_proto_collect _]
 show wpAny _ A.in1 (newList [] >>= λl=>again (.builtin "list.__iadd__" ⟨[l,.ref a],[]⟩)) _ _ s
 refine Ya (Y5 ?_)
 refine Yb ⟨Vm VX _,YM entry_list_iadd' ?_⟩
 rw [Y3 VX _]
 show wpAny _ A.in1 (Builtin.List.listExtendWith (.ref s.heap.objs.size) (.ref a) (.ref s.heap.objs.size)) _ _ _
 have key:=Zj6 (A:=A) (s:={ s with heap:=s.heap.push (Zer 0) }) (L:=s.heap.objs.size) (c₀:=0) (res:=.ref s.heap.objs.size) (n:=n) (S:=S)
  (R:=λ(q:Result) (s':Shared)=>∃ (h':Heap) (d:Drawn) (tk:Nat) (acc:Array Value) (ks:List Int) (c':Nat),q=.ok (.ret (.ref s.heap.objs.size))/\s'={ s with heap:=h',drawn:=d,toks:=tk }/\(∀ b o,s.heap.get? b=some o->h'.get? b=some o) /\
   h'.get? s.heap.objs.size=some { cls:=.type "list",dict:=none,data:=.seq acc c',slots:=#[] }/\IntsAre acc.toList ks/\ks.Nodup/\(∀ k,k∈ks ↔ S k)/\acc.size<=n)
  hh (hS.keep λo e=>Yg _ e) hn (Vz hS.lt) (Ym _ rfl)
  (λh' d tk acc ks c' hk g i1 i2 i3 i4=>⟨h',d,tk,acc,ks,c',rfl,rfl,λb o e=>hk b o (Yn (Ye e)) (Yg _ e),g,i1,i2,i3,i4⟩)
 refine Yo key (λfin s' x=>?_) λe s' x=>?_
 ·cases fin with
  | done f =>
   obtain⟨h',d,tk,acc,ks,c',e,rfl,hk,g,i1,i2,i3,i4⟩:=x
   cases e
   show wpAny _ A (load s.heap.objs.size >>= _) _ _ _
   exact Ya (Vp g (Yb (h h' d tk acc.toList ks hk i1 i2 i3 (by rw [YG]; exact i4) (Yt (Ye g)))))
  | again c₁ =>
   refine⟨x.1,YF x.2 λq s₂ y=>?_⟩
   obtain⟨h',d,tk,acc,ks,c',rfl,rfl,hk,g,i1,i2,i3,i4⟩:=y
   show wpAny _ A (load s.heap.objs.size >>= _) _ _ _
   exact Ya (Vp g (Yb (h h' d tk acc.toList ks hk i1 i2 i3 (by rw [YG]; exact i4) (Yt (Ye g)))))
 ·obtain⟨_,_,_,_,_,_,e',_⟩:=x
  cases e'
def Zfj{ks:List Int}(h:ks.Pairwise (·<=·))(hn:ks.Nodup):ks.Pairwise (· < ·):=by
 have:=List.Pairwise.and h hn
 exact this.imp λ⟨h1,h2⟩=>Int.lt_iff_le_and_ne.mpr ⟨h1,h2⟩
theorem ZeM{h:Heap}{a b:Addr}{o:Obj}{vs:List Value}{out:Array Value}(hb:b ≠ a)(e:h.get? b=some o):(sortedHeap h a vs out).get? b=some o:=by
 unfold sortedHeap
 exact (Vr _ _ (Ne.symm hb)).trans (Yg _ (Yg _ ((Vr _ _ (Ne.symm hb)).trans e)))
def Zhq{h:Heap}{a:Addr}{vs:List Value}{n:Nat}{out:Array Value}(e:h.get? a=some (seqObj "list" vs.toArray n)):∃ c,(sortedHeap h a vs out).get? a=some { cls:=.type "list",dict:=none,data:=.seq out c,slots:=#[] }:=by
 unfold sortedHeap
 exact⟨_,get?_update_seq (Yg _ (Yg _ (get?_update_seq e λ_=>#[]))) λ_=>out⟩
def Zko{a:Addr}{S:Int->Prop}{n:Nat}{Q:VSP}(hh:A.handled=none)(hS:JL prog w s.heap a S n)(hn:n < 64)
  (h:∀ (h':Heap) d tk (D:Addr) (out:Array Value) (ks:List Int) c,(∀ b o,s.heap.get? b=some o->h'.get? b=some o)->s.heap.objs.size<=D->h'.get? D=some { cls:=.type "list",dict:=none,data:=.seq out c,slots:=#[] }->IntsAre out.toList ks->ks.Pairwise (· < ·)->(∀ k,k∈ks ↔ S k) ->
   Q (.ref D) { s with heap:=h',drawn:=d,toks:=tk }):wpAny (model prog w) A (call (.builtin "sorted") [.ref a]) Q E s:=by
 refine Calls.call_function_entry kind_sorted plain_sorted entry_sorted (args_sorted1 _) ?_
 unfold Builtin.«sorted»
 refine Ya (m:=checkCount "sorted" 1 1 _) (Yb ?_)
 refine Ya (Zil (A:=A.in1) hh hS (Nat.lt_trans hn (by decide)) λh' d tk vs ks hk i1 i2 i3 i4 hle=>?_)
 have hv:vs.length < 64:=by omega
 refine Ya (wpAny_newList ?_ (Yj (Yt hv) (by decide)))
 have hoL:(h'.push (seqObj "list" vs.toArray 0)).get? h'.objs.size=some (seqObj "list" vs.toArray 0):=Ym _ rfl
 refine Ya (YE (YV slot_list_sort ⟨_,hoL,rfl⟩ entry_list_sort (list_sort_tree hoL i1 hv λout ks' a1 a2 a3=>⟨_,rfl,?_⟩) (args_list_sort _)))
 obtain⟨c,e1⟩:=Zhq hoL (out:=out)
 refine Yb ⟨_,rfl,h _ d tk h'.objs.size out ks' c (λb o e=>?_) hle e1 a1 (Zfj a3 (a2.nodup_iff.mpr i2)) λk=>(a2.mem_iff).trans (i3 k)⟩
 exact ZeM (Yn (Yq (Ye e) hle)) (Yg _ (hk b o e))
end
end My
namespace My
open PySem PySem.Spec L2
open PyProof.Rows hiding St
def ZcD:∀ {ns:List Int}{us:List Value},ZD (ns.map V.int) us->IntsAre us ns
 | [],us,h=>by cases h; exact .nil
 | n :: ns,us,h=>by
  cases h with
  | cons h1 h2 =>
   obtain⟨t,rfl⟩:=h1
   exact .cons n t (ZcD h2)
theorem ZgW:∀ {ns:List Int}{us:List Value},IntsAre us ns->ZD (ns.map V.int) us
 | _,_,.nil=>.nil
 | _,_,.cons n t h=>.cons ⟨t,rfl⟩ (ZgW h)
section
variable {X:Cx}{e:Expr}{t:TA}{p p' pos pos':Pos}
theorem ZhT{pins:List (Addr × Obj)}{Z:St}{H:Hp}{s:Shared}(I:Inv X pins Z H s)(d:Drawn):Inv X pins Z H { s with drawn:=d }:=⟨I.ok,I.os,I.bare,I.base,I.loc,I.cell,I.free,I.freeC,I.pin,I.hok,I.len⟩
def JL.few{prog:Program}{w:World}{h:Heap}{a:Addr}{S:Int->Prop}{n:Nat}(x:JL prog w h a S n)(hb:∀ k,S k->0<=k/\k < 60):JL prog w h a S 60:=by
 obtain⟨o,es,ep,t,ho,hex,hd,hT,hf,hA,hN,hM,hz⟩:=x
 refine⟨o,es,ep,t,ho,hex,hd,hT,hf,hA,hN,hM,?_⟩
 have hs:es.toList.map JW ⊆ (List.range 60).map λk:Nat=>(k:Int):=λk hk=>by
  obtain⟨h1,h2⟩:=hb k ((hM k).mp hk)
  exact Yk.mpr ⟨k.toNat,YH.mpr (by omega),by omega⟩
 have:=Vq hN hs
 simpa using this
def Zf6:List V->Hp->VK->Prop:=λxs H Q=>∃ (a:Addr) (ns:List Int),xs=[.ref a]/\H a=some (.lst (ns.map V.int))/\ns.length < 4000/\(∀ k∈ns,0<=k/\k < 60) /\
 ∀ l H2 (ks:List Int),H l=none->Zn H H2->H2 l=some (.lst (ks.map V.int))->ks.Pairwise (· < ·)->(∀ k,k∈ks ↔ k∈ns)->Q (.ref l) H2
def Zmt(hg:Gl X "sorted")(hm:X.mg "sorted"=none)(hg2:Gl X "set")(hm2:X.mg "set"=none)(ha:QA X [e] t)(hp:ZA e=true:=by rfl)(hc:X.calm=true:=by rfl) :
  QE X (.Call (.Name "sorted" p) [.Call (.Name "set" p') [e] [] pos'] [] pos) (tCB Zf6 t):=⟨by
 intro pins s Z H Q I h
 refine YU (Zcw I hg hm (show bootBuiltins "sorted"=some (.builtin "sorted") by decide +kernel) ?_ (by decide) (by decide))
 refine PyProof.Rows.callWith_builtin1 ?_ rfl rfl
 show wpAny _ _ (spliced ((false,eval (.Call (.Name "set" p') [e] [] pos') X.env) :: [])) _ _ s
 refine VH ?_
 refine YU (Zcw I hg2 hm2 (show bootBuiltins "set"=some (.type "set") by decide +kernel) ?_ (by decide) (by decide))
 refine Y8 (Jl (ha.h pos' pins s Z H _ I h) λus s1 ⟨vs,H1,I1,r1,q1⟩=>?_) (ZC hp) rfl
 obtain⟨a,ns,rfl,e1,hl,hb,q⟩:=q1
 obtain⟨u,rfl,ru⟩:=Zdh r1
 cases ru
 obtain⟨_,its,n,hv,g⟩:=I1.hok a _ e1
 have hi:=ZcD hv
 refine ZhG (I1.ok.hd hc) ⟨_,g,rfl,n,rfl⟩ (by simpa using hi) (by have:scanBound=4096:=rfl; omega) λh' tk hS hk=>Calls.spliced_nil ?_
 refine Zko (s:={ s1 with heap:=h',toks:=tk }) (I1.ok.hd hc) (hS.few λk hk=>hb k hk) (by decide) λh2 d tk2 D out ks c hk2 hle g2 i1 i2 i3=>?_
 have hD:s1.heap.objs.size<=D:=Yj (Yt hS.lt) hle
 have hf:H1 D=none:=I1.hok.fresh hD
 have hkl:ks.length<=sizeLine:=by
  have hs:ks ⊆ (List.range 60).map λk:Nat=>(k:Int):=λk hk=>by
   obtain⟨h1,h2⟩:=hb k ((i3 k).mp hk)
   exact Yk.mpr ⟨k.toNat,YH.mpr (by omega),by omega⟩
  have hnd:ks.Nodup:=i2.imp λh e=>by rw [e] at h; exact Int.lt_irrefl _ h
  have:=Vq hnd hs
  exact Nat.le_trans (by simpa using this) (show 60<=sizeLine by decide)
 exact⟨.ref D,upd H1 D (.lst (ks.map V.int)),ZhT (I1.laid (t':=tk2) (o:=.lst (ks.map V.int)) (λb u e=>hk2 b u (hk b u e)) hD (show Ji X.prog X.w _ h2 _ (.lst (ks.map V.int)) from ⟨by simpa using hkl,out.toList,c,ZgW i1,by simpa using g2⟩)) d,rfl,q D _ ks hf (ZH hf _) Zi i2 i3⟩⟩
end
section
variable {X:Cx}{a b o e:Expr}{es:List Expr}{ta tb to te:TE}{t:TA}{name:Str}{apos cpos pos p p2:Pos}{id:String}{r:V->List V->Hp->VK->Prop}
def ZtA(ha:QE X a ta)(hb:QE X b tb)(hs:Zeo b:=by intro _ _; rfl):QE X (.Subscript a b pos) (JT Ztl ta tb):=⟨Zoq Zsg ha.h hb.h hs⟩
def ZuF:V->Option Int->Option Int->Hp->VK->Prop:=λx lo hi H Q=>∃ z,x=.str z/\z.length<=1000/\Q (.str (Txt.slice z lo hi)) H
def tXm(r:V->List V->Hp->VK->Prop)(to:TE)(t:TA):TE:=λZ H Q=>to Z H λx H1=>∃ z,x=.str z/\t Z H1 λvs H2=>r x vs H2 Q
def ZsD:V->List V->Hp->VK->Prop:=λx vs H Q=>∃ z y,x=.str z/\vs=[.str y]/\Q (.int (Txt.find z y)) H
def ZgX:∀ {ss:List Str}{us:List Value},ZD (ss.map V.str) us->StrsAre us ss
 | [],us,h=>by cases h; exact .nil
 | x :: ss,us,h=>by
  cases h with
  | cons h1 h2 =>
   obtain⟨t,rfl⟩:=h1
   exact .cons x t (ZgX h2)
theorem ZgM:∀ {ss:List Str}{us:List Value},StrsAre us ss->ZD (ss.map V.str) us
 | _,_,.nil=>.nil
 | _,_,.cons x t h=>.cons ⟨t,rfl⟩ (ZgM h)
def Zs7:V->List V->Hp->VK->Prop:=λx vs H Q=>∃ z a ss,x=.str z/\vs=[.ref a]/\H a=some (.lst (List.map V.str ss))/\z.length<=16/\(ss.map (·.length)).sum + ss.length<=1048576/\Q (.str (Txt.join z ss)) H
end
def leS(a b:Str):Prop:=a.cps.toList<=b.cps.toList
def ZrW{a b:Str}(h:(!ltCps b.cps.toList a.cps.toList)=true):leS a b:=by
 rw [ltCps_eq,Bool.not_eq_true',decide_eq_false_iff_not] at h
 exact List.not_lt.mp h
def Zhj:∀ (p:Str) (l:List Str),risingS p l=true->(p :: l).Pairwise leS
 | p,[],_=>List.pairwise_singleton ..
 | p,x :: l,h=>by
  unfold risingS at h
  rw [Bool.and_eq_true] at h
  have ih:=Zhj x l h.2
  have hx:=ZrW h.1
  refine List.pairwise_cons.mpr ⟨λy hy=>?_,ih⟩
  rcases Yl.mp hy with rfl | hy
  ·exact hx
  ·exact List.le_trans hx ((List.pairwise_cons.mp ih).1 y hy)
theorem ZlO:∀ {l:List Str},sortedS l=true->l.Pairwise leS
 | [],_=>List.Pairwise.nil
 | x :: l,h=>Zhj x l h
section
variable {X:Cx}{e:Expr}{t:TA}{p pos:Pos}
def Zi7:List V->Hp->VK->Prop:=λxs H Q=>∃ (a:Addr) (ss:List Str),xs=[.ref a]/\H a=some (.lst (ss.map V.str))/\ss.length < 64/\∀ l H2 (ts:List Str),H l=none->Zn H H2->H2 l=some (.lst (ts.map V.str))->ts.Pairwise leS->ts.Perm ss->Q (.ref l) H2
end
section
variable {prog:Program}{w:World}{A:Around}{E:VSP}{s:Shared}
def Zm7(prog:Program)(w:World)(A:Around)(s:Shared)(u v:Value):Prop:=∀ (E:VSP) (Q:Bool->Shared->Prop),Q true s->wpAny (model prog w) A (eqBool u v) Q E s
theorem Zm7.of{A:Around}{u v:Value}(h:SeqAt.EqAt A s u v true):Zm7 prog w A s u v:=λE Q q=>h prog w E Q q
def Zm7.refs{a b:Addr}(h:∀ (E:VSP) (Q:VSP),Q (.bool true) s->wpAny (model prog w) A (richCompare .Eq (.ref a) (.ref b)) Q E s):Zm7 prog w A s (.ref a) (.ref b):=λE Q q=>by
 unfold eqBool
 refine YE ?_
 refine Vw (λ_=>Ya (Vo (Yb q))) (λ_=>?_)
 exact Ya (h E _ (Y1 q))
def Zo4{l b:Addr}{items items2:Array Value}{Q:VSP}(hl:s.heap.IsTuple l items)(hb:s.heap.IsTuple b items2)(hz:items.size=items2.size)(hu:A.units < cLine)
  (he:∀ j (h1:j < items.size) (h2:j < items2.size),Zm7 prog w A.in1 s items[j] items2[j]) (h:Q (.bool false) s):wpAny (model prog w) A (richCompare .NotEq (.ref l) (.ref b)) Q E s:=by
 obtain⟨o1,g1,c1,n1,d1⟩:=id hl
 obtain⟨o2,g2,c2,n2,d2⟩:=id hb
 have t1:s.TypeIs (.ref l) "tuple":=⟨o1,g1,c1⟩
 have t2:s.TypeIs (.ref b) "tuple":=⟨o2,g2,c2⟩
 refine wpAny_richCompare_same_room (op:=.NotEq) t1 t2 F.slot_tuple_ne (YV F.slot_tuple_ne t1 F.entry_tuple_ne ?_ (F.args_tuple_ne_2 _ _)) hu
 show wpAny _ _ (slotArgs "__ne__" 1 ⟨[.ref l,.ref b],[]⟩ >>= _) _ _ s
 refine Ya (Yb ?_)
 dsimp only
 refine Ya (Vj (T:="tuple") (b:=true) t2 AutoSeq1.sub_tuple_tuple ?_)
 rw [if_neg (by decide)]
 refine Ya (VU g1 d1 (Ya (VU g2 d2 ?_)))
 refine Ya (VM _ (λJh b s'=>b.1=none/\s'=s/\∃ i,Jh=(items.toList.zip items2.toList).drop i) _ ?_ ?_ _ _ ⟨rfl,rfl,0,rfl⟩)
 ·rintro⟨y,x⟩ Jh b' s' ⟨hb',rfl,i,hi⟩
  have hlt:i < (items.toList.zip items2.toList).length:=by
   rcases Nat.lt_or_ge i (items.toList.zip items2.toList).length with h' | h'
   ·exact h'
   ·rw [List.drop_of_length_le h'] at hi; cases hi
  have hlt':=hlt
  rw [List.length_zip,YG,YG] at hlt'
  have k1:i < items.size:=by omega
  have k2:i < items2.size:=by omega
  rw [VZ hlt] at hi
  injection hi with hyx hrest
  have hy:y=items[i]:=by have:=congrArg Prod.fst hyx; simpa using this
  have hx:x=items2[i]:=by have:=congrArg Prod.snd hyx; simpa using this
  subst hy hx
  refine Ya (he i k1 k2 _ _ ?_)
  rw [if_neg (by decide)]
  exact Yb ⟨rfl,rfl,i + 1,hrest⟩
 ·rintro⟨b1,b2⟩ s' ⟨hb',rfl,_⟩
  simp only at hb'
  subst hb'
  dsimp only
  refine Yb ⟨_,rfl,?_⟩
  rw [show Builtin.Tuple.tupleCompareSizes CmpOp.NotEq items.size items2.size=Value.bool false by rw [hz]; simp [Builtin.Tuple.tupleCompareSizes]]
  exact⟨(λz=>nomatch z),h⟩
def ZoT{l b:Addr}{items items2:Array Value}{Q:VSP}(hl:s.heap.IsTuple l items)(hb:s.heap.IsTuple b items2)(hz:items.size=items2.size)(hu:A.units < cLine)
  (he:∀ j (h1:j < items.size) (h2:j < items2.size),Zm7 prog w A.in1 s items[j] items2[j]) (h:Q (.bool true) s):wpAny (model prog w) A (richCompare .Eq (.ref l) (.ref b)) Q E s:=by
 obtain⟨o1,g1,c1,n1,d1⟩:=id hl
 obtain⟨o2,g2,c2,n2,d2⟩:=id hb
 have t1:s.TypeIs (.ref l) "tuple":=⟨o1,g1,c1⟩
 have t2:s.TypeIs (.ref b) "tuple":=⟨o2,g2,c2⟩
 refine wpAny_richCompare_same_room (op:=.Eq) t1 t2 F.slot_tuple_eq (YV F.slot_tuple_eq t1 F.entry_tuple_eq ?_ (F.args_tuple_eq_2 _ _)) hu
 show wpAny _ _ (slotArgs "__eq__" 1 ⟨[.ref l,.ref b],[]⟩ >>= _) _ _ s
 refine Ya (Yb ?_)
 dsimp only
 refine Ya (Vj (T:="tuple") (b:=true) t2 AutoSeq1.sub_tuple_tuple ?_)
 rw [if_neg (by decide)]
 refine Ya (VU g1 d1 (Ya (VU g2 d2 ?_)))
 refine Ya (VM _ (λJh b s'=>b.1=none/\s'=s/\∃ i,Jh=(items.toList.zip items2.toList).drop i) _ ?_ ?_ _ _ ⟨rfl,rfl,0,rfl⟩)
 ·rintro⟨y,x⟩ Jh b' s' ⟨hb',rfl,i,hi⟩
  have hlt:i < (items.toList.zip items2.toList).length:=by
   rcases Nat.lt_or_ge i (items.toList.zip items2.toList).length with h' | h'
   ·exact h'
   ·rw [List.drop_of_length_le h'] at hi; cases hi
  have hlt':=hlt
  rw [List.length_zip,YG,YG] at hlt'
  have k1:i < items.size:=by omega
  have k2:i < items2.size:=by omega
  rw [VZ hlt] at hi
  injection hi with hyx hrest
  have hy:y=items[i]:=by have:=congrArg Prod.fst hyx; simpa using this
  have hx:x=items2[i]:=by have:=congrArg Prod.snd hyx; simpa using this
  subst hy hx
  refine Ya (he i k1 k2 _ _ ?_)
  rw [if_neg (by decide)]
  exact Yb ⟨rfl,rfl,i + 1,hrest⟩
 ·rintro⟨b1,b2⟩ s' ⟨hb',rfl,_⟩
  simp only at hb'
  subst hb'
  dsimp only
  refine Yb ⟨_,rfl,?_⟩
  rw [show Builtin.Tuple.tupleCompareSizes CmpOp.Eq items.size items2.size=Value.bool true by rw [hz]; simp [Builtin.Tuple.tupleCompareSizes]]
  exact⟨(λz=>nomatch z),h⟩
end
section
variable {X:Cx}{pins:List (Addr × Obj)}{Z:St}{H:Hp}{s:Shared}{a b:Expr}{ta tb:TE}{pos:Pos}{k:Nat}
def ZsM{kvs:List (Je × V)}{vs:List (Je × Value)}(r:KV kvs vs){i:Nat}{kv:Je × V}{k:Je}{v:Value}(h1:kvs[i]?=some kv)(h2:vs[i]?=some (k,v)):kv.1=k/\ZP kv.2 v:=by
 induction r generalizing i with
 | nil=>simp at h1
 | cons h _ ih =>
  cases i with
  | zero =>
   simp at h1 h2
   subst h1
   subst h2
   exact h
  | succ i=>exact ih (by simpa using h1) (by simpa using h2)
inductive EqP (H:Hp):V->V->Nat->Prop where
 | deep {x y:V}{n:Nat}(h:EqD H x y true n):EqP H x y n
 | dct {a b:Addr}{ka kb:List (Je × V)}{n:Nat}(ha:Rd H a (.dK ka)) (hb:Rd H b (.dK kb)) (hl:ka.length=kb.length) (h:∀ (j:Nat) x y,ka[j]?=some x->kb[j]?=some y->x.1=y.1/\EqD H x.2 y.2 true n) (hN:(ka.map (·.1)).Nodup):EqP H (.ref a) (.ref b) (n + 2)
 | tup {a b:Addr}{xs ys:List V}{n:Nat}(ha:H a=some (.tup xs)) (hb:H b=some (.tup ys)) (hl:xs.length=ys.length) (h:∀ (j:Nat) x y,xs[j]?=some x->ys[j]?=some y->EqP H x y n):EqP H (.ref a) (.ref b) (n + 2)
theorem Zdz:∀ {vs:List (Je × Value)}{j:Nat}{k:Je}{y:Value},(vs.map (·.1)).Nodup->vs[j]?=some (k,y)->valueAt vs k=some y
 | [],j,k,y,_,h=>by simp at h
 | (k',y') :: vs,0,k,y,_,h=>by
  simp at h
  obtain⟨rfl,rfl⟩:=h
  simp [valueAt]
 | (k',y') :: vs,j + 1,k,y,hN,h=>by
  rw [Ys,VL] at hN
  have hm:(k,y)∈vs:=List.mem_of_getElem? (by simpa using h)
  have hne:k' ≠ k:=λe=>hN.1 (Yk.mpr ⟨_,hm,e.symm⟩)
  have ih:=Zdz hN.2 (show vs[j]?=some (k,y) by simpa using h)
  unfold valueAt at ih ⊢
  rw [List.find?_cons_of_neg (by simpa using hne)]
  exact ih
def ZkP{A:Around}{vb:List (Je × Value)}(hN:(vb.map (·.1)).Nodup):∀ {va:List (Je × Value)}(i:Nat),(∀ (j:Nat) k v,va[j]?=some (k,v)->∃ y,vb[i + j]?=some (k,y)/\SeqAt.EqAt A s v y true)->KeqHits A s vb va true
 | [],_,_=>.nil
 | (k,v) :: va,i,h=>by
  obtain⟨y,h1,h2⟩:=h 0 k v rfl
  exact .hit (e:=true) (Zdz hN h1) h2 (ZkP hN (i + 1) λj k v e=>by
   have:=h (j + 1) k v e
   rw [show i + 1 + j=i + (j + 1) by omega]
   exact this)
theorem EqP.at(I:Inv X pins Z H s){x y:V}{n:Nat}(h:EqP H x y n):∀ {A:Around}{u v:Value},ZP x u->ZP y v->A.units + n < cLine->Zm7 X.prog X.w A s u v/\((∃ a c,x=.ref a/\y=.ref c) ->
  (∀ (E:VSP) (Q:VSP),Q (.bool true) s->wpAny (model X.prog X.w) A (richCompare .Eq u v) Q E s)/\∀ (E:VSP) (Q:VSP),Q (.bool false) s->wpAny (model X.prog X.w) A (richCompare .NotEq u v) Q E s):=by
 induction h with
 | deep h =>
  intro A u v r1 r2 hu
  obtain⟨z1,z2⟩:=h.at I r1 r2 hu
  exact⟨.of z1,λw=>⟨λE Q q=>z2 w _ _ E Q q,λE Q q=>h.neAt I r1 r2 hu w _ _ E Q q⟩⟩
 | @dct a b ka kb n ha hb hl h hN =>
  intro A u v r1 r2 hu
  cases r1
  cases r2
  obtain⟨_,n1,va,kv1,d1⟩:=Zda I.hok ha
  obtain⟨_,n2,vb,kv2,d2⟩:=Zda I.hok hb
  have hkeys:ka.map (·.1)=kb.map (·.1):=Vu λj=>by
   rw [Yh,Yh]
   by_cases c:j < ka.length
   ·have c2:j < kb.length:=by omega
    rw [Yc c,Yc c2]
    exact congrArg some (h j _ _ (Yc c) (Yc c2)).1
   ·rw [YS (by omega),YS (by omega)]
  have hNb:(vb.map (·.1)).Nodup:=by rw [<- kv2.keys,<- hkeys]; exact hN
  have lA:va.length=ka.length:=kv1.length.symm
  have lB:vb.length=kb.length:=kv2.length.symm
  have hits:∀ A:Around,A.units + n < cLine->KeqHits A s vb va true:=λA hA=>ZkP hNb 0 λj k v e=>by
   have hj:j < ka.length:=by rw [<- lA]; exact (Yf.mp e).1
   have hj2:j < kb.length:=by omega
   obtain⟨p1,r1⟩:=ZsM kv1 (Yc hj) e
   obtain⟨q,e2⟩:∃ q,vb[j]?=some q:=⟨_,Yc (by omega)⟩
   obtain⟨p2,r2⟩:=ZsM kv2 (Yc hj2) (show vb[j]?=some (q.1,q.2) from e2)
   obtain⟨p3,hd⟩:=h j _ _ (Yc hj) (Yc hj2)
   refine⟨q.2,?_,(hd.at I r1 r2 hA).1⟩
   rw [Nat.zero_add,e2,<- p1,p3,p2]
  have e1:∀ (E:VSP) (Q:VSP),Q (.bool true) s->wpAny (model X.prog X.w) A (richCompare .Eq (.ref a) (.ref b)) Q E s:=λE Q q =>
   PySem.W.keq_eq (A:=A) n1 n2 d1 d2 (by omega) (r:=true) (λ_=>hits _ (by show A.units + 1 + n < cLine; omega)) (by rw [show (va.length == vb.length && true)=true by rw [lA,lB,hl]; simp]; exact q)
  refine⟨Zm7.refs e1,λ_=>⟨e1,λE Q q=>?_⟩⟩
  exact PySem.W.keq_ne (A:=A) n1 n2 d1 d2 (by omega) (r:=true) (λ_=>hits _ (by show A.units + 1 + n < cLine; omega)) (by rw [show (!(va.length == vb.length && true))=false by rw [lA,lB,hl]; simp]; exact q)
 | @tup a b xs ys n ha hb hl h ih =>
  intro A u v r1 r2 hu
  cases r1
  cases r2
  obtain⟨its,v1,t1,_⟩:=I.tuple (SqT.of ha)
  obtain⟨jts,v2,t2,_⟩:=I.tuple (SqT.of hb)
  have he:∀ j (h1:j < its.toArray.size) (h2:j < jts.toArray.size),Zm7 X.prog X.w A.in1 s its.toArray[j] jts.toArray[j]:=λj h1 h2=>by
   have k1:j < xs.length:=by rw [v1.length]; simpa using h1
   have k2:j < ys.length:=by rw [v2.length]; simpa using h2
   obtain⟨u1,q1,w1⟩:=v1.get (Yc k1)
   obtain⟨u2,q2,w2⟩:=v2.get (Yc k2)
   have g1:its.toArray[j]=u1:=by obtain⟨hh,this⟩:=List.getElem?_eq_some_iff.mp q1; simpa using this
   have g2:jts.toArray[j]=u2:=by obtain⟨hh,this⟩:=List.getElem?_eq_some_iff.mp q2; simpa using this
   rw [g1,g2]
   exact (ih j _ _ (Yc k1) (Yc k2) w1 w2 (by show A.units + 1 + n < cLine; omega)).1
  have hz:its.toArray.size=jts.toArray.size:=by simp [<- v1.length,<- v2.length,hl]
  have e1:∀ (E:VSP) (Q:VSP),Q (.bool true) s->wpAny (model X.prog X.w) A (richCompare .Eq (.ref a) (.ref b)) Q E s:=λE Q q=>ZoT t1 t2 hz (by omega) he q
  exact⟨Zm7.refs e1,λ_=>⟨e1,λE Q q=>Zo4 t1 t2 hz (by omega) he q⟩⟩
def Ztw:R2:=λx y H Q=>∃ n a c,x=.ref a/\y=.ref c/\EqP H x y n/\n<=60/\Q (.bl true) H
def ZuH:R2:=λx y H Q=>∃ n a c,x=.ref a/\y=.ref c/\EqP H x y n/\n<=60/\Q (.bl false) H
def ZsF(hr:Room k X.A):OpR X (compareOp .Eq) Ztw:=by
 intro pins s Z H x y v u Q I rx ry h
 obtain⟨n,p,c,e1,e2,h,hn,q⟩:=h
 have hu:=hr.units
 exact ((h.at I rx ry (by omega)).2 ⟨p,c,e1,e2⟩).1 _ _ ⟨.bl true,H,I,rfl,q⟩
def Zt5(hr:Room k X.A)(ha:QE X a ta)(hb:QE X b tb):QE X (.Compare a [.Eq] [b] pos) (JT Ztw ta tb):=⟨ZdQ (ZsF hr) ha.h hb.h (Zcx _)⟩
end
structure BlkM(X:Cx)(ts:List Str)(caps:List Nat)(cs:List Str)(sc:Scope)(cl:List (Str × Addr))(x:Str):Prop where
 clos:closureFor sc X.env=pure cl
 kind:sc.kind=.function
 own:∀ n,cellsFrom n sc.names cl=(x,n) :: cl
 own0:∀ n,cellsFrom n sc.names []=[(x,n)]
 loc:∀ y∈sc.names,y.2=.local->sc.names.lookup y.1=some .local
 sub:∀ y c,cl.lookup y=some c->X.env.cells.lookup y=some c
 has:∀ y,((relabel sc X.env).names.lookup y=some .cell\/(relabel sc X.env).names.lookup y=some .free)->y=x\/∃ c,cl.lookup y=some c
 len:caps.length=cs.length
 cap:∀ (k:Nat) i y,caps[k]?=some i->cs[k]?=some y->X.N[i]?=some y/\(X.env.kindOf y=some .cell\/X.env.kindOf y=some .free)
 capK:∀ y∈cs,(relabel sc X.env).names.lookup y=some .cell\/(relabel sc X.env).names.lookup y=some .free
 capX:∀ y∈cs,y ≠ x
section
variable {X:Cx}{pins:List (Addr × Obj)}{Z:St}{H:Hp}{s:Shared}{ts cs:List Str}{caps:List Nat}{sc:Scope}{cl:List (Str × Addr)}{fp:List Addr}{x:Str}
variable {tg it elt:Expr}{pos:Pos}{wi:TI}{g:TG}{te:TE}
end
def ZhK{z:Int}{n:Nat}(hz:z.natAbs < 2 ^ n):Builtin.Int.intBits z<=n:=by
 unfold Builtin.Int.intBits
 split
 ·exact YA _
 ·rename_i h0
  have h1:z.natAbs ≠ 0:=by
   intro q
   apply h0
   have:z=0:=by omega
   simp [this]
  have:=(Nat.log2_lt h1).mpr hz
  omega
section
variable {prog:Program}{w:World}{A:Around}{E:VSP}{s:Shared}
def ZiE{T:String}{r d:Addr}{n:Nat}{Pi:Nat->Value->Prop}{OK:Heap->Prop}{Q:List Value->Shared->Prop}(Ks:PySem.W.KdlSrc prog w T r d n Pi OK)(hh:A.handled=none)(hok:OK s.heap)(hn:n<=sizeLine)
  (h:∀ h' tk (acc:Array Value),(∀ b o,s.heap.get? b=some o->h'.get? b=some o)->ItemsOf Pi acc n->s.heap.objs.size<=h'.objs.size->Q acc.toList { s with heap:=h',toks:=tk }) :
  wpAny (model prog w) A (collect (.ref r)) Q E s:=by
 unfold collect
 refine Ya (wpAny_runValue (YM entry_proto_collect' ?_))
 rw [Y3 F.plain_proto_collect _]
 show wpAny _ A.in1 (newList [] >>= λl=>again (.builtin "list.__iadd__" ⟨[l,.ref r],[]⟩)) _ _ s
 refine Ya (Y5 ?_)
 refine Yb ⟨Vm VX _,YM entry_list_iadd' ?_⟩
 rw [Y3 VX _]
 show wpAny _ A.in1 (Builtin.List.listExtendWith (.ref s.heap.objs.size) (.ref r) (.ref s.heap.objs.size)) _ _ _
 have lt:=Ks.there _ hok
 have key:=PySem.W.kdl_extend (A:=A) (s:={ s with heap:=s.heap.push (Zer 0) })
  (R:=λ(q:Result) (s':Shared)=>∃ (h':Heap) (tk:Nat) (acc:Array Value) (c':Nat),q=.ok (.ret (.ref s.heap.objs.size))/\s'={ s with heap:=h',toks:=tk }/\(∀ b o,s.heap.get? b=some o->h'.get? b=some o) /\
   h'.get? s.heap.objs.size=some { cls:=.type "list",dict:=none,data:=.seq acc c',slots:=#[] }/\ItemsOf Pi acc n)
  Ks hh (Ks.keep _ _ hok λb _ o e=>Yg _ e) s.heap.objs.size (Vz lt.1) (Vz lt.2) (.ref s.heap.objs.size) 0 (Ym _ rfl)
  (λh' tk acc c' hk g i1=>⟨h',tk,acc,c',rfl,rfl,λb o e=>hk b o (Yn (Ye e)) (Yg _ e),g,i1⟩) hn
 refine Yo key (λfin s' x=>?_) λe s' x=>?_
 ·cases fin with
  | done f =>
   obtain⟨h',tk,acc,c',e,rfl,hk,g,i1⟩:=x
   cases e
   show wpAny _ A (load s.heap.objs.size >>= _) _ _ _
   exact Ya (Vp g (Yb (h h' tk acc hk i1 (Yt (Ye g)))))
  | again c₁ =>
   refine⟨x.1,YF x.2 λq s₂ y=>?_⟩
   obtain⟨h',tk,acc,c',rfl,rfl,hk,g,i1⟩:=y
   show wpAny _ A (load s.heap.objs.size >>= _) _ _ _
   exact Ya (Vp g (Yb (h h' tk acc hk i1 (Yt (Ye g)))))
 ·obtain⟨_,_,_,_,e',_⟩:=x
  cases e'
end
section
variable {X:Cx}{c d:Expr}{p pos:Pos}{ta:TA}
def ZpE(hg:Gl X "max")(hm:X.mg "max"=none)(ha:QA X [c,d] ta)(hp:ZA c=true:=by rfl)(hq:ZA d=true:=by rfl)(hc:X.calm=true:=by rfl) :
  QE X (.Call (.Name "max" p) [c,d] [] pos) (tCB (λxs H Q=>∃ i j,xs=[.int i,.int j]/\Q (.int (if j > i then j else i)) H) ta):=⟨Zci (Zlh hc) hg hm (by decide +kernel) ha.h (by decide) (by decide) (ZC hp) (by rw [ZC hq]; rfl)⟩
def Zi4:List V->Hp->VK->Prop:=λxs H Q=>∃ (a:Addr) (kvs:List (Je × V)) (ss:List Str),xs=[.ref a]/\Rd H a (.dK kvs)/\(kvs.map λkv=>kV kv.1)=ss.map V.str/\ss.length < 64/\∀ l H2 (ts:List Str),H l=none->Zn H H2->H2 l=some (.lst (ts.map V.str))->ts.Pairwise leS->ts.Perm ss->Q (.ref l) H2
def ZjN(hc:X.calm=true):JM X (.builtin "sorted") Zi4:=by
 intro pins s Z H xs us Q I r h
 obtain⟨a,kvs,ss,rfl,e,hss,hl,q⟩:=h
 obtain⟨u,rfl,ru⟩:=Zdh r
 cases ru
 obtain⟨z,hd,vs,rel,dd⟩:=Zda I.hok e
 obtain⟨ep,at_⟩:=dd.dictAt
 have hkl:kvs.length=ss.length:=by have:=congrArg List.length hss; simpa using this
 refine Calls.call_function_entry kind_sorted plain_sorted entry_sorted (args_sorted1 _) ?_
 unfold Builtin.«sorted»
 refine Ya (m:=checkCount "sorted" 1 1 _) (Yb ?_)
 refine Ya (ZiE (A:=X.A.in1) (kdl_dict hd) (I.ok.hd hc) at_ (by rw [<- rel.length]; exact z) λh' tk acc hk hacc hD=>?_)
 obtain⟨hs,hacc⟩:=hacc
 have hsz:acc.size=ss.length:=by rw [hs,<- rel.length,hkl]
 have hv:ZD (ss.map V.str) acc.toList:=by
  rw [<- hss]
  refine Ze0 ?_ λi x u e1 e2=>?_
  ·rw [Yi,hkl,YG]; exact hsz.symm
  ·obtain⟨k,x',g1,g2⟩:=hacc i u (by simpa using e2)
   have hi:i < kvs.length:=by have:=(List.getElem?_eq_some_iff.mp e1).1; simpa using this
   obtain⟨kv,v,g3,g4⟩:=Zk7 rel hi
   rw [g1] at g4
   cases g4
   rw [Yh,g3] at e1
   cases e1
   exact Zn6 g2
 have hS:=ZgX hv
 have hal:acc.toList.length < 64:=by rw [YG,hsz]; exact hl
 refine Ya (wpAny_newList ?_ (Yj (Yt hal) (by decide)))
 have hoL:(h'.push (seqObj "list" acc.toList.toArray 0)).get? h'.objs.size=some (seqObj "list" acc.toList.toArray 0):=Ym _ rfl
 refine Ya (YE (YV slot_list_sort ⟨_,hoL,rfl⟩ entry_list_sort (list_sort_treeK strKind_oneLt hoL hS.keysOf (λv₁ v₂ Jh e=>keyKind_strs (by rw [<- e]; exact hS)) hal λst' hp hs'=>⟨_,rfl,?_⟩) (args_list_sort _)))
 obtain⟨ts,h1,h2,h3⟩:=sorted_out_str hS hp hs'
 obtain⟨c,e1⟩:=Zhq hoL (out:=(arrOf st').map (·.2))
 have hf:H h'.objs.size=none:=I.hok.fresh hD
 have hol:ts.length<=sizeLine:=by rw [h2.length_eq]; exact Yj (Yt hl) (by decide)
 refine Yb ⟨_,rfl,?_⟩
 exact⟨.ref h'.objs.size,upd H h'.objs.size (.lst (ts.map V.str)),I.laid (t':=tk) (o:=.lst (ts.map V.str)) (λb o eb=>ZeM (Nat.ne_of_lt (Nat.lt_of_lt_of_le (Heap.lt_size eb) hD)) (Heap.get?_push_of_some _ (hk b o eb))) hD (show Ji X.prog X.w _ _ _ (.lst (ts.map V.str)) from ⟨by simpa using hol,((arrOf st').map (·.2)).toList,c,ZgM h1,by rw [Array.toArray_toList]; exact e1⟩),rfl,q _ _ ts hf (ZH hf _) Zi (ZlO h3) h2⟩
def ZmS{e:Expr}{t:TA}(hg:Gl X "sorted")(hm:X.mg "sorted"=none)(ha:QA X [e] t)(hp:ZA e=true:=by rfl)(hc:X.calm=true:=by rfl):QE X (.Call (.Name "sorted" p) [e] [] pos) (tCB Zi4 t) :=
 ⟨Zci (ZjN hc) hg hm (by decide +kernel) ha.h (by decide) (by decide) (ZC hp) rfl⟩
end
def Zfv:∀ {ns:List Int}{us:List Value},ZD (ns.map V.int) us->∃ ps:List (Int × Tok),us=ps.map (λp=>Value.int p.1 p.2)/\ps.map (·.1)=ns
 | [],us,h=>by cases h; exact⟨[],rfl,rfl⟩
 | n :: ns,us,h=>by
  cases h with
  | cons h1 h2 =>
   obtain⟨t,rfl⟩:=h1
   obtain⟨ps,rfl,e⟩:=Zfv h2
   exact⟨(n,t) :: ps,rfl,by rw [Ys,e]⟩
def Zeq{ps:List (Int × Tok)}:∀ i,i<=ps.length->preSum (numAt ps.toArray) i=((ps.map (·.1)).take i).sum
 | 0,_=>rfl
 | i + 1,h=>by
  have hi:i < ps.length:=h
  show preSum (numAt ps.toArray) i + numAt ps.toArray i=_
  rw [Zeq i (Yt hi),YL,Yh,Yc hi]
  simp [numAt,hi]
section
variable {X:Cx}{e:Expr}{t:TA}{p pos:Pos}
def ZoO:List V->Hp->VK->Prop:=λxs H Q=>∃ (a:Addr) (ns:List Int),xs=[.ref a]/\H a=some (.lst (ns.map V.int))/\Q (.int ns.sum) H
def Zlr(hc:X.calm=true):JM X (.builtin "sum") ZoO:=by
 intro pins s Z H xs us Q I r h
 obtain⟨a,ns,rfl,e,q⟩:=h
 obtain⟨u,rfl,ru⟩:=Zdh r
 cases ru
 obtain⟨_,its,n,hv,g⟩:=I.hok a _ e
 obtain⟨ps,rfl,ens⟩:=Zfv hv
 have hL:s.heap.IsList a (intItems ps.toArray):=⟨_,g,rfl,n,by simp [intItems]⟩
 refine call_sum_walkG (iter_intList hL λs₂ es st hfp hlI=>?_)
 subst es
 refine⟨_,_,_,_,_,_,numAt ps.toArray,rfl,Walks.list (A:=X.A.in1) (I.ok.hd hc) _ a hlI (intItems ps.toArray),st,hfp,(λ_ _=>intItems_at),λh' tk t' hk=>?_⟩
 have hsz:(intItems ps.toArray).size=ps.length:=by simp [intItems]
 rw [hsz,Zeq _ (Yd _),ens,List.take_of_length_le (by rw [<- ens,Yi]; exact Yd _)]
 exact⟨.int ns.sum,H,I.kept (old_kept hk),⟨t',rfl⟩,q⟩
def Zs1(hg:Gl X "sum")(hm:X.mg "sum"=none)(ha:QA X [e] t)(hp:ZA e=true:=by rfl)(hc:X.calm=true:=by rfl):QE X (.Call (.Name "sum" p) [e] [] pos) (tCB ZoO t) :=
 ⟨Zci (Zlr hc) hg hm (by decide +kernel) ha.h (by decide) (by decide) (ZC hp) rfl⟩
end
section
variable {X:Cx}{pins:List (Addr × Obj)}{Z:St}{H:Hp}{s:Shared}{a:Addr}{kvs:List (Je × V)}
end
section
variable {X:Cx}{o e f:Expr}{apos cpos:Pos}{td ty tx:TE}
end
section
variable {X:Cx}{a b:Expr}{p2 pos:Pos}{tx tb:TE}
def Zme(ha:QE X a tx)(hb:QE X b tb):QE X (.Subscript a (.Slice none (some b) none p2) pos) (tSl (ZtW X.K) tx Zet (Zmu tb)):=⟨Zjc ZmT ha.h Zm0 (ZkH hb.h)⟩
def ZqD(ha:QE X a tx)(hb:QE X b tb):QE X (.Subscript a (.Slice (some b) none none p2) pos) (tSl (ZtW X.K) tx (Zmu tb) Zet):=⟨Zjc ZmT ha.h (ZkH hb.h) Zm0⟩
end
def Zue(n:Int):Str:=Str.ofString (toString n)
def Zrx(a:Str):a.cps.toList.length=a.length:=YG
def one(c:Nat):Str:=⟨#[c]⟩
section
variable {X:Cx}{a b c e e2:Expr}{es:List Expr}{ta tb tc te te2 to:TE}{t:TA}{o:Expr}{apos cpos p pos p1 p2 p3:Pos}{k1:Nat}{c1:Str}
def Zsa:List V->Hp->VK->Prop:=λxs H Q=>∃ i:Int,xs=[.int i]/\i.natAbs.log2 < 1920/\Q (.str (Zue i)) H
def ZsZ:List V->Hp->VK->Prop:=λxs H Q=>∃ (z:Str) (n:Int),xs=[.str z]/\PySem.intText? z=some n/\z.length<=640/\Q (.int n) H
def Zqe(x:V)(z:Str):Prop:=(∃ i:Int,x=.int i/\i.natAbs.log2 < 1920/\z=Zue i)\/x=.str z/\z.length<=100000
def Zje{n:Nat}(h:n<=1000000):n<=sizeLine:=Yj h (by decide)
theorem Zqe.len{x:V}{z:Str}(h:Zqe x z):z.length<=100000:=by
 rcases h with ⟨i,rfl,hd,rfl⟩ | ⟨rfl,hl⟩
 ·have l2:=int_text_length_le (k:=1920) (by decide) hd
  unfold Zue
  rw [PySem.ofString_length]
  omega
 ·exact hl
theorem Zqe.at{pins:List (Addr × Obj)}{Z:St}{H:Hp}{s:Shared}{v:Value}{x:V}{z:Str}{Q:VSP}{E:VSP}(I:Inv X pins Z H s)(h:Zqe x z)(r:ZP x v)
  (q:∀ t' s',Inv X pins Z H s'->Q (.str z t') s'):wpAny (model X.prog X.w) X.A (formatField v Str.empty) Q E s:=by
 have hl:=h.len
 rcases h with ⟨i,rfl,hd,rfl⟩ | ⟨rfl,hl⟩
 ·obtain⟨t,rfl⟩:=r
  exact PyProof.Rows.formatField_int_small hd (q _ _ (I.tok _))
 ·obtain⟨t,rfl⟩:=r
  exact PyProof.Rows.formatField_str (λt' tk=>q _ _ (I.tok _)) (Zje (by omega))
def Zuv(te:TE):TE:=λZ H Q=>te Z H λx H1=>∃ z,Zqe x z/\Q (.str z) H1
def Zus(c:Str)(te te2:TE):TE:=λZ H Q=>te Z H λx H1=>∃ y,Zqe x y/\te2 Z H1 λx2 H2=>∃ z,Zqe x2 z/\Q (.str (y ++ c ++ z)) H2
def Zpv:V->List V->Hp->VK->Prop:=λx vs H Q=>∃ (z:Str) (d:Nat),x=.str z/\vs=[.str (one d)]/\z.length<=100000/\∀ l H2,H l=none->Zn H H2->H2 l=some (.lst ((Txt.split z (one d)).map V.str))->Q (.ref l) H2
def ZmF:V->List V->Hp->VK->Prop:=λx vs H Q=>∃ z y,x=.str z/\vs=[.str y]/\Q (.bl (Txt.startswith z y)) H
def Ztg:R2:=λx y H Q=>∃ (d:Nat) (z:Str),x=.str (one d)/\y=.str z/\Q (.bl (decide (d∈z.cps.toList))) H
theorem ZrS:OpR X (compareOp .In) Ztg:=by
 intro pins s Z H x y v u Q I rx ry h
 obtain⟨d,z,rfl,rfl,q⟩:=h
 refine Zm1 pins s Z H _ _ v u Q I rx ry ⟨one d,z,rfl,rfl,?_⟩
 rw [show one d=⟨#[d]⟩ from rfl,StrLaws.found_one]
 exact q
theorem Zt2(ha:QE X a ta)(hb:QE X b tb)(hm:behindInMarks .In b=false:=by with_unfolding_all rfl):QE X (.Compare a [.In] [b] pos) (JT Ztg ta tb):=⟨ZdQ ZrS ha.h hb.h hm⟩
def ZsW{x z:Str}{tk:Tok}(hg:Gl X x)(hm:X.mg x=some (.str z tk))(hd:(x == ("__debug__":Str))=false:=by decide):QE X (.Name x pos) (tC (.str z)):=⟨Zio hg hm ⟨_,rfl⟩ hd⟩
def ZrK(hg:Gl X "len")(hm:X.mg "len"=none)(ha:QA X (e :: es) t)(hp:(e :: es).all ZA=true:=by rfl) :
  QE X (.Call (.Name "len" p) (e :: es) [] pos) (tCB (λxs H Q=>∃ z,xs=[.str z]/\z.length<=sizeLine/\Q (.int z.length) H) t):=⟨ZhA Zhp hg hm PySem.boot_len ha.h hp⟩
def Zog:List V->Hp->VK->Prop:=λxs H Q=>∃ (a:Addr) (bs:List Bool),xs=[.ref a]/\H a=some (.lst (bs.map V.bl))/\Q (.bl (bs.all id)) H
def ZfK:∀ {bs:List Bool}{us:List Value},ZD (bs.map V.bl) us->us=bs.map Value.bool
 | [],us,h=>by cases h; rfl
 | b :: bs,us,h=>by
  cases h with
  | cons h1 h2 =>
   cases h1
   rw [ZfK h2]
   rfl
theorem ZnW{bs:List Bool}:(List.range bs.length).all (λi=>bs.getD i false)=bs.all id:=by
 rw [Vv,List.all_eq_true,List.all_eq_true]
 constructor
 ·intro h x hx
  obtain⟨i,hi⟩:=Y2 hx
  have:=h i (YH.mpr (Yf.mp hi).1)
  rw [List.getD_eq_getElem?_getD,hi] at this
  exact this
 ·intro h i hi
  have hi':=YH.mp hi
  rw [List.getD_eq_getElem?_getD,Yc hi']
  exact h _ (Yx hi')
def Zl3(hc:X.calm=true):JM X (.builtin "all") Zog:=by
 intro pins s Z H xs us Q I r h
 obtain⟨a,bs,rfl,e,q⟩:=h
 obtain⟨u,rfl,ru⟩:=Zdh r
 cases ru
 obtain⟨_,its,n,hv,g⟩:=I.hok a _ e
 have ei:=ZfK hv
 subst ei
 have hL:s.heap.IsList a (bs.map Value.bool).toArray:=⟨_,g,rfl,n,by simp⟩
 refine call_all_walk (wpAny_pyIter_list hL ?_)
 have hn:a ≠ s.heap.objs.size:=Yn (Ye g)
 refine⟨_,_,_,_,_,_,λi=>bs.getD i false,rfl,Walks.list (A:=X.A.in1) (I.ok.hd hc) _ a hn (bs.map Value.bool).toArray,?_,?_,λh' tk hk=>?_⟩
 ·exact⟨⟨_,Heap.get?_push_size _ rfl,rfl,rfl⟩,⟨_,Heap.get?_push_of_some _ g,rfl,n,by simp⟩⟩
 ·intro i v s1 Q1 E1 hP hQ
  have:v=Value.bool (bs.getD i false):=by
   have hP':(bs.map Value.bool).toArray[i]?=some v:=hP
   rw [List.getElem?_toArray,Yh] at hP'
   rw [List.getD_eq_getElem?_getD]
   cases hb:bs[i]? with
   | none=>rw [hb] at hP'; cases hP'
   | some b=>rw [hb] at hP'; cases hP'; rfl
  subst this
  exact Y1 hQ
 ·rw [show (bs.map Value.bool).toArray.size=bs.length by simp,ZnW]
  exact⟨.bl (bs.all id),H,I.kept (old_kept hk),rfl,q⟩
def ZsA(hg:Gl X "all")(hm:X.mg "all"=none)(ha:QA X [e] t)(hp:ZA e=true:=by rfl)(hc:X.calm=true:=by rfl):QE X (.Call (.Name "all" p) [e] [] pos) (tCB Zog t) :=
 ⟨Zci (Zl3 hc) hg hm (by decide +kernel) ha.h (by decide) (by decide) (ZC hp) rfl⟩
end
def Itx(z:Str):It:=⟨λi _=>i < z.cps.toList.length,λi H x H'=>H'=H/\∃ d,z.cps.toList[i]?=some d/\x=.str (one d),λi _=>z.cps.toList.length<=i⟩
def ZlB{P:Program}{w:World}{K:PySem.W.Frag}{tg:Expr}(it:Addr)(z:Str)(t:Tok):Turn P w K tg (Itx z) [it] it (λi h=>h.IsStrIter it "str_ascii_iterator" z t i) where
 mem:=by simp
 obj:=λi h st b hb=>by
  have e:b=it:=by simpa using hb
  subst e
  obtain⟨o,e,c,d⟩:=st
  exact⟨o,e,λv z=>by rw [d] at z; cases z⟩
 keep:=λi h h' st k=>let ⟨o,ho,r⟩:=st; ⟨o,k it (by simp) o ho,r⟩
 item:=by
  intro X hP hw hK hc i pins s Z H E I hf st hg
  subst hP hw hK
  obtain⟨f0,f1,f2,f3,f4,f5⟩:=hf it (by simp)
  have hg2:i < z.cps.toList.length:=hg
  have hg':i < z.cps.size:=by simpa using hg2
  refine wpAny_pyNext_ascii_item st (c:=z.cps[i]) (by simp [hg']) λh' st' sb=>?_
  have I1:Inv X pins Z H { s with heap:=h',toks:=s.toks + 1 }:=I.turned (λb o hb e=>(sb.2 b hb).trans e) f0 f1 f3 f4 f5
  obtain⟨o,e,c,d⟩:=id st'
  exact⟨_,rfl,Zoj (s:={ s with heap:=h',toks:=s.toks + 1 }) e c d (by decide) ⟨.str (one z.cps[i]),H,I1,⟨_,rfl⟩,⟨rfl,_,by simp [hg'],rfl⟩,st',λb hb=>(hf b hb).1⟩⟩
 done:=by
  intro X hP hw hK hc i pins s Z H E I hf st hg
  subst hP hw hK
  obtain⟨f0,f1,f2,f3,f4,f5⟩:=hf it (by simp)
  have hg':z.cps.toList.length<=i:=hg
  exact wpAny_pyNext_ascii_end (I.ok.hd hc) st (by simp at hg' ⊢; omega) λh' eb=>⟨rfl,I.turned (t':=s.toks) (λb o hb e=>eb b o hb e) f0 f1 f3 f4 f5⟩
 self:=λ_ _ _ _ _ st h=>wpAny_pyIter_striter_ascii st h
section
variable {X:Cx}{tg l:Expr}{tl:TE}
def ZuE(tl:TE):TI:=λZ H R=>tl Z H λx H1=>∃ z,x=.str z/\(∀ d∈z.cps.toList,d < 128)/\R (Itx z) H1
def Zt8(hl:QE X l tl):QI X tg l (ZuE tl):=⟨by
 intro pins s Z H R I h
 refine Jl (hl.h pins s Z H _ I h) λv s1 ⟨x,H1,I1,r1,q1⟩=>?_
 obtain⟨z,e,ha,q⟩:=q1
 subst e
 obtain⟨t,rfl⟩:=r1
 have hall:z.cps.all (· < 128)=true:=by
  rw [Array.all_eq_true_iff_forall_mem]
  intro d hd
  exact decide_eq_true (ha d (by simpa using hd))
 refine wpAny_pyIter_ascii hall ?_
 refine⟨s1.heap.objs.size,[s1.heap.objs.size],_,_,H1,rfl,I1.kept (t':=s1.toks) λb o e=>Yg _ e,ZlB _ z t,⟨_,Ym _ rfl,rfl,rfl⟩,λb hb=>?_,q⟩
 have e:b=s1.heap.objs.size:=by simpa using hb
 subst e
 exact I1.fpOk (Yd _) (I1.hok.fresh (Yd _))⟩
end
section
variable {X:Cx}{a b c e:Expr}{es:List Expr}{ta tb tc:TE}{t:TA}{p pos:Pos}
theorem Zs5(ha:QE X a ta)(hb:QE X b tb)(hc:QE X c tc)(hm:lastMarks [CmpOp.LtE,CmpOp.LtE] [b,c]=false:=by with_unfolding_all rfl):QT X (.Compare a [.LtE,.LtE] [b,c] pos) (JF (ZfE (rI0 λi j=>.bl (decide (i<=j))) (rI0 λi j=>.bl (decide (i<=j))) ta tb tc)):=⟨Zoo ZpO ZpO ha.h hb.h hc.h hm⟩
structure OwnCls(K:PySem.W.Frag)(C:Addr):Prop where
 cl:Cls K C
 a:PySem.W.findIn K (.ref C) "__class__"=some (some (.builtin "object.__class__"))
 b:PySem.W.specialIn K (.builtin "object.__class__") "__get__"=some (some (.builtin "getset_descriptor.__get__"))
 t:PySem.W.takesIn K (.builtin "object.__class__")=some true
 m:PySem.W.mroIn K C (.type "object")=some true
 k:kitOne K (.ref C) (.ref C)=some true
def Zjp(K:PySem.W.Frag):List V->Hp->VK->Prop:=λxs H Q=>∃ a C dx fs,xs=[.ref a,.ref C]/\H a=some (.ins C dx fs)/\OwnCls K C/\Q (.bl true) H
def Zkd:JM X (.builtin "isinstance") (Zjp X.K):=by
 intro pins s Z H xs us Q I r h
 obtain⟨a,C,dx,fs,rfl,ha,T,q⟩:=h
 obtain⟨u,v,rfl,ru,rv⟩:=ZkY r
 cases (show v=Value.ref C from rv)
 exact Zhl I ru (.ins ha T.cl T.a T.b T.t T.m) T.k λtk=>⟨.bl true,H,I.tok tk,rfl,q⟩
def ZqZ(hg:Gl X "isinstance")(hm:X.mg "isinstance"=none)(ha:QA X (e :: es) t)(hp:(e :: es).all ZA=true:=by rfl):QE X (.Call (.Name "isinstance" p) (e :: es) [] pos) (tCB (Zjp X.K) t):=⟨ZhA Zkd hg hm (by rfl) ha.h hp⟩
end
def Zng{z:Str}{nt:Nat}{cp:St}{g:TG}{tt:TT}{te:TE}{H1:Hp}{Q:VK}(Pv:Addr->Nat->List V->Hp->Prop)(h0:∀ acc H2,H1 acc=none->Zn H1 H2->H2 acc=some (.lst [])->Pv acc 0 [] H2)
  (hl:∀ acc i ys H,H1 acc=none->Pv acc i ys H->H acc=some (.lst ys)/\ys.length < 1000000)
  (hs:∀ acc i d ys H os,H1 acc=none->z.cps.toList[i]?=some d->Pv acc i ys H->os.length=nt->g (.str (one d)) (os ++ cp) H λτ H3=>∃ os',os'.length=nt/\τ=os' ++ cp/\tt τ H3 λb H4=>if b=true then te τ H4 λv H5=>H5 acc=some (.lst ys)/\Pv acc (i + 1) (ys ++ [v]) (upd H5 acc (.lst (ys ++ [v]))) else Pv acc (i + 1) ys H4)
  (hd:∀ acc ys H,H1 acc=none->Pv acc z.cps.toList.length ys H->Q (.ref acc) H):Zh1 nt cp (Itx z) g tt te H1 Q:=by
 intro acc H2 hn sm e
 refine⟨λi m ys H=>m=z.cps.toList.length - i/\i<=z.cps.toList.length/\Pv acc i ys H,⟨z.cps.toList.length,by simp,Nat.zero_le _,h0 acc H2 hn sm e⟩,?_⟩
 rintro i m ys H ⟨rfl,hi,p⟩
 obtain⟨q1,q2⟩:=hl acc i ys H hn p
 refine⟨q1,?_⟩
 by_cases hlt:i < z.cps.toList.length
 ·refine .inr ⟨hlt,q2,Pv acc (i + 1),λys' H' p'=>⟨z.cps.toList.length - (i + 1),by omega,rfl,hlt,p'⟩,λos x H' ol y=>?_⟩
  obtain⟨rfl,d,hy,rfl⟩:=y
  exact hs acc i d ys _ os hn hy p ol
 ·have e:i=z.cps.toList.length:=by omega
  subst e
  exact .inl ⟨Yd _,hd _ _ _ hn p⟩
section
variable {X:Cx}{o e:Expr}{apos cpos:Pos}{td ty te:TE}
def Zpq(ho:QE X o td)(he:QE X e ty)(m:M1 X o "pop" apos e cpos:=by exact⟨rfl,rfl,rfl,rfl⟩):QE X (.Call (.Attribute o "pop" apos) [e] [] cpos) (Zi9 td ty):=⟨ZoF ho.h he.h m⟩
def Zsv(td:TE):TE:=λZ H Q=>td Z H λx H1=>∃ a kvs,x=.ref a/\H1 a=some (.dK kvs)/\Q .non (upd H1 a (.dK []))
def ZuD(K:PySem.W.Frag)(ta:TE):TT:=λZ H Q=>ta Z H λx H'=>∃ k,Zu0 K x H' k/\Q k H'
end
section
variable {X:Cx}{j k:Nat}{C:Addr}{m:Str}{ps:List Str}{sp:Sp}{pos apos:Pos}{o:Expr}{ta:TE}
end
section
variable {prog:Program}{w:World}{A:Around}{E:VSP}{s:Shared}{κ:Type}[DecidableEq κ]{knd:KeyKind prog w κ}
def ZnF(mask finger moves:Nat)(led plain:Bool):SetTable.laid mask finger moves led plain #[]=some ({ mask,place:=#[],dummies:=#[],finger,led,moves,plain },#[]):=by
 unfold SetTable.laid SetTable.layClean
 simp
 intro j hj
 simp [hj]
def Zo1:∀ m < 65,SetTable.sizeAbove m<=128:=by decide +kernel
def ZpI{a:Addr}{o:Obj}{ep:Nat}{t:SetTable}{n:Nat}{Q:Unit->Shared->Prop}(ho:s.heap.get? a=some o)(hex:o.ExactSet)(hd:o.data=.set #[] ep t)(hf:t.fits 0=true)(hp:t.place=#[])(hn:n<=30)
  (q:∀ h',Heap.SameBut a s.heap h'->h'.SetOf knd a (λ_=>false) 0->Q () { s with heap:=h' }):wpAny (model prog w) A (setRoomFor a n) Q E s:=by
 have h0:s.heap.SetOf knd a (λ_=>false) 0:=⟨o,#[],ep,t,ho,hex,hd,λe he=>by simp at he,λk=>by simp,by decide,hf,rfl⟩
 unfold setRoomFor
 refine Ya (Vc ho hd hf ?_)
 dsimp only
 cases hr:t.roomFor n with
 | none=>exact Yb (q s.heap (Heap.SameBut.refl a s.heap) h0)
 | some wanted =>
  have hw:wanted < 65:=by
   unfold SetTable.roomFor at hr
   split at hr
   ·cases hr
    rw [hp]
    show (0 + n) * 2 < 65
    omega
   ·cases hr
  have hsz:=Zo1 wanted hw
  unfold setRelay
  refine Ya (Vc ho hd hf ?_)
  dsimp only
  rw [if_neg (by rw [sizeLine_eq]; omega)]
  have er:t.relaid (Array.map (λx:Int × Value=>x.1) #[]) wanted=some ({ mask:=SetTable.sizeAbove wanted - 1,place:=#[],dummies:=#[],finger:=t.finger,led:=t.led,moves:=t.movedTo (SetTable.sizeAbove wanted - 1),plain:=t.plain },#[]):=by
   unfold SetTable.relaid
   rw [Array.map_empty]
   exact ZnF _ _ _ _ _
  rw [er]
  refine Ya (wpAny_of_eq (a:=((#[]:Array (Int × Value)),({ mask:=SetTable.sizeAbove wanted - 1,place:=#[],dummies:=#[],finger:=t.finger,led:=t.led,moves:=t.movedTo (SetTable.sizeAbove wanted - 1),plain:=t.plain }:SetTable))) rfl ?_)
  dsimp only
  refine wpAny_storeSet_of ho hd (q _ (Heap.SameBut.update _ _ _) ?_) (by simp)
  exact (SetOf_store (knd:=knd) ho hex hd (es':=#[]) (λe he=>by simp at he) (λk=>by simp) (by decide) (by simp [SetTable.fits,SetTable.fill])).2
def ZqX{d S:Addr}{es:Array DictEntry}{ep:Nat}{od:Obj}{kvs:List (κ × Value)}{nm:String}{Q:Unit->Shared->Prop}(hne:d ≠ S)(hod:s.heap.get? d=some od)(hdd:od.data=.dict es ep)(hko:KeysOf knd es)(hpo:Pairs knd es.toList kvs)(hno:(kvs.map (·.1)).Nodup)
    (hsc:∀ e∈es.toList,e.key.scannable=true) (hn:kvs.length<=30) (h0:s.heap.SetOf knd S (λ_=>false) 0) (q:∀ h',Heap.SameBut S s.heap h'->h'.SetOf knd S (λk=>decide (k∈kvs.map (·.1))) kvs.length->Q () { s with heap:=h' }) :
    wpAny (model prog w) A (do
          let __do_lift <- dictEntries d
          forIn [:__do_lift.size] PUnit.unit λi __s=>do
              let __do_lift <- dictEntries d
              match __do_lift[i]? with
                | some e=>do
                  let _ <- holding [e.key] (setAddHashed S e.key e.hash)
                  let __do_lift <- dictEpoch d
                  if (__do_lift != ep)=true then do
                      unsupported nm
                      pure (ForInStep.yield PUnit.unit)
                    else pure (ForInStep.yield PUnit.unit)
                | x=>do
                  unsupported "internal:set-from-dict"
                  pure (ForInStep.yield PUnit.unit)
          pure ()) Q E s:=by
  have hlen:kvs.length=es.size:=by rw [<- hpo.length]; simp
  refine Ya (wpAny_dictEntries hod hdd (Ya ?_))
  rw [Std.Legacy.Range.forIn_eq_forIn_range']
  simp only [Std.Legacy.Range.size,Nat.sub_zero,Nat.add_sub_cancel,Nat.div_one]
  refine VM _ (λJh _ s'=>∃ h' i,s'={ s with heap:=h' }/\Jh=List.range' i (es.size - i)/\i<=es.size/\h'.SetOf knd S (λk=>decide (k∈(kvs.take i).map (·.1))) i/\h'.get? d=some od/\Heap.SameBut S s.heap h') _ ?_ ?_ _ _
    ⟨s.heap,0,rfl,by simp,Nat.zero_le _,by simpa using h0,hod,Heap.SameBut.refl _ _⟩
  · rintro x Jh b s' ⟨h',i,rfl,hr,hi,hS,hod',sb⟩
    have hlt:i < es.size:=Nat.lt_of_le_of_ne hi λz=>by rw [z,Nat.sub_self] at hr; cases hr
    obtain⟨rfl,hrest⟩:x=i/\Jh=List.range' (i + 1) (es.size - (i + 1)):=by
      rw [show es.size - i=(es.size - (i + 1)) + 1 by omega,List.range'_succ] at hr
      injection hr with a1 a2
      exact⟨a1,a2⟩
    refine Ya (wpAny_dictEntries hod' hdd ?_)
    rw [YX hlt]
    have hltk:x < kvs.length:=by omega
    have hkv:=Yc hltk
    obtain⟨hkey,_⟩:=hpo.get? (e:=es[x]) (k:=kvs[x].1) (v:=kvs[x].2) (by simp [hlt]) hkv
    obtain⟨k',hk',hh⟩:=hko es[x] (Array.getElem_mem hlt)
    obtain rfl:k'=kvs[x].1:=knd.inj _ _ _ hk' hkey
    have hnew:kvs[x].1 ∉ (kvs.take x).map (·.1):=λhm=>by
      have h1:((kvs.take (x + 1)).map (·.1)).Nodup:=hno.sublist ((List.take_sublist _ _).map _)
      rw [YL,hkv,YQ] at h1
      exact (List.nodup_append.mp h1).2.2 _ hm _ (by simp) rfl
    show wpAny _ _ (holding [es[x].key] (setAddHashed S es[x].key es[x].hash) >>= λ_=>_) _ _ _
    rw [hh]
    refine wpAny_bind (wpAny_holding (wpAny_setAddHashed_of hkey (hsc _ (by simp)) hS (by have:scanBound=4096:=rfl; omega) λh2 sb2 hS2=>?_))
    have hod2:h2.get? d=some od:=(sb2.2 d hne).trans hod'
    refine Ya (wpAny_dictEpoch hod2 hdd ?_)
    rw [if_neg (by simp)]
    refine Yb ⟨h2,x + 1,rfl,hrest,hlt,?_,hod2,sb.trans sb2⟩
    simp only [hnew,decide_false,if_false,Bool.false_eq_true] at hS2
    rw [YL,hkv]
    have e:(λk'=>decide (k'∈(kvs.take x ++ (some kvs[x]).toList).map (·.1)))=λk'=>(decide (k'∈(kvs.take x).map (·.1)) || decide (k'=kvs[x].1)):=by
      funext k'
      rw [YQ,Vv]
      simp only [Option.toList_some,List.map_cons,List.map_nil,List.mem_append,List.mem_singleton,Bool.or_eq_true,decide_eq_true_eq]
    rw [e]
    exact hS2
  · rintro b s' ⟨h',i,rfl,hr,hi,hS,hod',sb⟩
    have hin:i=es.size:=Nat.le_antisymm hi (Nat.le_of_not_lt λc=>by rw [show es.size - i=(es.size - (i + 1)) + 1 by omega,List.range'_succ] at hr; cases hr)
    rw [hin,<- hlen,YO] at hS
    exact Yb (q h' sb hS)
set_option maxHeartbeats 3200000 in
theorem Zh4{d:Addr}{kvs:List (κ × Value)}{Q:VSP}(hd0:(d == sysModules)=false)(hm:s.heap.DictOf knd d kvs)(hsc:∀ k u,knd.is k u=true->u.scannable=true)(hn:kvs.length<=30)
  (h:∀ (h':Heap),h'.SetOf knd s.heap.objs.size (λk=>decide (k∈kvs.map (·.1))) kvs.length->(∀ b o,s.heap.get? b=some o->h'.get? b=some o)->Q (.ref s.heap.objs.size) { s with heap:=h' }) :
  wpAny (model prog w) A (call (.type "set") [.ref d]) Q E s:=by
 obtain⟨c,tl,hmro⟩:=F.called_set.mro
 have hmade:=F.called_set.made
 have hsub:=F.called_set.sub
 refine Vf (codeAny_of_tree ?_)
 show wpAny _ _ (callAny (.type "set") _) _ _ _
 refine Yb ⟨Code.quiet_builtin _ (by decide +kernel),YM F.entry_type_call ?_⟩
 rw [Around.under_plain (weight_type_call_type "set" [.ref d] []) rfl]
 have h1:=F.called_set.notType
 have h2:=F.called_set.canCreate
 have hct:=F.typeCall_set_1 (.ref d)
 repeat (any_goals (first | assumption | wp_step))
 refine YF (Zhx (.ref d) (E:=E) (Q₁:=λobj s₁=>obj=.ref s.heap.objs.size/\s₁={ s with heap:=s.heap.push (ZK w) }) ⟨rfl,rfl⟩) λr s₁ hr=>?_
 cases r with
 | error e=>exact hr
 | ok fl =>
  cases fl with
  | ret obj =>
   obtain⟨rfl,rfl⟩:=hr
   have hS:(s.heap.push (ZK w)).get? s.heap.objs.size=some (ZK w):=Ym _ rfl
   have hT:Shared.TypeIs { s with heap:=s.heap.push (ZK w) } (.ref s.heap.objs.size) "set":=⟨_,hS,rfl⟩
   have hli:=F.called_set.init.lookup
   have hbi:=F.called_set.init.bind (.ref s.heap.objs.size)
   repeat (any_goals (first | assumption | wp_step))
   refine YF (VF (R:=wants (λr s₂=>r=.none/\∃ h',s₂={ s with heap:=h' }/\h'.SetOf knd s.heap.objs.size (λk=>decide (k∈kvs.map (·.1))) kvs.length/\(∀ b o,s.heap.get? b=some o->h'.get? b=some o)) E)
    F.called_set.init.plain F.entry_set_init (check_set_init_1 hT ?_)) λr₂ s₂ hr₂=>?_
   ·obtain⟨od,es,ep,hod,⟨hcl,hdc,hsl⟩,hdd,hko,hpo,hno⟩:=hm
    obtain⟨ocls,odict,odata,oslots⟩:=od
    simp only at hcl hdc hsl hdd
    subst hcl hdc hsl hdd
    have hod':(s.heap.push (ZK w)).get? d=some { cls:=.type "dict",dict:=none,data:=.dict es ep,slots:=#[] }:=Yg _ hod
    have hsls:=F.sub_dict_set
    have hslf:=F.sub_dict_frozenset
    have hdS:d < s.heap.objs.size:=Ye hod
    unfold Builtin.«set.__init__» noKeywords Builtin.Frozenset.updateFrom
    generalize hPI:setRoomFor=PI
    wp_walk
    subst hPI
    have hlen:kvs.length=es.size:=by rw [<- hpo.length]; simp
    refine ZpI (knd:=knd) hS ⟨rfl,rfl,rfl⟩ rfl (by rfl) rfl (by omega) λh3 sb3 hS3=>?_
    have hne:d ≠ s.heap.objs.size:=Yn hdS
    refine ZqX (s:={ s with heap:=h3 }) hne ((sb3.2 d hne).trans hod') rfl hko hpo hno (λe he=>?_) hn hS3 λh4 sb4 hS4=>?_
    ·obtain⟨k,hk,_⟩:=hko e (by simpa using he)
     exact hsc k _ hk
    ·refine Yb ⟨rfl,h4,rfl,hS4,λb o e=>?_⟩
     have hb:b ≠ s.heap.objs.size:=Yn (Ye e)
     exact (sb4.2 b hb).trans ((sb3.2 b hb).trans (Yg _ e))
   ·cases r₂ with
    | error e=>exact hr₂
    | ok fl₂ =>
     cases fl₂ with
     | ret r =>
      obtain⟨rfl,h',rfl,hS',hk'⟩:=hr₂
      repeat (any_goals (first | assumption | wp_step))
      exact h _ hS' hk'
     | _=>exact hr₂.elim
  | _=>exact hr.elim
end
def Zg1:entryFor table "set.__ne__"=some Builtin.«frozenset.__ne__» :=
 entryFor_alias (id':="frozenset.__ne__") (by kernel_rfl) (by first | rfl | decide +kernel | (unfold String.splitOn; simp +decide [String.splitOnAux])) (by decide +kernel) (by kernel_rfl)
section
variable {prog:Program}{w:World}{A:Around}{E:VSP}{s:Shared}{κ:Type}[DecidableEq κ]{knd:KeyKind prog w κ}
def Zd5{d:Addr}{kvs:List (κ × Value)}{Q:VSP}(hd0:(d == sysModules)=false)(hm:s.heap.DictOf knd d kvs)(hsc:∀ k u,knd.is k u=true->u.scannable=true)(hn:kvs.length<=30)
  (h:∀ (h':Heap) (S:κ->Bool),(∀ k,S k=true ↔ k∈kvs.map (·.1))->h'.SetOf knd s.heap.objs.size S kvs.length->(∀ b o,s.heap.get? b=some o->h'.get? b=some o)->Q (.ref s.heap.objs.size) { s with heap:=h' }) :
  wpAny (model prog w) A (call (.type "set") [.ref d]) Q E s:=Zh4 hd0 hm hsc hn λh' hS hk=>h h' _ (λk=>by simp) hS hk
def Zo8{x:Value}(h:x.scannable=true):Builtin.Frozenset.quietEq x=pure true:=by
 cases x <;> first | rfl | (simp [Value.scannable] at h)
def ZiC:isSubtype (.type "set") (.type "frozenset")=pure false:=by rw [isSubtype_type]; kernel_rfl
def ZhL{a b:Addr}{oa ob:Obj}{es es':Array (Int × Value)}{ep ep':Nat}{t t':SetTable}{Q:List (Int × Value)->Shared->Prop}(hoa:s.heap.get? a=some oa)(hda:oa.data=.set es ep t)(hf:t.fits es.size=true)(hel:ElemsOf knd es.toList)
  (hob:s.heap.get? b=some ob) (hdb:ob.data=.set es' ep' t') (hf':t'.fits es'.size=true) (hel':ElemsOf knd es'.toList) (q:Q es.toList s):wpAny (model prog w) A (Builtin.Frozenset.walkUnseen a b) Q E s:=by
 unfold Builtin.Frozenset.walkUnseen
 refine Ya (YT hoa hda hf (Ya (YT hob hdb hf' (Ya ?_))))
 refine VM _ (λJh q' s'=>s'=s/\q'=(none,())/\∀ e∈Jh,e.2.scannable=true) _ ?_ ?_ _ _ ⟨rfl,rfl,λe he=>?_⟩
 ·intro e Jh q' s' h
  obtain⟨rfl,rfl,hs⟩:=h
  obtain⟨hh,x⟩:=e
  show wpAny _ _ (Builtin.Frozenset.quietEq x >>= λ_=>_) _ _ _
  exact Ya (wpAny_of_eq (Zo8 (hs _ (.head _))) (Yb ⟨rfl,rfl,λe he=>hs e (.tail _ he)⟩))
 ·rintro q' s' ⟨rfl,rfl,_⟩
  exact Yb q
 ·rcases Yp.mp he with h | h
  ·exact (hel e h).2
  ·exact (hel' e h).2
def Zmc{a b:Addr}{S S':κ->Bool}{n m:Nat}{nm:String}{Q:Bool->Shared->Prop}(ha:s.heap.SetOf knd a S n)(hb:s.heap.SetOf knd b S' m)(hnm:n<=m)
  (q:∀ r:Bool,(r=true ↔ ∀ k,S k=true->S' k=true)->Q r s):wpAny (model prog w) A (Builtin.Frozenset.subsetOf nm a b) Q E s:=by
 obtain⟨oa,es,ep,t,hoa,_,hda,hel,hmem,hz,hf,hn⟩:=id ha
 obtain⟨ob,es',ep',t',hob,_,hdb,hel',hmem',hz',hf',hn'⟩:=id hb
 unfold Builtin.Frozenset.subsetOf Builtin.Frozenset.sizeOf
 refine Ya (Ya (YT hoa hda hf (Yb (Ya (Ya (YT hob hdb hf' (Yb ?_)))))))
 rw [if_neg (by omega)]
 refine Ya (VW hoa hda hf (Ya (ZhL hoa hda hf hel hob hdb hf' hel' (Ya ?_))))
 refine VM _ (λJh q' s'=>s'=s/\q'=(none,())/\∃ pre,es.toList=pre ++ Jh/\∀ e∈pre,∃ k,knd.is k e.2=true/\S' k=true) _ ?_ ?_ _ _ ⟨rfl,rfl,[],rfl,λe he=>by cases he⟩
 ·rintro⟨hh,x⟩ Jh q' s' ⟨rfl,rfl,pre,hpre,hin⟩
  have hx:(hh,x)∈es.toList:=by rw [hpre]; simp
  obtain⟨⟨k,hk,ehh⟩,hsc⟩:=hel _ hx
  dsimp only at hk ehh hsc ⊢
  rw [ehh]
  refine Ya (YE (wpAny_setFind_of hk hsc hb λr hr=>?_))
  cases r with
  | none =>
   have hS':S' k=false:=by rw [<- hr]; rfl
   dsimp only [Option.isNone]
   rw [if_pos rfl]
   refine Yb (Yb (q false ⟨(λz=>by cases z),λz=>?_⟩))
   have:=z k ((hmem k).mpr ⟨_,hx,hk⟩)
   rw [hS'] at this
   cases this
  | some j =>
   have hS':S' k=true:=by rw [<- hr]; rfl
   dsimp only [Option.isNone]
   rw [if_neg (by decide)]
   unfold Builtin.Frozenset.unchanged
   refine Ya (Ya (VW hoa hda hf ?_))
   rw [if_neg (by simp)]
   refine wpAny_pure (wpAny_pure ⟨rfl,rfl,pre ++ [(hh,x)],by rw [hpre]; simp,λe he=>?_⟩)
   rcases Yp.mp he with h | h
   ·exact hin e h
   ·rw [Yu.mp h]; exact⟨k,hk,hS'⟩
 ·rintro q' s' ⟨rfl,rfl,pre,hpre,hin⟩
  rw [Vk] at hpre
  refine Yb (q true ⟨λ_ k hk=>?_,λ_=>rfl⟩)
  obtain⟨e,he,hke⟩:=(hmem k).mp hk
  rw [hpre] at he
  obtain⟨k',hk',hS'⟩:=hin e he
  obtain rfl:k'=k:=knd.inj _ _ _ hk' hke
  exact hS'
set_option maxHeartbeats 3200000 in
def Zry{a b:Addr}{S S':κ->Bool}{n m:Nat}{Q:VSP}(ha:s.heap.SetOf knd a S n)(hb:s.heap.SetOf knd b S' m)(hu:A.units < cLine)
  (q:∀ r:Bool,(r=true ↔ (n=m/\∀ k,S k=true->S' k=true))->Q (.bool !r) s):wpAny (model prog w) A (compareOp .NotEq (.ref a) (.ref b)) Q E s:=by
 refine wpAny_richCompare_same_room (op:=.NotEq) ha.typeIs hb.typeIs PySem.F.slot_set_ne (YV PySem.F.slot_set_ne ha.typeIs Zg1 ?_ (PySem.F.args_set_ne_2 _ _)) hu
 obtain⟨oa,es,ep,t,hoa,⟨hc1,hc2,hc3⟩,hda,hel,hmem,hz,hf,hn⟩:=id ha
 obtain⟨ob,es',ep',t',hob,⟨hc1',hc2',hc3'⟩,hdb,hel',hmem',hz',hf',hn'⟩:=id hb
 have hs1:isSubtype (.type "set") (.type "set")=pure true:=F.called_set.sub
 show wpAny _ _ (Builtin.Frozenset.slot1 "__ne__" ⟨[.ref a,.ref b],[]⟩ >>= λ_=>_) _ _ s
 refine Ya ?_
 unfold Builtin.Frozenset.slot1
 refine Ya (wpAny_of_eq (a:=(Value.ref a,[Value.ref b])) rfl (Yb ?_))
 unfold Builtin.Frozenset.isAnySet
 refine Ya (Ya (Vj hb.typeIs hs1 (Yb ?_)))
 rw [if_neg (by decide)]
 dsimp only
 refine Ya (Yb (Ya (Yb ?_)))
 unfold Builtin.Frozenset.sizeOf
 refine Ya (Ya (YT hoa hda hf (Yb (Ya (Ya (YT hob hdb hf' (Yb (Ya ?_))))))))
 have fin:∀ r:Bool,(r=true ↔ (n=m/\∀ k,S k=true->S' k=true))->wpAny (model prog w) A.in1 (ret (.bool !r)) (λfin s'=>∃ v,fin=.done (.ret v)/\(v ≠ .notImplemented/\Q v s')) E s:=λr hr=>Yb ⟨_,rfl,(λz=>by cases z),q r hr⟩
 by_cases e:es.size=es'.size
 ·rw [if_neg (by simp [e])]
  refine Ya (Ya (Vj ha.typeIs ZiC (Yb ?_)))
  rw [if_neg (by decide)]
  exact Zmc ha hb (by omega) λr hr=>fin r ⟨λz=>⟨by omega,hr.mp z⟩,λz=>hr.mpr z.2⟩
 ·rw [if_pos (by simpa using e)]
  exact Yb (fin false ⟨(λz=>by cases z),λz=>absurd (by omega) e⟩)
end
def ZmJ(ta tb:TA):TE:=λZ H Q=>ta Z H λvs H1=>∃ a ka,vs=[.ref a]/\Rd H1 a (.dK ka)/\ka.length<=30/\tb Z H1 λus H2=>∃ b kb,us=[.ref b]/\Rd H2 b (.dK kb)/\kb.length<=30 /\
 ∀ r:Bool,(r=true ↔ (ka.length=kb.length/\∀ k∈ka.map (·.1),k∈kb.map (·.1)))->Q (.bl !r) H2
def Zgn{P:Program}{w:World}(k:Je)(u:Value)(h:(ZL P w).is k u=true):u.scannable=true:=by
 have r:=Zn6 h
 cases k with
 | inl i=>obtain⟨t,rfl⟩:=(show ∃ t,u=Value.int i t from r); rfl
 | inr z=>obtain⟨t,rfl⟩:=(show ∃ t,u=Value.str z t from r); rfl
section
variable {X:Cx}{e1 e2:Expr}{ta tb:TA}{p1 p2 q1 q2 pos:Pos}
def Inv.addPin{pins:List (Addr × Obj)}{Z:L2.St}{H:Hp}{s:Shared}{p:Addr × Obj}(I:Inv X pins Z H s)(h:s.heap.get? p.1=some p.2/\H p.1=none/\p.1 ≠ X.env.locals/\p.1 ∉ X.fs/\∀ v,p.2.data ≠ .cell v):Inv X (p :: pins) Z H s :=
 ⟨I.ok,I.os,I.bare,I.base,I.loc,I.cell,I.free,I.freeC,λx hx=>by
  rcases Yp.mp hx with hx | hx
  ·exact I.pin x (VD _ hx)
  ·rcases Yl.mp hx with rfl | hx
   ·exact h
   ·exact I.pin x (Yy _ hx),I.hok,I.len⟩
def Inv.dropPin{pins:List (Addr × Obj)}{Z:L2.St}{H:Hp}{s:Shared}{p:Addr × Obj}(I:Inv X (p :: pins) Z H s):Inv X pins Z H s :=
 ⟨I.ok,I.os,I.bare,I.base,I.loc,I.cell,I.free,I.freeC,λx hx=>I.pin x (by
  rcases Yp.mp hx with hx | hx
  ·exact VD _ hx
  ·exact Yy _ (YY _ hx)),I.hok,I.len⟩
def ZnV(hu:X.A.units < cLine)(hg:Gl X "set")(hm:X.mg "set"=none)(ha:QA X [e1] ta)(hb:QA X [e2] tb)(hp1:ZA e1=true:=by rfl)(hp2:ZA e2=true:=by rfl) :
  PC X .NotEq (.Call (.Name "set" p1) [e1] [] q1) (.Call (.Name "set" p2) [e2] [] q2) (ZmJ ta tb):=by
 intro pins s Z H Q I h
 refine YU (Zcw I hg hm (show bootBuiltins "set"=some (.type "set") by decide +kernel) ?_ (by decide) (by decide))
 refine Y8 (Jl (ha.h q1 pins s Z H _ I h) λus s1 ⟨vs,H1,I1,r1,qq⟩=>?_) (ZC hp1) rfl
 obtain⟨a,ka,rfl,ea,hla,h2⟩:=qq
 obtain⟨u,rfl,ru⟩:=Zdh r1
 cases ru
 obtain⟨_,hd0,va,rel,dd⟩:=Zda I1.hok ea
 refine Zd5 hd0 dd Zgn (by rw [<- rel.length]; exact hla) λh1 S1 eS1 hS1 hk1=>?_
 have hn1:H1 s1.heap.objs.size=none:=I1.hok.fresh (Yd _)
 have f1:=I1.fpOk (Yd _) hn1
 have I1':Inv X pins Z H1 { s1 with heap:=h1 }:=I1.kept (t':=s1.toks) hk1
 obtain⟨o1,es1,ep1,t1,ho1,hx1,hd1,hr1⟩:=id hS1
 have I2:Inv X ((s1.heap.objs.size,o1) :: pins) Z H1 { s1 with heap:=h1 }:=Inv.addPin I1' ⟨ho1,hn1,f1.2.1,f1.2.2.1,λv z=>by rw [hd1] at z; cases z⟩
 refine YU (Zcw I2 hg hm (show bootBuiltins "set"=some (.type "set") by decide +kernel) ?_ (by decide) (by decide))
 refine Y8 (Jl (hb.h q2 _ _ Z H1 _ I2 h2) λus s2 ⟨vs,H2,I3,r2,qq⟩=>?_) (ZC hp2) rfl
 obtain⟨b,kb,rfl,eb,hlb,q⟩:=qq
 obtain⟨u,rfl,ru⟩:=Zdh r2
 cases ru
 obtain⟨_,hd0',vb,rel',dd'⟩:=Zda I3.hok eb
 have hS1':s2.heap.SetOf (ZL X.prog X.w) s1.heap.objs.size S1 va.length:=⟨o1,es1,ep1,t1,(I3.pin _ (Yy _ (Vi ..))).1,hx1,hd1,hr1⟩
 refine Zd5 hd0' dd' Zgn (by rw [<- rel'.length]; exact hlb) λh3 S2 eS2 hS2 hk2=>?_
 have hS1'':h3.SetOf (ZL X.prog X.w) s1.heap.objs.size S1 va.length:=let ⟨o,es,ep,t,ho,r⟩:=hS1'; ⟨o,es,ep,t,hk2 _ _ ho,r⟩
 have I4:Inv X pins Z H2 { s2 with heap:=h3 }:=(Inv.dropPin I3).kept (t':=s2.toks) hk2
 refine Zry (s:={ s2 with heap:=h3 }) hS1'' hS2 hu λr hr=>⟨.bl !r,H2,I4,rfl,q r ?_⟩
 rw [hr,rel.length,rel'.length,rel.keys,rel'.keys]
 exact⟨λz=>⟨z.1,λk hk=>(eS2 k).mp (z.2 k ((eS1 k).mpr hk))⟩,λz=>⟨z.1,λk hk=>(eS2 k).mpr (z.2 k ((eS1 k).mp hk))⟩⟩
def ZqR(hu:X.A.units < cLine)(hg:Gl X "set")(hm:X.mg "set"=none)(ha:QA X [e1] ta)(hb:QA X [e2] tb)(hp1:ZA e1=true:=by rfl)(hp2:ZA e2=true:=by rfl) :
  QT X (.Compare (.Call (.Name "set" p1) [e1] [] q1) [.NotEq] [.Call (.Name "set" p2) [e2] [] q2] pos) (tB (ZmJ ta tb)):=⟨Zld (ZnV hu hg hm ha hb hp1 hp2)⟩
end
def Zpd(td:TE):TE:=λZ H Q=>td Z H λx H1=>∃ a kvs,x=.ref a/\Rd H1 a (.dK kvs)/\∀ l H2,H1 l=none->Zn H1 H2->H2 l=some (.lst (kvs.map (·.2)))->Q (.ref l) H2
def Zsl{kvs:List (Je × V)}{vs:List (Je × Value)}(r:KV kvs vs):∀ {i:Nat}{kv:Je × V}{k:Je}{u:Value},kvs[i]?=some kv->vs[i]?=some (k,u)->ZP kv.2 u:=by
 unfold KV at r
 induction r with
 | nil=>intro i kv k u h; simp at h
 | cons h t ih =>
  intro i kv k u h1 h2
  cases i with
  | zero=>simp at h1 h2; subst h1; rw [h2] at h; exact h.2
  | succ i=>exact ih (by simpa using h1) (by simpa using h2)
section
variable {X:Cx}{o:Expr}{td:TE}{p pos apos cpos:Pos}
def Zj1(hg:Gl X "list")(hm:X.mg "list"=none)(ho:QE X o td)(hbase:attributeBase o "values" X.env (eval o X.env)=eval o X.env:=by rfl)(hline:(apos.endLine == cpos.line)=true:=by rfl)(hc:X.calm=true:=by rfl) :
  QE X (.Call (.Name "list" p) [.Call (.Attribute o "values" apos) [] [] cpos] [] pos) (Zpd td):=⟨by
 intro pins s Z H Q I h
 refine YU (Zcw I hg hm (show bootBuiltins "list"=some (.type "list") by decide +kernel) ?_ (by decide) (by decide))
 refine Y8 ?_ rfl rfl
 show wpAny _ _ (spliced ((false,eval (.Call (.Attribute o "values" apos) [] [] cpos) X.env) :: [])) _ _ s
 refine VH ?_
 refine wpAny_Call_method0_late hbase hline (Jl (ho.h pins s Z H _ I h) λv s1 ⟨x,H1,I1,r1,a,kvs,ex,ea,q⟩=>?_)
 subst ex
 obtain rfl:v=Value.ref a:=r1
 obtain⟨t1,t2,_⟩:=Zpz I1 (.inl ⟨kvs,ea⟩)
 obtain⟨z,hd,vs,rel,dd⟩:=Zda I1.hok ea
 refine⟨"dict","dict.values",PySem.F.plainAttrs_dict,PySem.F.slot_dict_values,PySem.F.type_dict_values,t1,t2,VQ rfl (PySem.evalArgs_none ?_)⟩
 refine call_meetsIn PySem.F.slot_dict_values dd.typeIs PySem.F.entry_dict_values (PySem.F.args_dict_values_1 _) (meets_dict_values (ZL X.prog X.w) a hd) ⟨⟨vs,dd⟩,Calls.spliced_nil ?_⟩
 have I2:Inv X pins Z H1 { s1 with heap:=s1.heap.push { cls:=.type "dict_values",data:=.fields #[.ref a] } }:=I1.kept (t':=s1.toks) λb o e=>Yg _ e
 obtain⟨ep,at_⟩:=dd.dictAt
 have hf:=I2.hok.fresh (Yd _)
 refine kdl_call (PySem.W.kdl_values (knd:=ZL X.prog X.w) (kvs:=vs) (ep:=ep)) (I1.ok.hd hc) ⟨⟨_,Ym _ rfl,rfl,rfl⟩,at_.push _⟩ (by rw [<- rel.length]; exact z) λh' tk acc' c' kk hl ⟨hs,hacc⟩=>?_
 refine⟨.ref _,_,I2.laid (o:=.lst (kvs.map (·.2))) kk (Nat.le_refl _) (show Ji X.prog X.w _ h' _ (.lst (kvs.map (·.2))) from ⟨by rw [List.length_map]; exact z,acc'.toList,c',Ze0 ?_ λi x u e1 e2=>?_,by simpa using hl⟩),rfl,q _ _ hf (ZH hf _) Zi⟩
 ·rw [List.length_map,rel.length]; simpa using hs.symm
 ·obtain⟨k,g1⟩:=hacc i u (by simpa using e2)
  rw [Yh] at e1
  obtain⟨kv,g3,rfl⟩:=Y9.mp e1
  exact Zsl rel g3 g1⟩
end
def Zku(prog:Program)(w:World)(h:Heap)(a:Addr)(L:List Je):Prop:=∃ S c,h.SetOf (ZL prog w) a S c/\(∀ k,S k=true ↔ k∈L)/\c<=L.length/\(c=L.length ↔ L.Nodup)
section
variable {prog:Program}{w:World}{A:Around}{E:VSP}{s:Shared}
theorem Zku.keep{h h':Heap}{a:Addr}{L:List Je}(x:Zku prog w h a L)(hk:∀ o,h.get? a=some o->h'.get? a=some o):Zku prog w h' a L :=
 let ⟨S,c,⟨o,es,ep,t,ho,r⟩,q⟩:=x; ⟨S,c,⟨o,es,ep,t,hk o ho,r⟩,q⟩
def Zn7{h:Heap}{a:Addr}{L:List Je}{k:Je}{S:Je->Bool}{c:Nat}(hm:∀ k,S k=true ↔ k∈L)(hc:c<=L.length/\(c=L.length ↔ L.Nodup))(hS:h.SetOf (ZL prog w) a (λk'=>S k' || decide (k'=k)) (if S k then c else c + 1)):Zku prog w h a (L ++ (some k).toList):=by
 refine⟨_,_,hS,λk'=>?_,?_⟩
 ·show _ ↔ k'∈L ++ [k]
  rw [Bool.or_eq_true,hm,decide_eq_true_iff,Yp,Yu]
 ·show _<=(L ++ [k]).length/\(_=(L ++ [k]).length ↔ (L ++ [k]).Nodup)
  rw [YZ,List.length_singleton,List.nodup_append]
  by_cases hk:S k=true
  ·rw [if_pos hk]
   exact⟨by omega,λz=>by omega,λz=>absurd rfl (z.2.2 k ((hm k).mp hk) k (Yu.mpr rfl))⟩
  ·rw [if_neg hk]
   refine⟨by omega,λz=>⟨hc.2.mp (by omega),by simp,λx hx y hy=>?_⟩,λz=>by have:=hc.2.mpr z.1; omega⟩
   rw [Yu.mp hy]
   exact λe=>hk ((hm k).mpr (e ▸ hx))
theorem Zku.fresh{h:Heap}{a:Addr}(e:h.get? a=some (ZK w)):Zku prog w h a [] :=
 ⟨λ_=>false,0,⟨_,#[],0,_,e,⟨rfl,rfl,rfl⟩,rfl,(λe he=>by simp at he),(λk=>by simp),by decide,rfl,rfl⟩,λk=>by simp,Nat.le_refl _,by simp⟩
theorem ZkW{ks:List Je}{us:List Value}(h:PySem.ItemsAre (ZL prog w) ks us):us.length=ks.length:=by induction h <;> simp_all
def Zno{ks:List Je}{us:List Value}(h:PySem.ItemsAre (ZL prog w) ks us):∀ (i:Nat) (k:Je) (u:Value),ks[i]?=some k->us[i]?=some u->(ZL prog w).is k u=true:=by
 induction h with
 | nil=>intro i k u e; simp at e
 | cons hk _ ih =>
  intro i k u e1 e2
  cases i with
  | zero=>simp at e1 e2; subst e1; subst e2; exact hk
  | succ i=>exact ih i k u (by simpa using e1) (by simpa using e2)
def ZlK{I:Addr}{fp wr:List Addr}{G:Array GenState->Array GenState->Prop}{P:Nat->Value->Prop}{St:Nat->Shared->Prop}{R:Result->Shared->Prop}{ns:List Je}(W:WalksS prog w A.in1 I fp wr G ns.length P St)(S:Addr)(hSf:S ∉ fp)(hval:∀ i v,P i v->∃ k,ns[i]?=some k/\(ZL prog w).is k v=true)(hb:ns.length + 1 < scanBound) :
  ∀ (k i:Nat) (s:Shared),ns.length - i=k->i<=ns.length->St i s->Zku prog w s.heap S (ns.take i) ->
   (∀ s',Moved (S :: wr) G s s'->Zku prog w s'.heap S ns->R (.ok (.ret .none)) s')->codeAny (model prog w) A (.builtin "set.update.loop" ⟨[.ref S,.ref I],[]⟩) R s:=by
 have hSw:S ∉ wr:=λh=>hSf (W.sub _ h)
 have hsub:∀ b∈wr,b∈S :: wr:=λb hb=>YY _ hb
 intro k
 induction k with
 | zero =>
  intro i s hk hi hst hS hR
  obtain rfl:i=ns.length:=by omega
  refine YM F.entry_set_update_loop ?_
  rw [Y3 F.plain_set_update_loop _]
  show wpAny _ A.in1 (pyNext (.ref I) >>= _) _ _ s
  refine Ya (W.done s _ _ hst λs' hm=>?_)
  show wpAny _ A.in1 (ret Value.none) _ _ s'
  rw [YO] at hS
  exact Yb (hR s' (hm.mono hsub) (hS.keep λo ho=>hm.heap S _ hSw ho))
 | succ k ih =>
  intro i s hk hi hst hS hR
  have hlt:i < ns.length:=by omega
  refine YM F.entry_set_update_loop ?_
  rw [Y3 F.plain_set_update_loop _]
  show wpAny _ A.in1 (pyNext (.ref I) >>= _) _ _ s
  refine Ya (W.item i s _ _ hlt hst λv s' hP hst' hm=>?_)
  obtain⟨z,hz,hk0⟩:=hval i v hP
  have hS':=hS.keep (λo ho=>hm.heap S _ hSw ho)
  show wpAny _ A.in1 (holding [v] (setAdd S v) >>= _) _ _ s'
  refine Ya (YE ?_)
  unfold setAdd
  refine YE (Ya ((ZL prog w).pyHash (k:=z) hk0 ?_))
  obtain⟨S1,c,hc,hm1,hcl,hcn⟩:=hS'
  refine wpAny_setAddHashed_of (knd:=ZL prog w) (s:={ s' with toks:=s'.toks + 1 }) hk0 (Zgn _ _ hk0) hc (by rw [Y6] at hcl; omega) λh' hsb hS2=>?_
  have hSi:Zku prog w h' S (ns.take (i + 1)):=by
   rw [YL,hz]
   exact Zn7 hm1 ⟨hcl,hcn⟩ hS2
  refine Yb ⟨Vm F.plain_set_update_loop _,ih (i + 1) _ (by omega) hlt (W.frame _ s' _ _ hst' (Vn _) λb hb o e=>?_) hSi λs'' hm'' hS''=>?_⟩
  ·rw [hsb.2 b (λh:b=S=>hSf (by rw [<- h]; exact hb))]; exact e
  ·refine hR s'' (Moved.trans W.gtrans ((hm.mono hsub).then_heap (Vn _) λb o hb e=>?_) hm'') hS''
   rw [hsb.2 b (λh:b=S=>hb (by rw [h]; exact Vi))]; exact e
set_option maxHeartbeats 3200000 in
theorem Zhr{l:Addr}{items:Array Value}{ns:List Je}{Q:VSP}(hh:A.handled=none)(hl:s.heap.IsList l items)(hi:PySem.ItemsAre (ZL prog w) ns items.toList)(hb:ns.length + 1 < scanBound)
  (h:∀ (h':Heap) (tk:Nat),Zku prog w h' s.heap.objs.size ns->(∀ b o,s.heap.get? b=some o->h'.get? b=some o)->Q (.ref s.heap.objs.size) { s with heap:=h',toks:=tk }) :
  wpAny (model prog w) A (call (.type "set") [.ref l]) Q E s:=by
 obtain⟨c,tl,hmro⟩:=F.called_set.mro
 have hmade:=F.called_set.made
 have hsub:=F.called_set.sub
 refine Vf (codeAny_of_tree ?_)
 show wpAny _ _ (callAny (.type "set") _) _ _ _
 refine Yb ⟨Code.quiet_builtin _ (by decide +kernel),YM F.entry_type_call ?_⟩
 rw [Around.under_plain (weight_type_call_type "set" [.ref l] []) rfl]
 have h1:=F.called_set.notType
 have h2:=F.called_set.canCreate
 have hct:=F.typeCall_set_1 (.ref l)
 repeat (any_goals (first | assumption | wp_step))
 refine YF (Zhx (.ref l) (E:=E) (Q₁:=λobj s₁=>obj=.ref s.heap.objs.size/\s₁={ s with heap:=s.heap.push (ZK w) }) ⟨rfl,rfl⟩) λr s₁ hr=>?_
 cases r with
 | error e=>exact hr
 | ok fl =>
  cases fl with
  | ret obj =>
   obtain⟨rfl,rfl⟩:=hr
   have hS:(s.heap.push (ZK w)).get? s.heap.objs.size=some (ZK w):=Ym _ rfl
   have hT:Shared.TypeIs { s with heap:=s.heap.push (ZK w) } (.ref s.heap.objs.size) "set":=⟨_,hS,rfl⟩
   have hli:=F.called_set.init.lookup
   have hbi:=F.called_set.init.bind (.ref s.heap.objs.size)
   repeat (any_goals (first | assumption | wp_step))
   refine YF (VF (R:=wants (λr s₂=>r=.none/\∃ h' tk,s₂={ s with heap:=h',toks:=tk }/\Zku prog w h' s.heap.objs.size ns/\(∀ b o,s.heap.get? b=some o->h'.get? b=some o)) E)
    F.called_set.init.plain F.entry_set_init (check_set_init_1 hT ?_)) λr₂ s₂ hr₂=>?_
   ·obtain⟨ol,hol,hcl,nl,hdl⟩:=hl
    obtain⟨ocls,odict,odata,oslots⟩:=ol
    simp only at hcl hdl
    subst hcl; subst hdl
    have hol':(s.heap.push (ZK w)).get? l=some { cls:=.type "list",dict:=odict,data:=.seq items nl,slots:=oslots }:=Yg _ hol
    have hsls:=F.sub_list_set
    have hslf:=F.sub_list_frozenset
    have hne:(Value.type "list" == Value.type "dict")=false:=by decide
    have hl1:(s.heap.push (ZK w)).IsList l items:=⟨_,hol',rfl,nl,rfl⟩
    have hsz:items.size=ns.length:=by rw [<- YG]; exact ZkW hi
    unfold Builtin.«set.__init__» noKeywords Builtin.Frozenset.updateFrom
    generalize hPI:pyIter=PI
    wp_walk
    subst hPI
    refine wpAny_pyIter_list hl1 (Ya (wpAny_runValue ?_))
    have hlS:l < s.heap.objs.size:=Ye hol
    have hz1:(s.heap.push (ZK w)).objs.size=s.heap.objs.size + 1:=Vy ..
    have hneI:l ≠ (s.heap.push (ZK w)).objs.size:=by rw [hz1]; exact Yn (Vt hlS)
    have hSf:s.heap.objs.size ∉ [(s.heap.push (ZK w)).objs.size,l]:=by
     rw [hz1]; simp only [List.mem_cons,List.not_mem_nil,or_false,not_or]; exact⟨Nat.ne_of_lt (Nat.lt_succ_self _),Nat.ne_of_gt hlS⟩
    have W:=(Walks.list (prog:=prog) (w:=w) (A:=A.in1.in1.in1) (by simp [hh]) _ l hneI items).toS
    rw [hsz] at W
    refine ZlK W s.heap.objs.size hSf (λi v hv=>?_) hb ns.length 0 _ (by omega) (YA _) ⟨⟨_,Ym _ rfl,rfl,rfl⟩,(hl1.push _)⟩ (Zku.fresh (Yg _ hS)) λs' hm hS'=>?_
    ·have hlt:i < ns.length:=by rw [<- hsz]; exact (Array.getElem?_eq_some_iff.mp hv).1
     exact⟨ns[i],Yc hlt,Zno hi i _ _ (Yc hlt) (by rw [YB]; exact hv)⟩
    ·obtain⟨h',g',d',tk',os'⟩:=s'
     have eg:g'=s.gens:=hm.gens
     have ed:d'=s.drawn:=hm.drawn
     have eo:os'=s.os:=hm.os
     subst eg; subst ed; subst eo
     show wpAny _ _ _ _ _ _
     refine Yb ?_
     show wpAny _ _ (ret Value.none) _ _ _
     refine Yb ⟨rfl,h',tk',rfl,hS',λb o e=>?_⟩
     have hb:=Ye e
     exact hm.heap b o (by rw [hz1]; simp only [List.mem_cons,List.not_mem_nil,or_false,not_or]; exact⟨Nat.ne_of_lt hb,Nat.ne_of_lt (Nat.lt_succ_of_lt hb)⟩) (Heap.get?_push_of_some _ (Heap.get?_push_of_some _ e))
   ·cases r₂ with
    | error e=>exact hr₂
    | ok fl₂ =>
     cases fl₂ with
     | ret r =>
      obtain⟨rfl,h',tk,rfl,hS',hk'⟩:=hr₂
      repeat (any_goals (first | assumption | wp_step))
      exact h _ _ hS' hk'
     | _=>exact hr₂.elim
  | _=>exact hr.elim
end
section
variable {X:Cx}{e:Expr}{t:TA}{p p' pos pos':Pos}
def Zqx:List V->Hp->VK->Prop:=λxs H Q=>∃ (a:Addr) (zs:List Str),xs=[.ref a]/\H a=some (.lst (zs.map V.str))/\zs.length < 4000/\∀ c:Nat,(c=zs.length ↔ zs.Nodup)->Q (.int (c:Int)) H
def Zo0(hg:Gl X "len")(hm:X.mg "len"=none)(hg2:Gl X "set")(hm2:X.mg "set"=none)(ha:QA X [e] t)(hp:ZA e=true:=by rfl)(hc:X.calm=true:=by rfl) :
  QE X (.Call (.Name "len" p) [.Call (.Name "set" p') [e] [] pos'] [] pos) (tCB Zqx t):=⟨by
 intro pins s Z H Q I h
 refine YU (Zcw I hg hm (show bootBuiltins "len"=some (.builtin "len") by decide +kernel) ?_ (by decide) (by decide))
 refine PyProof.Rows.callWith_builtin1 ?_ rfl rfl
 show wpAny _ _ (spliced ((false,eval (.Call (.Name "set" p') [e] [] pos') X.env) :: [])) _ _ s
 refine VH ?_
 refine YU (Zcw I hg2 hm2 (show bootBuiltins "set"=some (.type "set") by decide +kernel) ?_ (by decide) (by decide))
 refine Y8 (Jl (ha.h pos' pins s Z H _ I h) λus s1 ⟨vs,H1,I1,r1,q1⟩=>?_) (ZC hp) rfl
 obtain⟨a,zs,rfl,e1,hl,q⟩:=q1
 obtain⟨u,rfl,ru⟩:=Zdh r1
 cases ru
 obtain⟨_,its,n,hv,g⟩:=I1.hok a _ e1
 have hi:PySem.ItemsAre (ZL X.prog X.w) (zs.map Sum.inr) its:=ZeS (by rw [Y7]; exact hv)
 refine Zhr (ns:=zs.map Sum.inr) (I1.ok.hd hc) ⟨_,g,rfl,n,rfl⟩ (by simpa using hi) (by have:scanBound=4096:=rfl; rw [List.length_map]; omega) λh' tk hS hk=>Calls.spliced_nil ?_
 obtain⟨S1,c,⟨o,es,ep,tb,ho,hex,hd,hel,hmem,hb,hf,hn⟩,_,hcl,hcn⟩:=hS
 rw [Yi] at hcl hcn
 refine call_len_set (s:={ s1 with heap:=h',toks:=tk }) ho hex hd hf (by rw [hn]; omega) ?_
 refine⟨.int (c:Int),H1,?_,⟨_,by rw [hn]⟩,q c ?_⟩
 ·exact I1.kept (t':=tk + 1 + 1) hk
 ·rw [hcn]
  exact⟨λz=>List.Pairwise.imp (λ{_ _} h e=>h (by rw [e])) (VG.mp z),λz=>VG.mpr (List.Pairwise.imp (λ{_ _} h e=>h (Sum.inr.inj e)) z)⟩⟩
end
end My
set_option maxHeartbeats 4000000
namespace My
open PySem L2
theorem ZlI{i j:Int}:Ztr (.int i) (.int j)=true:=rfl
theorem ZlZ{i j:Str}:Ztr (.str i) (.str j)=true:=rfl
end My
local macro_rules | `(tactic| walk_at "rd") => `(tactic| ((try dsimp only [L2.Znj, L2.Zgp, L2.Zro, L2.Zs3, L2.ZoS, L2.ZoR, L2.Zm4, L2.Zdb, L2.Zis, L2.tC, L2.JT, L2.tUn, L2.rI, L2.rI0, L2.rU, L2.rEq, L2.rNe, L2.JF, L2.tB, L2.Ztf, L2.tOr, L2.Ztb, L2.ZnY, L2.ZuC, L2.Znn, L2.tIf, L2.Zh3, L2.tCB, L2.Zrl, L2.Zj2, My.Znv, My.Zns, L2.Ztn, My.Zon, L2.Znb, L2.Zti, My.Zdr, My.ZnQ, L2.Ztc, L2.Ztu, L2.Ztp, L2.Zrm, L2.Zs9, L2.tBM, L2.Zh8, List.getElem?_cons_zero, List.getElem?_cons_succ, List.set_cons_zero, List.set_cons_succ, List.cons_append, List.nil_append, My.ZlI, My.ZlZ, Bool.not_true, Bool.not_false, List.length_cons, List.length_nil, My.Ztq, My.Zpu, My.Zr5, My.Zk3, My.tFs, My.Zuy, My.tLm, L2.Zja, L2.Zpj, L2.Zuw, L2.Zgs, My.tDG, My.sDP, My.tDI, L2.Ztl, L2.tSl, L2.Zet, L2.Zmu, My.tXm, My.ZsD, My.Zs7, My.ZuF, My.Zf6, My.Ztw, My.ZuH, My.Zi7, My.Zi4, My.ZoO, L2.Zpt, My.Zsa, My.ZsZ, My.Zuv, My.Zus, My.Zpv, My.ZmF, My.Ztg, My.Zog, My.Zjp, L2.Zi9, My.Zsv, My.ZuD, My.Zmp, L2.ZfE, L2.Zte, L2.ZoD, L2.ZhO, L2.Zni, L2.Ztd, L2.Zty, My.Zth, My.tXE, My.tXS, My.ZpD, My.ZiQ]); (try simp only [L2.Znj, L2.Zgp, L2.Zro, L2.Zs3, L2.ZoS, L2.ZoR, L2.Zm4, L2.Zdb, L2.Zis, L2.tC, L2.JT, L2.tUn, L2.rI, L2.rI0, L2.rU, L2.rEq, L2.rNe, L2.JF, L2.tB, L2.Ztf, L2.tOr, L2.Ztb, L2.ZnY, L2.ZuC, L2.Znn, L2.tIf,
 L2.Zh3,L2.tCB,L2.Zrl,L2.Zj2,My.Znv,My.Zns,L2.Ztn,My.Zon,L2.Znb,L2.Zti,My.Zdr,My.ZnQ,L2.Ztc,L2.Ztu,L2.Ztp,L2.Zrm,L2.Zs9,L2.tBM,L2.Zh8,
 List.getElem?_cons_zero,List.getElem?_cons_succ,List.set_cons_zero,List.set_cons_succ,Vk,List.cons_append,List.nil_append,Option.some.injEq,Option.some_inj,exists_eq_left,exists_eq_left',exists_eq_right,exists_eq,exists_eq',exists_and_left,exists_and_right,exists_const,
 L2.V.int.injEq,L2.V.bl.injEq,L2.V.ref.injEq,L2.V.str.injEq,L2.V.ty.injEq,L2.HO.lst.injEq,L2.HO.tup.injEq,reduceCtorEq,List.cons.injEq,and_true,true_and,and_false,false_and,exists_false,or_false,false_or,My.ZlI,My.ZlZ,Bool.not_true,Bool.not_false,decide_eq_true_eq,Bool.false_eq_true,if_true,if_false,Bool.not_eq_true',decide_eq_false_iff_not,ite_self,ge_iff_le,gt_iff_lt,My.ZuZ,My.Zu1,My.ZuY,My.Zu6,Vd,List.length_nil,Nat.zero_add,and_assoc,My.Ztq,My.Zpu,My.Zr5,My.Zk3,My.tFs,My.Zuy,My.tLm,L2.Zja,L2.Zpj,L2.Zuw,L2.Zgs,My.tDG,My.sDP,My.tDI,L2.Ztl,L2.tSl,L2.Zet,L2.Zmu,My.tXm,My.ZsD,My.Zs7,My.ZuF,My.Zf6,My.Ztw,My.ZuH,My.Zi7,My.Zi4,My.ZoO,L2.Zpt,My.Zsa,My.ZsZ,My.Zuv,My.Zus,My.Zpv,My.ZmF,My.Ztg,My.Zog,My.Zjp,L2.Zi9,My.Zsv,My.ZuD,My.Zmp,L2.ZfE,L2.Zte,L2.ZoD,L2.ZhO,L2.Zni,L2.Ztd,L2.Zty,My.Zth,My.tXE,My.tXS,My.ZpD,My.ZiQ,My.Zqr,My.ZnS,My.ZpR,My.Zn3,My.ZkO,My.ZoL,My.Zq7,My.ZsU,My.Zrp,My.ZsT,My.Zss,My.ZsO,My.Zsn,Bool.true_eq_false,Int.reduceToNat,Int.reducePow,Int.reduceLT,Int.reduceLE,Int.reduceNeg,Int.reduceAbs,Int.reduceSub,Int.reduceMul,Nat.reduceLT,Nat.reduceLeDiff,Nat.reducePow,Int.zero_add,true_or,or_true,eq_self])))
namespace My
open PySem PySem.Spec L2
open PyProof.Rows hiding St
theorem JI{N P:List Str}{sc:Scope}(a:sc.kind=.function:=by rfl)(b:sc.isCoroutine=false:=by rfl)(c:sc.isGenerator=false:=by rfl)(d:N.Nodup:=by decide +kernel)(e:N.take P.length=P:=by rfl)(f:∀ x∈P,sc.names.lookup x=some .local\/sc.names.lookup x=some .cell:=by decide +kernel)(g:∀ y∈sc.names,y.2 ≠ .free:=by decide +kernel):FnScope N P sc:=⟨a,b,c,d,e,f,g⟩
variable {k:Nat}
theorem JP{P:Program}{w:World}{K:PySem.W.Frag}{mg:Str->Option Value}{base:Heap}{x qual:Str}{st:Stmt}{f:Addr}{fd:FuncData}{N ps:List Str}{sp:Sp}(F:Fun K x qual st f fd)(S:FnScope N ps (Za st))(hb:∀ (cdv:Value) (A:Around) (outer:List Env) (s:Shared) (H:Hp) (vs:List V) (Q:VK) (E:XK),Room k (A.deeper (envOfC qual (Za st) s.heap.objs.size f cdv))->sp vs H Q E->∃ t,QB (Zjl Zx P w K mg base N qual (Za st) f cdv A outer s H E).nox (Zg st) t/\t { nx:=λ_ H'=>Q .non H',rt:=Q } (Zv N vs) H)(len:∀ vs H Q E,sp vs H Q E->vs.length=ps.length:=by intro vs H Q E h; repeat (first | (obtain⟨e,_⟩:=h; subst e; rfl) | (obtain⟨_,h⟩:=h))):FnOk P w K mg base Zx (k + 1) f fd ps sp:=okQ F S len hb
def JC(i:Nat):Stmt:=PySem.Challenge.pw_roadshare_k75_two_shires_asked.main.body.getD i (.Pass ⟨0,0,0,0⟩)
abbrev ZbP:Stmt:=JC 11
def Zii:FnScope ["thing"] ["thing"] (Za ZbP):=JI
abbrev Zar:Stmt:=JC 12
def Zan:FnScope ["one","other","larger","smaller","rest"] ["one","other"] (Za Zar):=JI
abbrev Zax:Stmt:=JC 13
def ZdL:FnScope ["one","other"] ["one","other"] (Za Zax):=JI
abbrev ZbN:Stmt:=JC 15
def Zde:FnScope ["thing","top","bottom"] ["thing"] (Za ZbN):=JI
abbrev Zbs:Stmt:=JC 16
def Zgv:FnScope ["top","bottom","divisor"] ["top","bottom"] (Za Zbs):=JI
abbrev Zb9:Stmt:=JC 18
def Zkq:FnScope ["one","other"] ["one","other"] (Za Zb9):=JI
abbrev Zb6:Stmt:=JC 20
def ZjK:FnScope ["one","other"] ["one","other"] (Za Zb6):=JI
abbrev ZbF:Stmt:=JC 21
def ZeB:FnScope ["some","bottom"] ["some"] (Za ZbF):=JI
abbrev ZaH:Stmt:=JC 22
def Za8:FnScope ["some","bottom","one"] ["some"] (Za ZaH):=JI
abbrev ZbG:Stmt:=JC 23
def ZhH:FnScope ["one","bottom"] ["one","bottom"] (Za ZbG):=JI
abbrev ZcU:Stmt:=JC 25
def ZeC:FnScope ["tree","homes","group","roads","name"] ["tree","homes","group"] (Za ZcU):=JI
abbrev Zfz:Stmt:=JC 27
def ZpK:FnScope ["tree","homes","group"] ["tree","homes","group"] (Za Zfz):=JI
abbrev ZaV:Stmt:=JC 28
def Zff:FnScope ["tree","homes"] ["tree","homes"] (Za ZaV):=JI
abbrev Zao:Stmt:=JC 37
def Zek:FnScope ["tree","homes","sharing"] ["tree","homes","sharing"] (Za Zao):=JI
abbrev Zbw:Stmt:=JC 38
def ZmO:FnScope ["tree","homes","sharing","name","left","table","road","payers","amount"] ["tree","homes","sharing"] (Za Zbw):=JI
abbrev Zbx:Stmt:=JC 35
abbrev Zdq:Stmt:=JC 47
abbrev Zb8:Stmt:=JC 44
def Zkc:FnScope ["thing"] ["thing"] (Za Zb8):=JI
abbrev Zcs:Stmt:=JC 68
def Zow:FnScope ["tree","homes","bottom","told","name","share"] ["tree","homes"] (Za Zcs):=JI
abbrev Zam:Stmt:=JC 69
def Zea:FnScope ["homes"] ["homes"] (Za Zam):=JI
abbrev ZbI:Stmt:=JC 78
def ZiA:FnScope ["thing"] ["thing"] (Za ZbI):=JI
abbrev Zca:Stmt:=JC 79
def ZfI:FnScope ["thing","many","to"] ["thing","many"] (Za Zca):=JI
abbrev Zbf:Stmt:=JC 80
def Zce:FnScope ["thing","many","road"] ["thing"] (Za Zbf):=JI
abbrev ZbK:Stmt:=JC 81
def Zct:FnScope ["roads","k","way","place"] ["roads","k"] (Za ZbK):=JI
abbrev Zaj:Stmt:=Jb (JC 82) 0
def Zee:FnScope ["self","roads"] ["self","roads"] (Za Zaj):=JI
abbrev ZaB:Stmt:=Jb (JC 82) 1
def Zgr:FnScope ["self"] ["self"] (Za ZaB):=JI
abbrev ZaL:Stmt:=Jb (JC 82) 2
def Zhb:FnScope ["self"] ["self"] (Za ZaL):=JI
abbrev Zak:Stmt:=Jb (JC 82) 3
def Zd7:FnScope ["self","k"] ["self","k"] (Za Zak):=JI
abbrev Zay:Stmt:=Jb (JC 82) 4
def ZfW:FnScope ["self","k"] ["self","k"] (Za Zay):=JI
abbrev Za4:Stmt:=Jb (JC 82) 5
def Zh9:FnScope ["self","k"] ["self","k"] (Za Za4):=JI
abbrev Zab:Stmt:=Jb (JC 82) 7
def ZcE:FnScope ["self","k"] ["self","k"] (Za Zab):=JI
abbrev Zah:Stmt:=Jb (JC 82) 8
def ZdX:FnScope ["self","k"] ["self","k"] (Za Zah):=JI
abbrev Zbg:Stmt:=JC 85
def Zf7:FnScope ["price"] ["price"] (Za Zbg):=JI
abbrev Zbl:Stmt:=JC 86
def Zhg:FnScope ["tree"] ["tree"] (Za Zbl):=JI
abbrev Zbm:Stmt:=JC 87
def Zd2:FnScope ["tree","k","road","roads"] ["tree","k","road"] (Za Zbm):=JI
abbrev ZaI:Stmt:=JC 88
def Zd9:FnScope ["tree","road"] ["tree","road"] (Za ZaI):=JI
abbrev Zag:Stmt:=Jb (JC 89) 0
def ZdJ:FnScope ["self","tree"] ["self","tree"] (Za Zag):=JI
abbrev ZaA:Stmt:=Jb (JC 89) 1
def ZfT:FnScope ["self","name","k"] ["self","name","k"] (Za ZaA):=JI
abbrev ZaW:Stmt:=Jb (JC 89) 2
def ZeX:FnScope ["self","name","places"] ["self","name"] (Za ZaW):=JI
abbrev ZaC:Stmt:=Jb (JC 89) 3
def ZgD:FnScope ["self","name","k"] ["self","name","k"] (Za ZaC):=JI
abbrev Zai:Stmt:=Jb (JC 89) 4
def Zeb:FnScope ["self","k","price"] ["self","k","price"] (Za Zai):=JI
abbrev ZaK:Stmt:=Jb (JC 89) 5
def ZbZ:FnScope ["self","k","price","whole","fresh","longer"] ["self","k","price"] (Za ZaK):=JI
abbrev Zau:Stmt:=Jb (JC 89) 6
def ZcZ:FnScope ["self","to","price","fresh"] ["self","to","price"] (Za Zau):=JI
abbrev Zaz:Stmt:=Jb (JC 89) 8
def ZfZ:FnScope ["self"] ["self"] (Za Zaz):=JI
abbrev Zas:Stmt:=Jb (JC 89) 9
def Zfn:FnScope ["self"] ["self"] (Za Zas):=JI
abbrev Zal:Stmt:=Jb (JC 89) 10
def Zcv:FnScope ["self","names","name"] ["self","names"] (Za Zal):=JI
abbrev Zap:Stmt:=Jb (JC 89) 11
def ZeJ:FnScope ["self","rule"] ["self","rule"] (Za Zap):=JI
abbrev Zav:Stmt:=Jb (JC 89) 12
def Zfk:FnScope ["self","sharing"] ["self","sharing"] (Za Zav):=JI
abbrev Zac:Stmt:=Jb (JC 89) 13
def ZcI:FnScope ["self","name"] ["self","name"] (Za Zac):=JI
abbrev Zat:Stmt:=Jb (JC 89) 14
def Zc3:FnScope ["self","name","k","places"] ["self","name","k"] (Za Zat):=JI
abbrev ZaX:Stmt:=Jb (JC 89) 15
def ZhW:FnScope ["self","land","places"] ["self","land","places"] (Za ZaX):=JI
abbrev Za1:Stmt:=JC 91
def Zfl:FnScope ["_law_script","_law_k"] ["_law_script","_law_k"] (Za Za1):=JI
abbrev Zbo:Stmt:=JC 92
def ZgN:FnScope ["_law_found"] ["_law_found"] (Za Zbo):=JI
abbrev ZaY:Stmt:=JC 93
def Zc2:FnScope ["_law_one","_law_other"] ["_law_one","_law_other"] (Za ZaY):=JI
abbrev Zcb:Stmt:=JC 94
def ZfM:FnScope ["_law_top","_law_bottom","_law_part"] ["_law_top","_law_bottom"] (Za Zcb):=JI
abbrev ZbD:Stmt:=JC 95
def ZiB:FnScope ["_law_found","_law_due"] ["_law_found","_law_due"] (Za ZbD):=JI
abbrev Za2:Stmt:=JC 96
def ZaS:FnScope ["_law_cell","_law_many","_law_found","_law_rest","_law_k","_law_one"] ["_law_cell","_law_many"] (Za Za2):=JI
abbrev ZbJ:Stmt:=JC 97
def ZaO:FnScope ["_law_k","_law_seed","_law_letters","_law_size","_law_spot","_law_word","_law_place","_law_at"] ["_law_k","_law_seed"] (Za ZbJ):=JI
abbrev ZaR:Stmt:=JC 98
def ZcM:FnScope ["_law_v","_law_wide","_law_cell","_law_top"] ["_law_v","_law_wide","_law_cell"] (Za ZaR):=JI
abbrev Zaw:Stmt:=JC 99
def Zae:FnScope ["_law_cell","_law_most","_law_xs","_law_many","_law_wide","_law_turn","_law_roads","_law_k","_law_to"] ["_law_cell","_law_most"] (Za Zaw):=JI
abbrev Zcc:Stmt:=JC 100
def ZdK:FnScope ["_law_roads","_law_k","_law_way_here"] ["_law_roads","_law_k"] (Za Zcc):=JI
abbrev ZaZ:Stmt:=JC 101
def ZaQ:FnScope ["_law_v","_law_roads","_law_homes","_law_k","_law_names","_law_way_here","_law_price","_law_at","_law_whole_here"] ["_law_v","_law_roads","_law_homes","_law_k"] (Za ZaZ):=JI
abbrev ZbB:Stmt:=JC 102
def Zbe:FnScope ["_law_deed","_law_roads","_law_homes","_law_to","_law_whole_here","_law_part","_law_rest"] ["_law_deed","_law_roads","_law_homes"] (Za ZbB):=JI
abbrev ZcQ:Stmt:=JC 103
def Zk5:FnScope ["_law_shire","_law_deed"] ["_law_shire","_law_deed"] (Za ZcQ):=JI
abbrev Zbh:Stmt:=JC 104
def Zcp:FnScope ["_law_shire","_law_roads","_law_homes","_law_tree","_law_told"] ["_law_shire","_law_roads","_law_homes"] (Za Zbh):=JI
abbrev ZbO:Stmt:=JC 105
def ZaU:FnScope ["_law_roads","_law_homes","_law_names","_law_roped","_law_name_here","_law_road","_law_total","_law_price"] ["_law_roads","_law_homes","_law_names"] (Za ZbO):=JI
abbrev Za5:Stmt:=JC 106
def Zb2:FnScope ["_law_shire","_law_what","_law_thing","e","_law_kinds"] ["_law_shire","_law_what","_law_thing"] (Za Za5):=JI
abbrev Zbk:Stmt:=JC 107
def ZaJ:FnScope ["_law_shire","_law_roads","_law_homes","_law_v","_law_names","_law_some","_law_handed","_law_odd","_law_whole_here","_law_sharing","_law_name_here"] ["_law_shire","_law_roads","_law_homes","_law_v"] (Za Zbk):=JI
abbrev ZfV:Stmt:=JC 108
def Zc1:FnScope ["_law_script","_law_first","_law_tree","_law_shires","_law_stands_here","_law_k","_law_v","_law_which","_law_deed","_law_j"] ["_law_script"] (Za ZfV):=JI
variable {H:Hp}
def Jr{c:TT}{a b:TS}{D:Ends}{Z:St}(h:∀ A:St->Hp->Prop,A=a D->∀ B:St->Hp->Prop,B=b D->c Z H λx H1=>if x=true then A Z H1 else B Z H1):ZoS c a b D Z H:=h _ rfl _ rfl
def Zq{a b:TS}{D:Ends}{Z:St}(h:∀ B:St->Hp->Prop,B=b D->a { D with nx:=B } Z H):Znj a b D Z H:=h _ rfl
def isW:V->Bool
 | .int _=>true
 | _=>false
def Th0(H:Hp)(x:V):Prop:=∃ t,Zdl H x=some t
def Zba:Sp:=λvs H Q _=>∃ x,vs=[x]/\Th0 H x/\Q (.bl (isW x)) H
def Zc5:Sp:=λvs H Q _=>∃ a b:Int,vs=[.int a,.int b]/\Q (.int (Int.gcd a b)) H
def Zmf(K:PySem.W.Frag):Sp:=λvs H Q _=>∃ (a:Addr) (ns:List Int) (k:Nat),vs=[.ref a,.int k]/\JY K H a (ns.map V.int)/\Q (.int (cellOf ns k)) H
variable {P:Program}{w:World}{K:PySem.W.Frag}{mg:Str->Option Value}{base:Heap}{f:Addr}{fd:FuncData}{CT:Addr}{CNP:Addr}{pt:Addr}{c:Addr}
variable {x:V}
def Zjg{t:String}(e:Zdl H x=some t):(isA t "int" && !isA t "bool")=isW x:=by
 unfold Zdl at e
 split at e
 ·cases e; rfl
 ·cases e; rfl
 ·cases e; rfl
 ·cases e; rfl
 ·split at e
  ·cases e; rfl
  ·cases e; rfl
  ·cases e; rfl
  ·cases e
 ·cases e
def ZhR(F:Fun K "is_whole" "is_whole" ZbP f fd)(Zm:mg "isinstance"=none)(Zka:mg "int"=none)(Zfu:mg "bool"=none) :
  FnOk P w K mg base Zx 1 f fd ["thing"] Zba:=by
 refine JP F Zii λcdv A outer s H vs Q E hr h=>?_
 obtain⟨x,rfl,⟨t,ht⟩,q⟩:=h
 refine⟨_,(Zk (Zu (Zgt (Zc6 rfl Zm (Zl (Zf 0) (Zl (Zm5 rfl Zka rfl) Zb))) (Zhw (Zs0 (Zc6 rfl Zm (Zl (Zf 0) (Zl (Zm5 rfl Zfu rfl) Zb)))))))),?_⟩
 rw [show Zv ["thing"] [x]=[some (x)] from rfl]
 rw [<- Zjg ht] at q
 refine⟨_,rfl,x,"int",t,rfl,ht,by decide,_,rfl,?_⟩
 refine JA (λc=>?_) (λc=>?_)
 ·refine⟨_,rfl,x,"bool",t,rfl,ht,by decide,_,rfl,?_⟩
  rw [c] at q
  exact q
 ·rw [Bool.eq_false_iff.mpr c] at q
  exact q
def Pg(a b:Int)(H:Hp)(Z:St)(H':Hp):Prop:=∃ (l m:Int) (r:Option V),Z=[some (.int a),some (.int b),some (.int l),some (.int m),r]/\H'=H/\0<=l/\0<=m/\Int.gcd l m=Int.gcd a b
def Zrt(F:Fun K "greatest_divisor" "greatest_divisor" Zar f fd)(Zix:mg "abs"=none) :
  FnOk P w K mg base Zx 1 f fd ["one","other"] Zc5:=by
 refine JP F Zan λcdv A outer s H vs Q E hr h=>?_
 obtain⟨a,b,rfl,q⟩:=h
 refine⟨_,(Zd (Zw 2 Zan.nd (ZpP rfl Zix (Zl (Zf 0) Zb)))
   (Zd (Zw 3 Zan.nd (ZpP rfl Zix (Zl (Zf 1) Zb)))
   (Zd (Zgj YD (Zjm (Zf 3) Zc) (Zd (Zw 4 Zan.nd (Z4 (Zf 2) (Zf 3)))
   (Zd (Zw 2 Zan.nd (Zf 3))
   (Zk (Zw 3 Zan.nd (Zf 4))))))
   (Zk (Zu (Zf 2)))))),?_⟩
 rw [show Zv ["one","other","larger","smaller","rest"] [.int a,.int b]=[some (.int a),some (.int b),none,none,none] from rfl]
 walk_at "rd"
 simp only [ZlR]
 refine ZfP (Pg a b H) (λZ _=>(Zn9 Z 3).toNat) ⟨_,_,none,rfl,rfl,by omega,by omega,ZqA a b⟩ ?_
 rintro Z H' ⟨l,m,r,rfl,rfl,hl,hm,hg⟩
 walk_at "rd"
 refine JA (λc=>?_) (λc=>?_)
 ·have hm':0 < m:=by omega
  refine⟨_,λZ' H' z=>z,hm',_,?_,rfl,m,l % m,some (.int (l % m)),rfl,rfl,hm,Yv _ (by omega),?_⟩
  ·exact Zia hm'
  ·rw [Zn2]; exact hg
 ·have e:m=0:=by omega
  subst e
  have e2:(Int.gcd a b:Int)=l:=by rw [<- hg]; simp; omega
  rw [e2] at q
  exact q
def ZpF(F:Fun K "_law_cell_at" "_law_cell_at" Za1 f fd)(ZB:mg "len"=none) :
  FnOk P w K mg base Zx 1 f fd ["_law_script","_law_k"] (Zmf K):=by
 refine JP F Zfl λcdv A outer s H vs Q E hr h=>?_
 obtain⟨a,ns,k,rfl,hS,q⟩:=h
 refine⟨_,(Zd (Ja (Zri (Zf 1) (Zpw rfl ZB (Zl (Zf 0) Zb))) (Zk (Zu (Zuh (Zf 0) (Zf 1)))) ZG)
   (Zk (Zu (Jd (JR Zc (Zf 1)) Zc)))),?_⟩
 rw [show Zv ["_law_script","_law_k"] [.ref a,.int k]=[some (.ref a),some (.int k)] from rfl]
 walk_at "rd"
 refine⟨_,.inl hS,?_⟩
 rw [Yi]
 refine JA (λc=>?_) (λc=>?_)
 ·exact⟨_,hS,_,Zqb (by omega),q⟩
 ·rw [Zot (by omega)] at q
  exact q
def ZcC(i:Int):Th0 H (.int i):=⟨"int",rfl⟩
def Jn(H:Hp)(x:V)(q:Rat):Prop:=∃ p,x=.ref p/\H p=some (.tup [.int q.num,.int (q.den:Int)])
variable {q:Rat}
theorem Jn.same{H H':Hp}(h:Jn H x q)(s:Zn H H'):Jn H' x q:=by
 obtain⟨p,e,h⟩:=h
 exact⟨p,e,s _ _ h⟩
def Big(b:Int):Prop:=b.natAbs < 2 ^ 8000
variable {n:Nat}
theorem Big.of{b:Int}(h:b.natAbs < 2 ^ n)(hn:n<=8000):Big b:=Zbc h hn
def Zel{t b:Int}(hb:0 < b):t.fdiv (Int.gcd t b:Int)=(Rat.divInt t b).num/\b.fdiv (Int.gcd t b:Int)=((Rat.divInt t b).den:Int):=by
 have e:Js t b=(Int.gcd t b:Int):=by unfold Js; rw [if_neg (by omega)]
 have h:=ZbU (t:=t) (b:=b) (by omega)
 rw [<- e,Zcm (Zbz t b),Zcm (Za7 t b)]
 exact h
def Zc8:Sp:=λvs H Q _=>∃ t b:Int,vs=[.int t,.int b]/\Big b/\0 < b/\∀ r H',Zn H H'->Jn H' r (Rat.divInt t b)->Q r H'
def Zlg{x y:V}(hx:Jn H x q)(hy:Jn H y q):∃ p c,x=.ref p/\y=.ref c/\EqD H x y true 1:=by
 obtain⟨p,rfl,hp⟩:=hx
 obtain⟨c,rfl,hc⟩:=hy
 refine⟨p,c,rfl,rfl,?_⟩
 have h:=EqD.tup (e:=λ_=>true) (n:=0) hp hc λj x y h1 h2=>by
  rw [h1] at h2
  cases h2
  match j,h1 with
  | 0,h1=>cases h1; have z:=EqD.flat (H:=H) (x:=.int q.num) (y:=.int q.num) rfl rfl; rw [ZcT rfl] at z; exact z
  | 1,h1=>cases h1; have z:=EqD.flat (H:=H) (x:=.int (q.den:Int)) (y:=.int (q.den:Int)) rfl rfl; rw [ZcT rfl] at z; exact z
 exact h
def Zcy:Sp:=λvs H Q _=>∃ t b:Int,vs=[.int t,.int b]/\Big b/\b ≠ 0/\∀ r H',Zn H H'->Jn H' r (Rat.divInt t b)->Q r H'
section
variable {P:Program}{w:World}{K:PySem.W.Frag}{mg:Str->Option Value}{base:Heap}{f:Addr}{fd:FuncData}{dV:Value}{cNF:Addr}
def Zoe(F:FunD K "ratio" "ratio" Zbs dV f fd)(Zaq:Fn P w K mg base Zx 1 "is_whole" ["thing"] Zba)(Zad:Fn P w K mg base Zx 1 "greatest_divisor" ["one","other"] Zc5) :
  FnOk P w K mg base Zx 2 f fd ["top","bottom"] Zcy:=by
 refine ZuP F Zgv (λvs H Q E h=>?_) (λcdv A outer s H vs Q E hr h=>?_)
 ·obtain⟨t,b,rfl,_⟩:=h; rfl
 obtain⟨t,b,rfl,hz,hb0,q⟩:=h
 refine⟨_,(Zd (Ja (t_w (J3 (JO (JD (JB Zaq hr (Zl (Zf 0) Zb)))) (ZdD (JO (JD (JB Zaq hr (Zl (Zf 1) Zb))))))) (Zk Zbq) ZG)
   (Zd (Ja (JX (Zf 1) Zc) (Zk Zbq) ZG)
   (Zd (Zw 2 Zgv.nd (JB Zad hr (Zl (Zf 0) (Zl (Zf 1) Zb))))
   (Zd (Ja (Zri (Zf 1) Zc) (Zk (Zw 2 Zgv.nd (ZrT (Zf 2)))) ZG)
   (Zk (Zu (Jv (Zl (Zdk (Zf 0) (Zf 2)) (Zl (Zdk (Zf 1) (Zf 2)) Zb))))))))),?_⟩
 rw [show Zv ["top","bottom","divisor"] [.int t,.int b]=[some (.int t),some (.int b),none] from rfl]
 refine Zq λB hB=>?_
 refine Jr λA hA C hC=>?_
 walk_at "rd"
 simp only [Zba]
 walk_at "rd"
 refine⟨ZcC _,?_⟩
 rw [if_neg (by simp [isW])]
 refine⟨ZcC _,?_⟩
 rw [if_neg (by simp [isW])]
 subst hC
 walk_at "rd"
 subst hB
 try dsimp only
 refine Zq λB hB=>?_
 refine Jr λA hA C hC=>?_
 walk_at "rd"
 refine JA (λc=>absurd c hb0) (λc=>?_)
 subst hC
 walk_at "rd"
 subst hB
 try dsimp only
 walk_at "rd"
 simp only [Zc5]
 walk_at "rd"
 have hne:=Ziy (t:=t) c
 have hlog:(Js t b).natAbs.log2 < 9000:=by rw [ZiN]; exact ZbC (Zbc (YN (ZfB c) hz) (by omega)) (by omega)
 have fin:∀ (p:Addr) (H2:Hp),H p=none->Zn H H2->H2 p=some (.tup [.int (t.fdiv (Js t b)),.int (b.fdiv (Js t b))])->Q (.ref p) H2:=λp H2 _ hs e=>q _ _ hs ⟨p,rfl,by
  rw [Zcm (Zbz t b),Zcm (Za7 t b),(ZbU c).1,(ZbU (t:=t) c).2] at e
  exact e⟩
 refine JA (λcb=>?_) (λcb=>?_)
 ·have e:Js t b=-(Int.gcd t b:Int):=by unfold Js; rw [if_pos cb]
  rw [e] at hne hlog fin
  exact⟨hne,hlog,hne,hlog,fin⟩
 ·have e:Js t b=(Int.gcd t b:Int):=by unfold Js; rw [if_neg cb]
  rw [e] at hne hlog fin
  exact⟨hne,hlog,hne,hlog,fin⟩
end
def num_nonneg{t b:Int}(ht:0<=t)(hb:0 < b):0<=(Rat.divInt t b).num:=by
 rw [<- (Zel hb).1]
 exact Int.fdiv_nonneg ht (by omega)
def Jy(H:Hp)(x:V)(r:Nat × Rat):Prop:=∃ p y,x=.ref p/\H p=some (.tup [.int r.1,y])/\Jn H y r.2
def ZS(H:Hp)(xs:List V)(rs:List (Nat × Rat)):Prop:=xs.length=rs.length/\∀ (i:Nat) x r,xs[i]?=some x->rs[i]?=some r->Jy H x r
def Jj(rs:List (Nat × Rat)):Prop:=∃ rank:Nat->Nat,rank 0=0/\(∀ v,rank v<=rs.length)/\∀ (k:Nat) r,rs[k]?=some r->r.1<=rs.length/\rank r.1 < rank (k + 1)
def Zpp(lo:Int)(n:Nat):List Int:=(List.range n).map λk:Nat=>lo + (k:Int)
theorem ZoJ{lo:Int}:(Zpp lo n).length=n:=by simp [Zpp]
def ZiY{lo:Int}{x:Int}(h:x∈Zpp lo n):lo<=x/\x < lo + n:=by
 obtain⟨k,hk,e⟩:=Yk.mp h
 have:=YH.mp hk
 omega
def Zfr{lo:Int}:(Zpp lo n).Nodup:=by
 refine List.Pairwise.map _ (λa b h=>?_) List.nodup_range
 intro e
 exact h (by omega)
def ZiZ{n i:Nat}(h:i < n):ixN n (i:Int)=some i:=by
 unfold ixN
 simp
 omega
def Pr(H0:Hp)(a p pn:Addr)(m c n:Int)(b:Bool)(zs:List V)(i:Nat)(Z:St)(H:Hp):Prop:=∃ (o1 o2 o3:Option V) (ts:List Int),Z=[some (.ref a),some (.int m),some (.int c),some (.int n),some (.bl b),some (.ref p),o1,o2,o3,none,none,none] /\
 Zn H0 H/\H p=some (.lst (ts.map V.int))/\H pn=some (.lst zs)/\ts.Perm (Zpp 1 n.toNat)
variable {i:Nat}
theorem Pr.at{H0:Hp}{a p pn:Addr}{m c n:Int}{b:Bool}{zs:List V}{Z:St}(h:Pr H0 a p pn m c n b zs i Z H):JY K H pn zs:=let ⟨_,_,_,_,_,_,_,e,_⟩:=h; .of e
def Ztk(H:Hp)(ts:List Int)(ys:List V)(j:Nat):Prop:=∃ (k:Nat) (x:V) (r:Nat × Rat),ts[j]?=some ((k:Int) + 1)/\ys[k]?=some x/\Jy H x r/\JN 98 r.2/\0<=r.2.num/\(r.1=0\/∃ j',j' < j/\ts[j']?=some (r.1:Int))
def Pq(H0:Hp)(a p acc pp pn:Addr)(m c n:Int)(b:Bool)(ts ps:List Int)(zs:List V)(i:Nat)(Z:St)(H:Hp):Prop:=∃ (o1 o2 o3 o4:Option V) (ys:List V),Z=[some (.ref a),some (.int m),some (.int c),some (.int n),some (.bl b),some (.ref p),o1,o2,o3,some (.ref acc),some (.ref pp),o4] /\
 Zn H0 H/\H p=some (.lst (ts.map V.int))/\H pp=some (.lst (ps.map V.int))/\H pn=some (.lst zs)/\H acc=some (.lst ys)/\(ys.length:Int)=n/\∀ j,j < i->Ztk H ts ys j
theorem Pq.at{H0:Hp}{a p acc pp pn:Addr}{m c n:Int}{b:Bool}{ts ps:List Int}{zs:List V}{Z:St}(h:Pq H0 a p acc pp pn m c n b ts ps zs i Z H):JY K H pn zs:=let ⟨_,_,_,_,_,_,_,_,_,e,_⟩:=h; .of e
variable {r:Nat × Rat}
theorem Jy.same{H H':Hp}(h:Jy H x r)(s:Zn H H'):Jy H' x r:=let ⟨p,y,e,h1,h2⟩:=h; ⟨p,y,e,s _ _ h1,h2.same s⟩
theorem Jy.upd{l:Addr}{ys:List V}{o:HO}(h:Jy H x r)(hl:H l=some (.lst ys)):Jy (upd H l o) x r:=by
 obtain⟨p,y,e,h1,z,e2,h3⟩:=h
 exact⟨p,y,e,by rw [Zj (JJ h1 hl (by intro z; cases z))]; exact h1,z,e2,by rw [Zj (JJ h3 hl (by intro z; cases z))]; exact h3⟩
variable {α:Type}
def Zh2[Inhabited α]{n:Nat}{P:Nat->α->Prop}(h:∀ k,k < n->∃ r,P k r):∃ rs:List α,rs.length=n/\∀ (k:Nat) r,rs[k]?=some r->P k r:=by
 induction n with
 | zero=>exact⟨[],rfl,λk r e=>by simp at e⟩
 | succ n ih =>
  obtain⟨rs,hl,hr⟩:=ih λk hk=>h k (by omega)
  obtain⟨r0,h0⟩:=h n (by omega)
  refine⟨rs ++ [r0],by simp [hl],λk r e=>?_⟩
  by_cases hk:k < rs.length
  ·rw [YK hk] at e; exact hr k r e
  ·rw [YI (by omega)] at e
   have hk2:k=n:=by
    have:=(Yf.mp e).1
    simp at this; omega
   subst hk2
   simp [hl] at e
   rw [<- e]; exact h0
open Classical in
noncomputable def rankOf(ts:List Int)(v:Nat):Nat:=if h:∃ j:Nat,ts[j]?=some (v:Int) then h.choose + 1 else 0
def ZhZ{ts:List Int}(hnd:ts.Nodup){j v:Nat}(h:ts[j]?=some (v:Int)):rankOf ts v=j + 1:=by
 have hh:∃ j:Nat,ts[j]?=some (v:Int):=⟨j,h⟩
 unfold rankOf
 rw [dif_pos hh]
 have e:=hh.choose_spec
 have:=(List.getElem?_inj (Yf.mp e).1 hnd).mp (e.trans h.symm)
 omega
def Zp6{ts:List Int}{v:Nat}:rankOf ts v<=ts.length:=by
 unfold rankOf
 split
 ·rename_i hh
  exact (Yf.mp hh.choose_spec).1
 ·exact YA _
def ZiV{lo:Int}(h:k < n):lo + (k:Int)∈Zpp lo n:=Yk.mpr ⟨k,YH.mpr h,rfl⟩
def ZoN{ts:List Int}{ys:List V}(hpm:ts.Perm (Zpp 1 n))(hy:ys.length=n)(h:∀ j,j < n->Ztk H ts ys j):∃ rs:List (Nat × Rat),ZS H ys rs/\Jj rs/\rs.length=n/\∀ r∈rs,JN 98 r.2/\0<=r.2.num:=by
 have hl:ts.length=n:=by rw [hpm.length_eq,ZoJ]
 have hnd:ts.Nodup:=hpm.nodup_iff.mpr Zfr
 have hbd:∀ x∈ts,1<=x/\x<=n:=λx hx=>by have:=ZiY (hpm.mem_iff.mp hx); omega
 obtain⟨rs,hrl,hr⟩:=Zh2 (α:=Nat × Rat) (n:=n) (P:=λk r=>∃ x,ys[k]?=some x/\Jy H x r/\JN 98 r.2/\0<=r.2.num/\∃ j,ts[j]?=some (((k + 1:Nat)):Int)/\(r.1=0\/∃ j',j' < j/\ts[j']?=some (r.1:Int))) λk hk=>by
  have hm:(1:Int) + (k:Int)∈ts:=hpm.mem_iff.mpr (ZiV hk)
  obtain⟨j,hj⟩:=Y2 hm
  obtain⟨k',x,r,g1,g2,g3,g4,g5,g6⟩:=h j (by rw [<- hl]; exact (Yf.mp hj).1)
  have hkk:k'=k:=by rw [hj] at g1; have:=YW g1; omega
  subst hkk
  exact⟨r,x,g2,g3,g4,g5,j,by rw [g1]; simp,g6⟩
 have rz:rankOf ts 0=0:=by
  unfold rankOf
  rw [dif_neg λ⟨j,hj⟩=>by have:=hbd _ (List.mem_of_getElem? hj); simp at this]
 refine⟨rs,⟨by omega,λi x r h1 h2=>?_⟩,⟨rankOf ts,rz,λv=>by rw [hrl,<- hl]; exact Zp6,λk r h1=>?_⟩,hrl,λr hm=>?_⟩
 ·obtain⟨x',g,g2,_⟩:=hr i r h2
  rw [h1] at g
  cases g
  exact g2
 ·obtain⟨x',_,_,_,_,j,hj,hc⟩:=hr k r h1
  rcases hc with z | ⟨j',hlt,hj'⟩
  ·exact⟨by omega,by rw [z,rz,ZhZ hnd hj]; omega⟩
  ·have:=hbd _ (Yz hj')
   exact⟨by omega,by rw [ZhZ hnd hj',ZhZ hnd hj]; omega⟩
 ·obtain⟨k,hk⟩:=Y2 hm
  obtain⟨_,_,_,g4,g5,_⟩:=hr k r hk
  exact⟨g4,g5⟩
theorem cxK{CX:CXT}{N:List Str}{qual:Str}{scope:Scope}{cd:Value}{A:Around}{outer:List Env}{s:Shared}{E:XK}:(Zjl CX P w K mg base N qual scope f cd A outer s H E).K=K:=rfl
inductive WayR (rs:List (Nat × Rat)):Nat->List Nat->Prop where
 | nil:WayR rs 0 []
 | cons {k:Nat}{r:Nat × Rat}{w:List Nat}(h:rs[k]?=some r) (hw:WayR rs r.1 w):WayR rs (k + 1) ((k + 1) :: w)
variable {rs:List (Nat × Rat)}
def WayR.uniq{w:List Nat}(h:WayR rs k w):∀ {w':List Nat},WayR rs k w'->w'=w:=by
 induction h with
 | nil=>intro w' h'; cases h'; rfl
 | cons h _ ih =>
  intro w' h'
  cases h' with
  | cons h2 hw2 =>
   rw [h] at h2
   cases h2
   rw [ih hw2]
def ZfO(T:Jj rs){k:Nat}(hk:k<=rs.length):∃ w,WayR rs k w/\w.length<=rs.length:=by
 obtain⟨rank,r0,hb,hr⟩:=T
 have key:∀ m k,k<=rs.length->rank k<=m->∃ w,WayR rs k w/\w.length<=rank k:=by
  intro m
  induction m with
  | zero =>
   intro k hk hm
   cases k with
   | zero=>exact⟨[],.nil,YA _⟩
   | succ j =>
    have h2:=(hr j _ (Yc (l:=rs) (i:=j) (by omega))).2
    omega
  | succ m ih =>
   intro k hk hm
   cases k with
   | zero=>exact⟨[],.nil,YA _⟩
   | succ j =>
    have e:=Yc (l:=rs) (i:=j) (by omega)
    obtain⟨h1,h2⟩:=hr j _ e
    obtain⟨w,hw,hl⟩:=ih rs[j].1 h1 (by omega)
    exact⟨(j + 1) :: w,.cons e hw,by simp; omega⟩
 obtain⟨w,hw,hl⟩:=key _ k hk (Yd _)
 exact⟨w,hw,Yj hl (hb k)⟩
theorem WayR.mem{w:List Nat}(h:WayR rs k w):∀ x∈w,1<=x/\x<=rs.length:=by
 induction h with
 | nil=>intro x hx; cases hx
 | cons h _ ih =>
  intro x hx
  rcases Yl.mp hx with z | z
  ·have:=(Yf.mp h).1
   omega
  ·exact ih x z
open Classical in
noncomputable def wayM(rs:List (Nat × Rat))(k:Nat):Nat:=if h:∃ w,WayR rs k w then h.choose.length else 0
def ZfU{w:List Nat}(h:WayR rs k w):wayM rs k=w.length:=by
 have hh:∃ w,WayR rs k w:=⟨w,h⟩
 unfold wayM
 rw [dif_pos hh,h.uniq hh.choose_spec]
def JG(w:List Nat):List V:=w.map λk:Nat=>V.int (k:Int)
theorem WayR.zero{w:List Nat}(h:WayR rs 0 w):w=[]:=by cases h; rfl
def PrP(H:Hp)(x:V):Prop:=∃ a t b,x=.ref a/\H a=some (.tup [.int t,.int b])/\1<=b/\Int.gcd t b=1/\0<=t
def RdP(H:Hp)(x:V)(n:Int):Prop:=∃ a t y,x=.ref a/\H a=some (.tup [.int t,y])/\0<=t/\t < n/\PrP H y
def Zrc:Sp:=λvs H Q _=>∃ x,vs=[x]/\PrP H x/\Q (.bl true) H
def ZcR:Sp:=λvs H Q _=>∃ x,vs=[x]/\PrP H x/\Q (.bl true) H
def Ze5:Sp:=λvs H Q _=>∃ x n,vs=[x,.int n]/\RdP H x n/\Q (.bl true) H
def Zin(F:Fun K "is_ratio" "is_ratio" ZbN f fd)(Zm:mg "isinstance"=none)(Zcr:mg "tuple"=none)(ZB:mg "len"=none)
  (Zaq:Fn P w K mg base Zx 1 "is_whole" ["thing"] Zba) (Zad:Fn P w K mg base Zx 1 "greatest_divisor" ["one","other"] Zc5) :
  FnOk P w K mg base Zx 2 f fd ["thing"] Zrc:=by
 refine JP F Zde λcdv A outer s H vs Q E hr h=>?_
 obtain⟨x,rfl,⟨a,t,b,rfl,ha,h1,h2,h3⟩,q⟩:=h
 refine⟨_,(Zd (Ja (t_w (J3 (JO (JD (Zc6 rfl Zm (Zl (Zf 0) (Zl (Zm5 rfl Zcr rfl) Zb))))) (ZdD (Zjm (JE rfl ZB (Zl (Zf 0) Zb)) Zc)))) (Zk (Zu Zh5)) ZG)
   (Zd (Zw 1 Zde.nd (Zr (Zf 0) Zc))
   (Zd (Zw 2 Zde.nd (Zr (Zf 0) Zc))
   (Zd (Ja (t_w (J3 (JO (JD (JB Zaq hr (Zl (Zf 1) Zb)))) (ZdD (JO (JD (JB Zaq hr (Zl (Zf 2) Zb))))))) (Zk (Zu Zh5)) ZG)
   (Zk (Zu (Zgt (Zut (Zf 2) Zc) (Zhw (Zui (JB Zad hr (Zl (Zf 1) (Zl (Zf 2) Zb))) Zc))))))))),?_⟩
 rw [show Zv ["thing","top","bottom"] [.ref a]=[some (.ref a),none,none] from rfl]
 refine Zq λB hB=>?_
 refine Jr λA hA C hC=>?_
 walk_at "rd"
 simp only [Zgu ha,ha]
 walk_at "rd"
 rw [if_neg (by decide)]
 subst hC
 walk_at "rd"
 subst hB
 try dsimp only
 refine Zq λB hB=>?_
 walk_at "rd"
 refine⟨_,ha,_,rfl,?_⟩
 subst hB
 try dsimp only
 refine Zq λB hB=>?_
 walk_at "rd"
 refine⟨_,ha,_,rfl,?_⟩
 subst hB
 try dsimp only
 refine Zq λB hB=>?_
 refine Jr λA hA C hC=>?_
 walk_at "rd"
 simp only [Zba]
 walk_at "rd"
 refine⟨ZcC _,?_⟩
 rw [if_neg (show ¬ isW (V.int t)=false from nofun)]
 refine⟨ZcC _,?_⟩
 rw [if_neg (show ¬ isW (V.int b)=false from nofun)]
 subst hC
 walk_at "rd"
 subst hB
 try dsimp only
 walk_at "rd"
 simp only [Zc5]
 walk_at "rd"
 rw [if_pos h1,h2]
 exact q
def Zh6(F:Fun K "is_price" "is_price" ZbI f fd)(ZdS:Fn P w K mg base Zx 2 "is_ratio" ["thing"] Zrc):FnOk P w K mg base Zx 3 f fd ["thing"] ZcR:=by
 refine JP F ZiA λcdv A outer s H vs Q E hr h=>?_
 obtain⟨x,rfl,⟨a,t,b,rfl,ha,h1,h2,h3⟩,q⟩:=h
 refine⟨_,(Zk (Zu (Zgt (JB ZdS hr (Zl (Zf 0) Zb)) (Zhw (Zut (Zr (Zf 0) Zc) Zc))))),?_⟩
 rw [show Zv ["thing"] [.ref a]=[some (.ref a)] from rfl]
 walk_at "rd"
 simp only [Zrc,ha]
 walk_at "rd"
 rw [YJ h3]
 exact⟨⟨a,t,b,rfl,ha,h1,h2,h3⟩,q⟩
def ZjQ(F:Fun K "is_road" "is_road" Zca f fd)(Zm:mg "isinstance"=none)(Zcr:mg "tuple"=none)(ZB:mg "len"=none)(Zaq:Fn P w K mg base Zx 1 "is_whole" ["thing"] Zba)
  (ZbH:Fn P w K mg base Zx 3 "is_price" ["thing"] ZcR):FnOk P w K mg base Zx 4 f fd ["thing","many"] Ze5:=by
 refine JP F ZfI λcdv A outer s H vs Q E hr h=>?_
 obtain⟨x,n,rfl,⟨a,t,y,rfl,ha,h1,h2,hp⟩,q⟩:=h
 refine⟨_,(Zd (Ja (t_w (J3 (JO (JD (Zc6 rfl Zm (Zl (Zf 0) (Zl (Zm5 rfl Zcr rfl) Zb))))) (ZdD (Zjm (JE rfl ZB (Zl (Zf 0) Zb)) Zc)))) (Zk (Zu Zh5)) ZG)
   (Zd (Zw 2 ZfI.nd (Zr (Zf 0) Zc))
   (Zk (Zu (Zgt (JB Zaq hr (Zl (Zf 2) Zb)) (Zgt (ZsH Zc (Zf 2) (Zf 1)) (Zhw (JB ZbH hr (Zl (Zr (Zf 0) Zc) Zb))))))))),?_⟩
 rw [show Zv ["thing","many","to"] [.ref a,.int n]=[some (.ref a),some (.int n),none] from rfl]
 refine Zq λB hB=>?_
 refine Jr λA hA C hC=>?_
 walk_at "rd"
 simp only [Zgu ha,ha]
 walk_at "rd"
 rw [if_neg (by decide)]
 subst hC
 walk_at "rd"
 subst hB
 try dsimp only
 refine Zq λB hB=>?_
 walk_at "rd"
 refine⟨_,ha,_,rfl,?_⟩
 subst hB
 try dsimp only
 walk_at "rd"
 simp only [Zba,ZcR,ha]
 walk_at "rd"
 refine⟨ZcC _,?_⟩
 rw [if_pos (show isW (V.int t)=true from rfl),if_pos h1,if_pos h2]
 exact⟨hp,q⟩
def ZhJ:Sp:=λvs H Q _=>∃ (a:Addr) (xs:List V),vs=[.ref a]/\H a=some (.lst xs)/\xs.length<=40/\(∀ x∈xs,RdP H x (xs.length + 1))/\Q .non H
def Zlo:Sp:=λvs H Q _=>∃ (a:Addr) (xs:List V) (rs:List (Nat × Rat)) (k:Nat) (w:List Nat),vs=[.ref a,.int k]/\H a=some (.lst xs)/\ZS H xs rs/\WayR rs k w/\w.length<=rs.length/\rs.length<=40/\k<=rs.length/\(∀ r∈rs,r.1<=rs.length) /\
 ∀ p H',H p=none->Zn H H'->H' p=some (.lst (JG w))->Q (.ref p) H'
def Plk(H0:Hp)(a:Addr)(n:Nat)(i:Nat)(Z:St)(H:Hp):Prop:=∃ o,Z=[some (.ref a),some (.int ((n:Int) + 1)),o]/\H=H0
def ZpQ{tk:Tok}(F:Fun K "look_roads" "look_roads" Zbf f fd)(Zm:mg "isinstance"=none)(Jg:mg "list"=none)(ZB:mg "len"=none)(g_MOST_ROADS:mg "MOST_ROADS"=some (.int 40 tk))
  (Zey:Fn P w K mg base Zx 4 "is_road" ["thing","many"] Ze5):FnOk P w K mg base Zx 5 f fd ["thing"] ZhJ:=by
 refine JP F Zce λcdv A outer s H vs Q E hr h=>?_
 obtain⟨a,xs,rfl,ha,hl,hx,q⟩:=h
 refine⟨_,(Zd (Ja (JO (JD (Zc6 rfl Zm (Zl (Zf 0) (Zl (Zm5 rfl Jg rfl) Zb))))) (Zk Zbq) ZG)
   (Zd (Ja (ZpB (JE rfl ZB (Zl (Zf 0) Zb)) (Zft rfl g_MOST_ROADS)) (Zk Zbq) ZG)
   (Zd (Zw 1 Zce.nd (Jd (JE rfl ZB (Zl (Zf 0) Zb)) Zc))
   (Zk (ZdW YD (Zdu (Zf 0)) (Jq 2 Zce.nd) (Zk (Ja (JO (JD (JB Zey hr (Zl (Zf 2) (Zl (Zf 1) Zb))))) (Zk Zbq) ZG))))))),?_⟩
 rw [show Zv ["thing","many","road"] [.ref a]=[some (.ref a),none,none] from rfl]
 refine Zq λB hB=>?_
 refine Jr λA hA C hC=>?_
 walk_at "rd"
 simp only [ZnZ ha]
 walk_at "rd"
 subst hC
 walk_at "rd"
 subst hB
 try dsimp only
 refine Zq λB hB=>?_
 refine Jr λA hA C hC=>?_
 walk_at "rd"
 refine⟨xs,.inl ha,?_⟩
 rw [if_neg (by omega)]
 subst hC
 walk_at "rd"
 subst hB
 try dsimp only
 refine Zq λB hB=>?_
 walk_at "rd"
 refine⟨xs,.inl ha,?_⟩
 subst hB
 try dsimp only
 simp only [Zb7]
 walk_at "rd"
 refine ZcV (Plk H a xs.length) ⟨_,rfl,rfl⟩ (λi Z H' _ ⟨o,_,e⟩=>by rw [e]; exact .of ha) (λi x Z H' hi hP=>?_) (λZ H' hP=>?_)
 ·obtain⟨o,rfl,rfl⟩:=hP
  walk_at "rd"
  simp only [Ze5]
  walk_at "rd"
  exact⟨hx x (Yz hi),_,rfl,rfl⟩
 ·obtain⟨o,rfl,rfl⟩:=hP
  exact q
def Pwf(H0:Hp)(a p:Addr)(k0:Nat)(rs:List (Nat × Rat))(w0:List Nat)(Z:St)(H:Hp):Prop:=∃ (k:Nat) (pre w:List Nat),Z=[some (.ref a),some (.int k0),some (.ref p),some (.int k)]/\Zn H0 H/\H p=some (.lst (JG pre))/\WayR rs k w/\w0=pre ++ w
def Zqh(F:Fun K "way_from" "way_from" ZbK f fd)(ZB:mg "len"=none):FnOk P w K mg base Zx 1 f fd ["roads","k"] Zlo:=by
 refine JP F Zct λcdv A outer s H vs Q E hr h=>?_
 obtain⟨a,xs,rs,k0,w0,rfl,ha,hR,hw0,hwl,hrl,_,_,q⟩:=h
 refine⟨_,(Zd (Zw 2 Zct.nd (Jz Zb))
   (Zd (Zw 3 Zct.nd (Zf 1))
   (Zd (Zgj YD (Zjm (Zf 3) Zc) (Zd (Ja (JX (JE rfl ZB (Zl (Zf 2) Zb)) (JE rfl ZB (Zl (Zf 0) Zb))) (Zk Zbq) ZG)
   (Zd (ZR (Zim (Zf 2) (Zl (Zf 3) Zb)))
   (Zk (Zw 3 Zct.nd (Zr (ZT (Zf 0) (JS (Zf 3) Zc)) Zc))))))
   (Zk (Zu (Zf 2)))))),?_⟩
 rw [show Zv ["roads","k","way","place"] [.ref a,.int k0]=[some (.ref a),some (.int k0),none,none] from rfl]
 walk_at "rd"
 intro p H1 hp s1 e1
 refine ZfP (Pwf H a p k0 rs w0) (λZ _=>wayM rs (Zn9 Z 3).toNat) ⟨k0,[],w0,rfl,s1,e1,hw0,rfl⟩ ?_
 rintro Z H2 ⟨k,pre,w,rfl,s2,e2,hw,hw1⟩
 walk_at "rd"
 have hap:a ≠ p:=λz=>by rw [z,hp] at ha; cases ha
 refine JA (λhc=>?_) (λhc=>?_)
 ·cases hw with
  | nil=>exact absurd rfl hc
  | @cons k r w h hw' =>
   have hkl:k < rs.length:=(Yf.mp h).1
   have hkx:k < xs.length:=by rw [hR.1]; exact hkl
   obtain⟨pr,y,ex,hpr,hy⟩:=hR.2 k _ r (Yc hkx) h
   have hrp:pr ≠ p:=λz=>by rw [z,hp] at hpr; cases hpr
   have hpl:pre.length < rs.length:=by
    have:=congrArg List.length hw1
    simp at this
    omega
   have hlen:(JG pre).length < 1000000:=by simp [JG]; omega
   simp only [e2,s2 _ _ ha]
   walk_at "rd"
   refine⟨λZ' H'=>Z'=[some (.ref a),some (.int k0),some (.ref p),some (.int r.1)]/\Pwf H a p k0 rs w0 Z' H',λZ' H' ⟨e,hP⟩=>⟨_,?_,rfl,hP⟩,?_⟩
   ·subst e
    show wayM rs ((r.1:Nat):Int).toNat < wayM rs (((k + 1:Nat)):Int).toNat
    rw [Vb,Vb,ZfU hw',ZfU (.cons h hw')]
    simp
   rw [if_neg (by have:=hR.1; simp [JG]; omega)]
   refine⟨hlen,xs,by rw [Zj hap]; exact s2 _ _ ha,xs[k],?_,pr,ex,_,by rw [Zj hrp]; exact s2 _ _ hpr,_,rfl,rfl,?_⟩
   ·rw [show (((k + 1:Nat)):Int) - 1=(k:Int) by omega]
    exact ZY (Yc hkx)
   ·exact⟨r.1,pre ++ [k + 1],w,rfl,ZE hp s2,by rw [Zi]; simp [JG],hw',by simp [hw1]⟩
 ·have hk0:k=0:=by omega
  subst hk0
  have e:=hw.zero
  subst e
  rw [Vk] at hw1
  subst hw1
  exact q p H2 hp s2 e2
theorem Jn.keep{H H':Hp}(h:Jn H x q)(s:∀ b ys,H b=some (.tup ys)->H' b=some (.tup ys)):Jn H' x q:=let ⟨p,e,h1⟩:=h; ⟨p,e,s _ _ h1⟩
theorem Jy.keep{H H':Hp}(h:Jy H x r)(s:∀ b ys,H b=some (.tup ys)->H' b=some (.tup ys)):Jy H' x r:=let ⟨p,y,e,h1,h2⟩:=h; ⟨p,y,e,s _ _ h1,h2.keep s⟩
variable {xs:List V}
theorem ZS.keep{H H':Hp}(h:ZS H xs rs)(s:∀ b ys,H b=some (.tup ys)->H' b=some (.tup ys)):ZS H' xs rs:=⟨h.1,λi x r h1 h2=>(h.2 i x r h1 h2).keep s⟩
theorem ZS.same{H H':Hp}(h:ZS H xs rs)(s:Zn H H'):ZS H' xs rs:=h.keep λb ys=>s b _
def ZtT(H:Hp)(ws:List V)(rs:List (Nat × Rat)):Prop:=ws.length=rs.length + 1/\∀ (k:Nat) x,ws[k]?=some x->∃ p w,x=.ref p/\H p=some (.lst (JG w))/\WayR rs k w/\w.length<=rs.length
def ZO(C:Addr)(H:Hp)(x:V)(rs:List (Nat × Rat)):Prop:=∃ a dx la wa ls ws,x=.ref a/\H a=some (.ins C dx [("lanes",.ref la),("ways",.ref wa)])/\H la=some (.lst ls)/\ZS H ls rs/\H wa=some (.lst ws)/\ZtT H ws rs
theorem ZO.same{C:Addr}{H H':Hp}(h:ZO C H x rs)(s:Zn H H'):ZO C H' x rs:=by
 obtain⟨a,dx,la,wa,ls,ws,e,h1,h2,h3,h4,h5,h6⟩:=h
 exact⟨a,dx,la,wa,ls,ws,e,s _ _ h1,s _ _ h2,h3.same s,s _ _ h4,h5,λk x hx=>let ⟨p,w,e,g1,g2⟩:=h6 k x hx; ⟨p,w,e,s _ _ g1,g2⟩⟩
def ZjU{n:Int}(h:Jy H x r)(h1:(r.1:Int) < n)(h2:0<=r.2.num):RdP H x n:=by
 obtain⟨p,y,rfl,hp,q,rfl,hq⟩:=h
 have hg:Int.gcd r.2.num (r.2.den:Int)=1:=by
  show Nat.gcd r.2.num.natAbs (Int.natAbs (r.2.den:Int))=1
  rw [Int.natAbs_natCast]
  exact r.2.reduced
 have hd:1<=(r.2.den:Int):=by have:=r.2.den_pos; omega
 exact⟨p,_,_,rfl,hp,by omega,h1,q,_,_,rfl,hq,hd,hg,h2⟩
def ZeI(C:Addr):Sp:=λvs H Q _=>∃ (x dx a:Addr) (xs:List V) (rs:List (Nat × Rat)),vs=[.ref x,.ref a]/\H x=some (.ins C dx [])/\H a=some (.lst xs)/\ZS H xs rs/\Jj rs/\rs.length<=40/\(∀ r∈rs,0<=r.2.num) /\
 ∀ H',(∀ b o,b ≠ x->H b=some o->H' b=some o)->ZO C H' (.ref x) rs->(∀ l zs,H l=some (.lst zs)->∀ H'',Zn H' H''->∀ ys,ZO C (upd H'' l (.lst ys)) (.ref x) rs)->Q .non H'
def ZqN(F:Fun K "__init__" "Tree.__init__" Zaj f fd)(Jg:mg "list"=none)(ZB:mg "len"=none)(Jk:mg "range"=none)(ZI:Cls K CT)(Zbb:ZJ K CT "lanes")(Zcn:ZJ K CT "ways")
  (ZcO:Fn P w K mg base Zx 5 "look_roads" ["thing"] ZhJ) (ZdU:Fn P w K mg base Zx 1 "way_from" ["roads","k"] Zlo):FnOk P w K mg base Zx 6 f fd ["self","roads"] (ZeI CT):=by
 refine JP F Zee λcdv A outer s H vs Q E hr h=>?_
 obtain⟨x,dx,a,xs,rs,rfl,hx,ha,hR,hT,hl,hn,q⟩:=h
 refine⟨_,(Zd (ZR (JB ZcO hr (Zl (Zf 1) Zb)))
   (Zd (ZiF (Zf 0) (ZfL rfl Jg (Zl (Zf 1) Zb)))
   (Zk (ZiF (Zf 0) (ZiU (Ztt ["k"] [1] ["roads"]) (Zfo rfl Jk (Zl (Jd (JE rfl ZB (Zl (Zf 1) Zb)) Zc) Zb)) (by exact λs H fp=>(Jq 0 (show List.Nodup (["k","roads"]:List Str) from by decide +kernel))) (by exact λs H fp=>(JB ZdU hr (Zl (Zf 1) (Zl (Zf 0) Zb))))))))),?_⟩
 rw [show Zv ["self","roads"] [.ref x,.ref a]=[some (.ref x),some (.ref a)] from rfl]
 walk_at "rd"
 simp only [ZhJ,Zkh]
 walk_at "rd"
 refine⟨xs,ha,by rw [hR.1]; exact hl,λy hy=>?_,xs,.inl (.of ha),λl H1 hl1 s1 e1=>?_⟩
 ·obtain⟨i,hi⟩:=Y2 hy
  have hi':i < rs.length:=by rw [<- hR.1]; exact (Yf.mp hi).1
  obtain⟨_,_,_,hT2⟩:=hT
  have h2:=hT2 i _ (Yc hi')
  exact ZjU (hR.2 i y _ hi (Yc hi')) (by rw [hR.1]; omega) (hn _ (Yx hi'))
 refine⟨CT,dx,[],s1 _ _ hx,ZI,Zbb,by decide,?_⟩
 have hax:a ≠ x:=JJ ha hx (by intro z; cases z)
 rw [show JV (Str.ofString "lanes") (.ref l) []=[(Str.ofString "lanes",V.ref l)] from rfl]
 have k1:∀ b o,b ≠ x->H b=some o->upd H1 x (.ins CT dx [(Str.ofString "lanes",V.ref l)]) b=some o:=λb o hb e=>by rw [Zj hb]; exact s1 _ _ e
 have ha2:upd H1 x (.ins CT dx [(Str.ofString "lanes",V.ref l)]) a=some (.lst xs):=k1 _ _ hax ha
 have hl2:upd H1 x (.ins CT dx [(Str.ofString "lanes",V.ref l)]) l=some (.lst xs):=by rw [Zj (JJ e1 (s1 _ _ hx) (by intro z; cases z))]; exact e1
 have hx2:upd H1 x (.ins CT dx [(Str.ofString "lanes",V.ref l)]) x=some (.ins CT dx [(Str.ofString "lanes",V.ref l)]):=Zi
 generalize upd H1 x (.ins CT dx [(Str.ofString "lanes",V.ref l)])=H2 at k1 ha2 hl2 hx2 ⊢
 simp only [ZgA,Zkl,cxK]
 walk_at "rd"
 have hxl:=hR.1
 have hto:∀ r∈rs,r.1<=rs.length:=λr hr=>by
  obtain⟨_,_,_,g⟩:=id hT
  obtain⟨i,hi⟩:=Y2 hr
  exact (g i r hi).1
 refine⟨xs,.inl ha2,by omega,by omega,?_⟩
 rw [show JU [some (V.ref x),some (V.ref a)] [1]=[some (V.ref a)] from rfl]
 have tk:∀ H3,Zn H2 H3->ZS H3 xs rs:=λH3 sm=>hR.keep λb ys e=>sm _ _ (k1 b _ (JJ e hx (by intro z; cases z)) e)
 refine ZmB (λacc i ys H'=>Zn H2 H'/\H' acc=some (.lst ys)/\ys.length=i/\i<=50/\∀ (k:Nat) y,ys[k]?=some y->∃ p w,y=.ref p/\p ≠ acc/\H2 p=none/\H' p=some (.lst (JG w))/\WayR rs k w/\w.length<=rs.length)
  (λacc H3 hn sm e=>⟨sm,e,rfl,by omega,λk y hy=>by simp at hy⟩) (λacc i ys H3 ⟨_,e,hl,hi,_⟩=>⟨e,by omega⟩) (λacc i ys H3 os hn hi hP ol=>?_) (λacc ys H3 hn' hP=>?_)
 ·obtain⟨sm,e,hyl,hi2,hE⟩:=hP
  obtain⟨o,rfl⟩:∃ o,os=[o]:=by match os,ol with | [o],_=>exact⟨o,rfl⟩
  obtain⟨w,hw,hwl⟩:=ZfO hT (k:=i) (by omega)
  walk_at "rd"
  refine⟨[some (.int (i:Int))],rfl,rfl,?_⟩
  refine⟨a,xs,rs,i,w,rfl,sm _ _ ha2,tk _ sm,hw,hwl,by omega,by omega,hto,λp' H4 hp' s4 e4=>⟨s4 _ _ e,ZE hn (sm.trans s4),Zi,by simp [hyl],by omega,λk y hy=>?_⟩⟩
  by_cases hk:k < ys.length
  ·rw [YK hk] at hy
   obtain⟨p,w,e5,hpa,hpn,e6,e7⟩:=hE k y hy
   exact⟨p,e5,hpa,hpn,w,by rw [Zj hpa]; exact s4 _ _ e6,e7⟩
  ·have hk2:k=i:=by
    have:=(Yf.mp hy).1
    simp at this; omega
   subst hk2
   rw [YI (by omega),hyl] at hy
   have hy':V.ref p'=y:=by simpa using hy
   subst hy'
   have hpa:p' ≠ acc:=λz=>by rw [z,e] at hp'; cases hp'
   exact⟨p',rfl,hpa,sm.free hp',w,by rw [Zj hpa]; exact e4,hw,hwl⟩
 ·obtain⟨sm,e,hyl,hi2,hE⟩:=hP
  have nx:∀ b ys,H3 b=some (.lst ys)->b ≠ x:=λb ys e=>JJ e (sm _ _ hx2) (by intro z; cases z)
  have gen:∀ H5:Hp,H5 x=some (.ins CT dx [("lanes",.ref l),("ways",.ref acc)])->H5 l=some (.lst xs)->H5 acc=some (.lst ys)->(∀ p w,H2 p=none->H3 p=some (.lst (JG w))->H5 p=some (.lst (JG w)))->(∀ b zs,H3 b=some (.tup zs)->H5 b=some (.tup zs))->ZO CT H5 (.ref x) rs:=by
   intro H5 g1 g2 g3 g4 g5
   refine⟨x,dx,l,acc,xs,ys,rfl,g1,g2,(tk _ sm).keep g5,g3,by omega,λk y hy=>?_⟩
   obtain⟨p,w,e5,_,hpn,e6,e7⟩:=hE k y hy
   exact⟨p,w,e5,g4 _ _ hpn e6,e7⟩
  refine⟨CT,dx,_,sm _ _ hx2,ZI,Zcn,by show (1:Nat) < 1000; decide,q _ (λb o hb e=>by rw [Zj hb]; exact sm _ _ (k1 b o hb e)) ?_ (λl0 zs h0 H'' s'' us=>?_)⟩
  ·exact gen _ Zi (by rw [Zj (nx _ _ (sm _ _ hl2))]; exact sm _ _ hl2) (by rw [Zj (nx _ _ e)]; exact e) (λp w _ h=>by rw [Zj (nx _ _ h)]; exact h) (λb zs h=>by rw [Zj (JJ h (sm _ _ hx2) (by intro z; cases z))]; exact h)
  ·have n1:x ≠ l0:=JJ hx h0 (by intro z; cases z)
   have h2:H2 l0=some (.lst zs):=k1 _ _ (λz=>n1 z.symm) h0
   have h3:H'' l0=some (.lst zs):=s'' _ _ (by rw [Zj (λz=>n1 z.symm)]; exact sm _ _ h2)
   have keepL:∀ b ws,b ≠ l0->H3 b=some (.lst ws)->upd H'' l0 (.lst us) b=some (.lst ws):=λb ws hb h=>by
    rw [Zj hb]; exact s'' _ _ (by rw [Zj (nx _ _ h)]; exact h)
   have n2:l ≠ l0:=λz=>by rw [z,h0] at hl1; cases hl1
   have n3:acc ≠ l0:=λz=>by rw [z,h2] at hn'; cases hn'
   exact gen _ (by rw [Zj n1]; exact s'' _ _ Zi) (keepL _ _ n2 (sm _ _ hl2)) (keepL _ _ n3 e) (λp w hp h=>keepL _ _ (λz=>by rw [z,h2] at hp; cases hp) h)
    (λb zs' h=>by
     have hb:b ≠ l0:=JJ h (sm _ _ h2) (by intro z; cases z)
     rw [Zj hb]; exact s'' _ _ (by rw [Zj (JJ h (sm _ _ hx2) (by intro z; cases z))]; exact h))
def Zdg(C:Addr):Sp:=λvs H Q _=>∃ x rs,vs=[x]/\ZO C H x rs/\Q (.int ((rs.length:Int) + 1)) H
def Zq5(F:Fun K "many" "Tree.many" ZaL f fd)(ZB:mg "len"=none)(ZI:Cls K CT)(Zcn:ZJ K CT "ways"):FnOk P w K mg base Zx 1 f fd ["self"] (Zdg CT):=by
 refine JP F Zhb λcdv A outer s H vs Q E hr h=>?_
 obtain⟨x,rs,rfl,⟨a,dx,la,wa,ls,ws,rfl,h1,h2,h3,h4,h5,h6⟩,q⟩:=h
 refine⟨_,(Zk (Zu (JE rfl ZB (Zl (ZV (Zf 0)) Zb)))),?_⟩
 rw [show Zv ["self"] [.ref a]=[some (.ref a)] from rfl]
 walk_at "rd"
 refine⟨CT,dx,_,h1,ZI,Zcn,.ref wa,rfl,wa,rfl,ws,.inl h4,?_⟩
 rw [show ((ws.length:Nat):Int)=(rs.length:Int) + 1 by omega]
 exact q
def inT(rs:List (Nat × Rat))(k:Int):Prop:=0<=k/\k<=rs.length
def ZcW(C CNP:Addr):Sp:=λvs H Q E=>∃ x rs k,vs=[x,.int k]/\ZO C H x rs/\(inT rs k->Q .non H)/\(¬ inT rs k->E (.ref CNP) none H)
def Znc(F:Fun K "look_crossing" "Tree.look_crossing" Zab f fd)(Zaq:Fn P w K mg base Zx 1 "is_whole" ["thing"] Zba)
  (ZbQ:Mth P w K mg base Zx 1 CT "many" ["self"] (Zdg CT)):FnOk P w K mg base Zx 2 f fd ["self","k"] (λvs H Q _=>ZcW CT CNP vs H Q E0):=by
 refine JP F ZcE λcdv A outer s H vs Q E hr h=>?_
 obtain⟨x,rs,k,rfl,hT,q1,q2⟩:=h
 have hin:inT rs k:=VC λz=>q2 z
 refine⟨_,(Zk (Ja (t_w (J3 (JO (JD (JB Zaq hr (Zl (Zf 1) Zb)))) (J3 (Zri (Zf 1) Zc) (ZdD (Zto (Zf 1) (ZbT ZbQ hr (by decide) (Zf 0))))))) (Zk Zbq) ZG)),?_⟩
 rw [show Zv ["self","k"] [x,.int k]=[some (x),some (.int k)] from rfl]
 walk_at "rd"
 simp only [Zba,Zdg]
 walk_at "rd"
 refine⟨ZcC k,?_⟩
 rw [if_neg (by simp [isW])]
 refine JA (λc=>absurd hin (by unfold inT; omega)) (λc=>?_)
 obtain⟨a,dx,la,wa,ls,ws,rfl,h1,_⟩:=id hT
 exact⟨a,rfl,dx,_,h1,rfl,rs,hT,JA (λc2=>absurd hin (by unfold inT; omega)) (λc2=>q1 hin)⟩
def ZkS(C CNP:Addr):Sp:=λvs H Q E=>∃ x rs k,vs=[x,.int k]/\ZO C H x rs/\(∀ (p:Addr) (H':Hp) (k':Nat) (w:List Nat),k=(k':Int)->H p=none->Zn H H'->H' p=some (.lst (JG w))->WayR rs k' w->w.length<=rs.length->Q (.ref p) H')/\(¬ inT rs k->E (.ref CNP) none H)
def ZqQ(F:Fun K "way" "Tree.way" Za4 f fd)(Jg:mg "list"=none)(ZI:Cls K CT)(Zcn:ZJ K CT "ways")
  (Zaa:Mth P w K mg base Zx 2 CT "look_crossing" ["self","k"] (λvs H Q _=>ZcW CT CNP vs H Q E0)):FnOk P w K mg base Zx 3 f fd ["self","k"] (λvs H Q _=>ZkS CT CNP vs H Q E0):=by
 refine JP F Zh9 λcdv A outer s H vs Q E hr h=>?_
 obtain⟨x,rs,k,rfl,hT,q1,q2⟩:=h
 have hin:inT rs k:=VC λz=>q2 z
 refine⟨_,(Zd (ZR (Jc Zaa hr (by decide) (Zf 0) (Zl (Zf 1) Zb)))
   (Zk (Zu (ZfL rfl Jg (Zl (ZT (ZV (Zf 0)) (Zf 1)) Zb))))),?_⟩
 rw [show Zv ["self","k"] [x,.int k]=[some (x),some (.int k)] from rfl]
 walk_at "rd"
 simp only [Zkh]
 walk_at "rd"
 obtain⟨a,dx,la,wa,ls,ws,rfl,h1,h2,h3,h4,h5,h6⟩:=id hT
 refine⟨a,rfl,dx,_,h1,rfl,.ref a,rs,k,rfl,hT,λ_=>?_,λz=>z hin⟩
 obtain⟨k',hk'⟩:∃ k':Nat,k=(k':Int):=⟨k.toNat,by unfold inT at hin; omega⟩
 subst hk'
 have hlt:k' < ws.length:=by unfold inT at hin; omega
 obtain⟨p,w,e5,e6,e7,e8⟩:=h6 k' _ (Yc hlt)
 exact⟨a,rfl,CT,dx,_,h1,ZI,Zcn,.ref wa,rfl,wa,rfl,ws,h4,_,ZY (Yc hlt),p,e5,JG w,.inl (.of e6),λl H2 hl s e=>q1 l H2 k' w rfl hl s e e7 e8⟩
def ZcB(C:Addr):Sp:=λvs H Q _=>∃ x rs,vs=[x]/\ZO C H x rs/\∀ p H' ls,H p=none->Zn H H'->H' p=some (.lst ls)->ZS H' ls rs->Q (.ref p) H'
def ZkZ(F:Fun K "roads" "Tree.roads" ZaB f fd)(Jg:mg "list"=none)(ZI:Cls K CT)(Zbb:ZJ K CT "lanes"):FnOk P w K mg base Zx 1 f fd ["self"] (ZcB CT):=by
 refine JP F Zgr λcdv A outer s H vs Q E hr h=>?_
 obtain⟨x,rs,rfl,⟨a,dx,la,wa,ls,ws,rfl,h1,h2,h3,h4,h5,h6⟩,q⟩:=h
 refine⟨_,(Zk (Zu (ZfL rfl Jg (Zl (ZV (Zf 0)) Zb)))),?_⟩
 rw [show Zv ["self"] [.ref a]=[some (.ref a)] from rfl]
 walk_at "rd"
 simp only [Zkh]
 walk_at "rd"
 exact⟨CT,dx,_,h1,ZI,Zbb,.ref la,rfl,la,rfl,ls,.inl (.of h2),λl H2 hl s e=>q l H2 ls hl s e (h3.same s)⟩
def Zoi{x y:V}(hx:Jy H x r)(hy:Jy H y r):EqD H x y true 2:=by
 obtain⟨p,u,rfl,hp,hu⟩:=hx
 obtain⟨c,v,rfl,hc,hv⟩:=hy
 obtain⟨_,_,_,_,d⟩:=Zlg hu hv
 have h:=EqD.tup (e:=λ_=>true) (n:=1) hp hc λj x y h1 h2=>by
  match j,h1,h2 with
  | 0,h1,h2 =>
   cases h1; cases h2
   have z:=EqD.flat (H:=H) (x:=.int (r.1:Int)) (y:=.int (r.1:Int)) rfl rfl
   rw [ZcT rfl] at z
   exact z.up
  | 1,h1,h2=>cases h1; cases h2; exact d
 exact h
def Zho{a b:Addr}{xs ys:List V}(ha:H a=some (.lst xs))(hb:H b=some (.lst ys))(hx:ZS H xs rs)(hy:ZS H ys rs):EqD H (.ref a) (.ref b) true 3:=by
 have h:=EqD.lst (e:=λ_=>true) (n:=2) ha hb (by rw [hx.1,hy.1]) λj x y h1 h2=>by
  have hj:j < rs.length:=by rw [<- hx.1]; exact (Yf.mp h1).1
  exact Zoi (hx.2 j x _ h1 (Yc hj)) (hy.2 j y _ h2 (Yc hj))
 rw [ZdC λ_ _=>rfl] at h
 exact h
def inR(rs:List (Nat × Rat))(k:Int):Prop:=1<=k/\k<=rs.length
def Zeh(C CNP:Addr):Sp:=λvs H Q E=>∃ x rs k,vs=[x,.int k]/\ZO C H x rs/\(inR rs k->Q .non H)/\(¬ inR rs k->E (.ref CNP) none H)
def ZnU(F:Fun K "look_road" "Tree.look_road" Zah f fd)
  (Zaa:Mth P w K mg base Zx 2 CT "look_crossing" ["self","k"] (λvs H Q _=>ZcW CT CNP vs H Q E0)):FnOk P w K mg base Zx 3 f fd ["self","k"] (λvs H Q _=>Zeh CT CNP vs H Q E0):=by
 refine JP F ZdX λcdv A outer s H vs Q E hr h=>?_
 obtain⟨x,rs,k,rfl,hT,q1,q2⟩:=h
 have hin:inR rs k:=VC λz=>q2 z
 refine⟨_,(Zd (ZR (Jc Zaa hr (by decide) (Zf 0) (Zl (Zf 1) Zb)))
   (Zk (Ja (JX (Zf 1) Zc) (Zk Zbq) ZG))),?_⟩
 rw [show Zv ["self","k"] [x,.int k]=[some (x),some (.int k)] from rfl]
 walk_at "rd"
 obtain⟨a,dx,la,wa,ls,ws,rfl,h1,_⟩:=id hT
 refine⟨a,rfl,dx,_,h1,rfl,.ref a,rs,k,rfl,hT,λ_=>?_,λz=>z ⟨by unfold inR at hin; omega,by unfold inR at hin; omega⟩⟩
 exact JA (λc=>absurd hin (by unfold inR; omega)) (λc=>q1 hin)
def Zfd(C CNP:Addr):Sp:=λvs H Q E=>∃ x rs k,vs=[x,.int k]/\ZO C H x rs/\(∀ (k':Nat) r y,k=(k':Int) + 1->rs[k']?=some r->Jn H y r.2->Q y H)/\(¬ inR rs k->E (.ref CNP) none H)
def ZkJ(F:Fun K "price" "Tree.price" Zay f fd)(ZI:Cls K CT)(Zbb:ZJ K CT "lanes")
  (ZaP:Mth P w K mg base Zx 3 CT "look_road" ["self","k"] (λvs H Q _=>Zeh CT CNP vs H Q E0)):FnOk P w K mg base Zx 4 f fd ["self","k"] (λvs H Q _=>Zfd CT CNP vs H Q E0):=by
 refine JP F ZfW λcdv A outer s H vs Q E hr h=>?_
 obtain⟨x,rs,k,rfl,hT,q1,q2⟩:=h
 have hin:inR rs k:=VC λz=>q2 z
 refine⟨_,(Zd (ZR (Jc ZaP hr (by decide) (Zf 0) (Zl (Zf 1) Zb)))
   (Zk (Zu (Zr (ZT (ZV (Zf 0)) (JS (Zf 1) Zc)) Zc)))),?_⟩
 rw [show Zv ["self","k"] [x,.int k]=[some (x),some (.int k)] from rfl]
 walk_at "rd"
 obtain⟨a,dx,la,wa,ls,ws,rfl,h1,h2,h3,_⟩:=id hT
 refine⟨a,rfl,dx,_,h1,rfl,.ref a,rs,k,rfl,hT,λ_=>?_,λz=>z hin⟩
 obtain⟨k',hk'⟩:∃ k':Nat,k=(k':Int) + 1:=⟨(k - 1).toNat,by unfold inR at hin; omega⟩
 subst hk'
 have hl:=h3.1
 have hlr:k' < rs.length:=by unfold inR at hin; omega
 have hls:k' < ls.length:=by omega
 obtain⟨p,y,e,e2,e3⟩:=h3.2 k' _ _ (Yc hls) (Yc hlr)
 refine⟨a,rfl,CT,dx,_,h1,ZI,Zbb,.ref la,rfl,la,rfl,ls,h2,_,?_,p,e,_,e2,_,rfl,q1 k' _ y rfl (Yc hlr) e3⟩
 rw [show (k':Int) + 1 - 1=(k':Int) by omega]
 exact ZY (Yc hls)
def Zdn(R:Hp->V->α->Prop)(H:Hp)(xs:List V)(as:List α):Prop:=xs.length=as.length/\∀ (i:Nat) x a,xs[i]?=some x->as[i]?=some a->R H x a
def ZpV(R:Hp->V->α->Prop):Prop:=∀ H H' v a,R H v a->(∀ b ys,H b=some (.tup ys)->H' b=some (.tup ys))->R H' v a
theorem Zdn.keep{R:Hp->V->α->Prop}(kR:ZpV R){H H':Hp}{xs:List V}{as:List α}(h:Zdn R H xs as)(s:∀ b ys,H b=some (.tup ys)->H' b=some (.tup ys)):Zdn R H' xs as:=⟨h.1,λi x a h1 h2=>kR _ _ _ _ (h.2 i x a h1 h2) s⟩
theorem Zdn.snoc{R:Hp->V->α->Prop}{as:List α}{a:α}(h:Zdn R H xs as)(hx:R H x a):Zdn R H (xs ++ [x]) (as ++ [a]):=⟨by simp [h.1],λi y r h1 h2=>by
 by_cases c:i < xs.length
 ·rw [YK c] at h1
  rw [YK (by rw [<- h.1]; exact c)] at h2
  exact h.2 i y r h1 h2
 ·have hi:i=xs.length:=by have:=(List.getElem?_eq_some_iff.mp h1).1; simp at this; omega
  subst hi
  rw [YI (Yd _)] at h1
  rw [h.1,YI (Yd _)] at h2
  simp at h1 h2
  subst h1
  subst h2
  exact hx⟩
def Zm8(c:Int):Prop:=Builtin.Int.intBits c<=1048576
def ZnB{c v m:Int}(h:Zm8 c)(hv:v.natAbs < 2 ^ 60)(hm:m.natAbs < 2 ^ 1000):IntMulOk (c + v) m:=by
 have k1:Builtin.Int.intBits v<=60:=ZhK hv
 have k2:Builtin.Int.intBits m<=1000:=ZhK hm
 refine PyProof.Rows.mulOk_of_bits (PyProof.Rows.bits_add (m:=1048576) (n:=60) h k1) k2 (by decide)
def Zcg:Sp:=λvs H Q _=>∃ c n:Int,vs=[.int c,.int n]/\0<=n/\n < 1000/\∀ p H' (xs:List Int),H p=none->Zn H H'->H' p=some (.lst (xs.map V.int))->(xs.length:Int)=n->(∀ x∈xs,0<=x/\x < 99989)->Q (.ref p) H'
def PnE(H0:Hp)(p:Addr)(c n:Int)(i:Nat)(Z:St)(H:Hp):Prop:=∃ (r:Int) (ok oo:Option V) (xs:List Int),Z=[some (.int c),some (.int n),some (.ref p),some (.int r),ok,oo]/\Zn H0 H/\H p=some (.lst (xs.map V.int))/\xs.length=i/\∀ x∈xs,0<=x/\x < 99989
def Ziq(F:Fun K "_law_numbers" "_law_numbers" Za2 f fd)(Jk:mg "range"=none):FnOk P w K mg base Zx 2 f fd ["_law_cell","_law_many"] Zcg:=by
 refine JP F ZaS λcdv A outer s H vs Q E hr h=>?_
 obtain⟨c,n,rfl,h1,h2,q⟩:=h
 refine⟨_,(Zd (Zw 2 ZaS.nd (Jz Zb))
   (Zd (Zw 3 ZaS.nd (Zf 0))
   (Zd (ZdW YD (Zfo rfl Jk (Zl (Zf 1) Zb)) (Jq 4 ZaS.nd) (Zk (Ja (Zto (Zf 0) (ZhS Zc Zc)) (Zd (ZR (Zim (Zf 2) (Zl (Z4 (Zf 3) Zc) Zb)))
   (Zk (Zw 3 ZaS.nd (Zfa (Zf 3) Zc)))) (Zd (Zw 5 ZaS.nd (Z4 (Jd (Jd (JR (Zf 0) (Jd Zc (JR Zc (Zf 4)))) (JR Zc (Zf 4))) Zc) Zc))
   (Zk (ZR (Zim (Zf 2) (Zl (Z4 (JR (Zf 5) (Jd (Jd (Zf 5) Zc) (Zf 4))) Zc) Zb))))))))
   (Zk (Zu (Zf 2)))))),?_⟩
 rw [show Zv ["_law_cell","_law_many","_law_found","_law_rest","_law_k","_law_one"] [.int c,.int n]=[some (.int c),some (.int n),none,none,none,none] from rfl]
 walk_at "rd"
 intro p H1 hp s1 e1
 simp only [ZeU]
 walk_at "rd"
 refine⟨by omega,by omega,?_⟩
 refine Zep (PnE H p c n) ⟨_,_,_,[],rfl,s1,e1,rfl,λx hx=>by cases hx⟩ (λi Z H2 hi hP=>?_) (λZ H2 hP=>?_)
 ·obtain⟨r,ok,oo,xs,rfl,s2,e2,hl,hx⟩:=hP
  walk_at "rd"
  have step:∀ (r' v:Int) (oo':Option V),0<=v->v < 99989->PnE H p c n (i + 1) [some (V.int c),some (V.int n),some (V.ref p),some (V.int r'),some (V.int (i:Int)),oo'] (upd H2 p (.lst (xs.map V.int ++ [.int v]))):=λr' v oo' a b =>
   ⟨r',_,_,xs ++ [v],rfl,ZE hp s2,by rw [Zi,List.map_append]; rfl,by simp [hl],λx hm=>by
    rcases Yp.mp hm with z | z
    ·exact hx x z
    ·have z:x=v:=by simpa using z
     rw [z]; exact⟨a,b⟩⟩
  have hlen:(xs.map V.int).length < 1000000:=by rw [Yi]; omega
  refine JA (λ_=>?_) (λ_=>?_)
  ·exact⟨⟨_,e2⟩,_,e2,hlen,step _ _ _ (Yv _ (by decide)) (Int.lt_trans (Yw _ (by decide)) (by decide))⟩
  ·have u0:∀ u:Int,0<=u % 99991/\u % 99991 < 99991:=λu=>⟨Yv _ (by decide),Yw _ (by decide)⟩
   have hu:=u0 (c * (48271 + 2 * (i:Int)) + 7919 * (i:Int) + 5)
   generalize (c * (48271 + 2 * (i:Int)) + 7919 * (i:Int) + 5) % 99991=o at hu ⊢
   exact⟨.inr ⟨by omega,by omega⟩,⟨_,e2⟩,.inl ⟨by omega,by omega⟩,_,e2,hlen,step _ _ _ (Yv _ (by decide)) (Yw _ (by decide))⟩
 ·obtain⟨r,ok,oo,xs,rfl,s2,e2,hl,hx⟩:=hP
  walk_at "rd"
  exact q p H2 xs hp s2 e2 (by omega) hx
def Ze2:Sp:=λvs H Q _=>∃ (v c:Int) (b:Bool),vs=[.int v,.bl b,.int c]/\0<=v/\v < 99989/\Zm8 c/\∀ r H' q,Zn H H'->JN 98 q->0<=q.num->Jn H' r q->Q r H'
def Zmo(F:Fun K "_law_price_by" "_law_price_by" ZaR f fd)(ZX:Fn P w K mg base Zx 2 "_law_low" ["_law_top","_law_bottom"] Zc8):FnOk P w K mg base Zx 3 f fd ["_law_v","_law_wide","_law_cell"] Ze2:=by
 refine JP F ZcM λcdv A outer s H vs Q E hr h=>?_
 obtain⟨v,c,b,rfl,hv0,hv1,hc,q⟩:=h
 refine⟨_,(Zd (Ja (JD (Zf 1)) (Zd (Zw 3 ZcM.nd (Z4 (JR (JR (Jd (Z4 (Zf 2) (ZhS Zc Zc)) (Zf 0)) Zc) (ZhS (Jd (Zf 0) Zc) Zc)) (JS (ZhS Zc Zc) Zc)))
   (Zk (Zu (JB ZX hr (Zl (Zf 3) (Zl (Jd Zc (Z4 (JR (ZbW (Jd (Zf 2) (Zf 0)) (ZhS Zc Zc)) (Jd (Zf 0) Zc)) (JS (ZhS Zc Zc) Zc))) Zb)))))) ZG)
   (Zk (Zu (JB ZX hr (Zl (Z4 (Zf 0) Zc) (Zl (Jd Zc (Z4 (Zfa (Zf 0) Zc) Zc)) Zb)))))),?_⟩
 rw [show Zv ["_law_v","_law_wide","_law_cell","_law_top"] [.int v,.bl b,.int c]=[some (.int v),some (.bl b),some (.int c),none] from rfl]
 walk_at "rd"
 simp only [Zc8]
 walk_at "rd"
 have fin:∀ t d:Int,0<=t->t.natAbs < 2 ^ 98->0 < d->d.natAbs < 2 ^ 98->Big d/\0 < d/\∀ (r:V) (H':Hp),Zn H H'->Jn H' r (Rat.divInt t d)->Q r H':=λt d h1 h2 h3 h4 =>
  ⟨Big.of h4 (by decide),h3,λr H' s v=>q r H' _ s (JN.of (by omega) h2 h4) (num_nonneg h1 h3) v⟩
 have key:∀ t d:Int,0<=t->t < 99999999999999999999999999999->0<=d->d < 99999999999999999999999999999->Big (1 + d)/\0 < 1 + d/\∀ (r:V) (H':Hp),Zn H H'->Jn H' r (Rat.divInt t (1 + d))->Q r H':=λt d h1 h2 h3 h4=>fin t (1 + d) h1 (by omega) (by omega) (by omega)
 refine JA (λ_=>?_) (λ_=>?_)
 ·have hp:(v + 3) ^ 3=(((v.toNat + 3) ^ 3:Nat):Int):=by
   rw [Int.natCast_pow]
   congr 1
   omega
  have hq:=Yj (Nat.pow_le_pow_left (show v.toNat + 3<=99991 by omega) 3) (show 99991 ^ 3<=999999999999999 by decide)
  have hu:0<=(v + 3) ^ 3/\(v + 3) ^ 3<=999999999999999:=by
   rw [hp]
   generalize (v.toNat + 3) ^ 3=u at hq
   omega
  refine⟨by omega,.inr ⟨?_,?_⟩,ZnB hc (by omega) (by decide),.inr ⟨by omega,by omega⟩,key _ _ (Yv _ (by decide)) (Yw _ (by decide)) (Yv _ (by decide)) (Yw _ (by decide))⟩
  ·exact Int.lt_of_lt_of_le (by decide) hu.1
  ·exact Int.lt_of_le_of_lt hu.2 (by decide)
 ·exact fin _ _ (by omega) (by omega) (by omega) (by omega)
def tsE(n t:Nat):List Int:=(List.range n).map λj=>(((j + t) % n:Nat):Int) + 1
def ZkL{n t j:Nat}(h:j < n):(tsE n t)[j]?=some ((((j + t) % n:Nat):Int) + 1):=by
 unfold tsE
 rw [Yh,List.getElem?_range h]
 rfl
def ZhC{n t j:Nat}(ht:t < n)(hj:j < n):(j + t) % n=if j + t < n then j + t else j + t - n:=by
 split
 ·rename_i h; exact Nat.mod_eq_of_lt h
 ·rename_i h
  rw [Nat.mod_eq_sub_mod (by omega),Nat.mod_eq_of_lt (by omega)]
def ZkQ{n t a b:Nat}(ht:t < n)(ha:a < n)(hb:b < n)(e:(a + t) % n=(b + t) % n):a=b:=by
 rw [ZhC ht ha,ZhC ht hb] at e
 split at e <;> split at e <;> omega
def ZoG{n t:Nat}(ht:t < n\/n=0):(tsE n t).Perm (Zpp 1 n):=by
 rcases ht with ht | rfl
 ·refine (List.perm_ext_iff_of_nodup ?_ Zfr).mpr λx=>?_
  ·unfold tsE
   refine List.Pairwise.map _ (R:=λa b=>a < n/\b < n/\a ≠ b) (λa b h=>?_) ?_
   ·obtain⟨ha,hb,hne⟩:=h
    intro e
    exact hne (ZkQ ht ha hb (Int.ofNat_inj.mp ((Int.add_left_inj 1).mp e)))
   ·exact List.pairwise_lt_range.imp_of_mem λha hb h=>⟨YH.mp ha,YH.mp hb,by omega⟩
  ·constructor
   ·intro h
    obtain⟨j,hj,rfl⟩:=Yk.mp h
    have h1:=Nat.mod_lt (j + t) (show n > 0 by omega)
    have:=ZiV (lo:=1) (n:=n) h1
    rw [Int.add_comm] at this
    exact this
   ·intro h
    have:=ZiY h
    obtain⟨k,rfl⟩:∃ k:Nat,x=(k:Int) + 1:=⟨(x - 1).toNat,by omega⟩
    refine Yk.mpr ⟨if t<=k then k - t else k + n - t,YH.mpr (by split <;> omega),?_⟩
    have hj:(if t<=k then k - t else k + n - t) < n:=by split <;> omega
    rw [ZhC ht hj]
    split <;> split <;> omega
 ·exact .refl _
def ZpJ(x:Int)(i:Nat):∃ k:Nat,x % (1 + (i:Int))=(k:Int)/\k<=i:=by
 have h:(0:Int) < 1 + (i:Int):=by omega
 have a0:=Yv x (Int.ne_of_gt h)
 have a1:=Yw x h
 exact⟨(x % (1 + (i:Int))).toNat,(Int.toNat_of_nonneg a0).symm,by omega⟩
def Zr8{n t k i:Nat}(k0:0 < k)(k1:k<=i)(hi:i < n):∃ to:Nat,1 + ((k:Int) - 1 + (t:Int)) % (n:Int)=(to:Int)/\(to=0\/∃ j',j' < i/\(tsE n t)[j']?=some (to:Int)):=by
 rw [show (k:Int) - 1 + (t:Int)=((k - 1 + t:Nat):Int) by omega,<- Int.natCast_emod]
 refine⟨(k - 1 + t) % n + 1,by omega,.inr ⟨k - 1,by omega,?_⟩⟩
 rw [ZkL (by omega)]
 congr 1
def ZgG:Sp:=λvs H Q _=>∃ c m:Int,vs=[.int c,.int m]/\Zm8 c/\1<=m/\m<=20/\∀ p H' xs rs,H p=none->Zn H H'->H' p=some (.lst xs)->ZS H' xs rs->Jj rs->rs.length<=20->(∀ r∈rs,JN 98 r.2/\0<=r.2.num)->Q (.ref p) H'
def PqE(H0:Hp)(pn acc:Addr)(c m:Int)(n t:Nat)(b:Bool)(xs:List Int)(i:Nat)(Z:St)(H:Hp):Prop:=∃ (o1 o2:Option V) (ys:List V),Z=[some (.int c),some (.int m),some (.ref pn),some (.int (n:Int)),some (.bl b),some (.int (t:Int)),some (.ref acc),o1,o2] /\
 Zn H0 H/\H pn=some (.lst (xs.map V.int))/\H acc=some (.lst ys)/\ys.length=n/\∀ j,j < i->Ztk H (tsE n t) ys j
def Zmg{H H6 H8:Hp}{pn acc p:Addr}{c m:Int}{n t i to:Nat}{b:Bool}{xs:List Int}{ys:List V}{r:V}{qr:Rat}(h0:H acc=none)(sm6:Zn H H6)(S:Zn H6 H8)(en:H6 pn=some (.lst (xs.map V.int)))(ea:H6 acc=some (.lst ys))(hna:pn ≠ acc)(hyl:ys.length=n)(hdone:∀ j,j < i->Ztk H6 (tsE n t) ys j)(hn0:t < n)(hi:i < n)
  (e8:H8 p=some (.tup [.int (to:Int),r])) (vr:Jn H8 r qr) (zq:JN 98 qr) (hqn:0<=qr.num) (hto:to=0\/∃ j',j' < i/\(tsE n t)[j']?=some (to:Int)) :
  PqE H pn acc c m n t b xs (i + 1) [some (V.int c),some (V.int m),some (V.ref pn),some (V.int (n:Int)),some (V.bl b),some (V.int (t:Int)),some (V.ref acc),some (V.int (1 + (i:Int))),some (V.int (to:Int))] (upd H8 acc (HO.lst (ys.set ((i + t) % n) (V.ref p)))):=by
 have ea8:=S _ _ ea
 have hix:(i + t) % n < ys.length:=by rw [hyl]; exact Nat.mod_lt _ (by omega)
 refine⟨_,_,ys.set ((i + t) % n) (.ref p),rfl,ZE h0 (sm6.trans S),by rw [Zj hna]; exact S _ _ en,Zi,by simpa using hyl,λj hj=>?_⟩
 by_cases hji:j=i
 ·subst hji
  exact⟨(j + t) % n,.ref p,(to,qr),ZkL hi,Vg hix,Jy.upd ⟨p,r,rfl,e8,vr⟩ ea8,zq,hqn,hto⟩
 ·obtain⟨k',x,r',g1,g2,g3,g4,g5,g6⟩:=hdone j (by omega)
  have hjn:j < n:=by omega
  have hkk:(i + t) % n ≠ k':=λz=>by
   rw [ZkL hjn,Option.some.injEq] at g1
   have g7:(j + t) % n=(i + t) % n:=by rw [z]; exact Int.ofNat_inj.mp ((Int.add_left_inj 1).mp g1)
   exact hji (ZkQ hn0 hjn hi g7)
  exact⟨k',x,r',g1,by rw [Vh hkk]; exact g2,(g3.same S).upd ea8,g4,g5,g6⟩
def Zlq(F:Fun K "_law_roads_by" "_law_roads_by" Zaw f fd)(Jk:mg "range"=none)(ZjP:mg "min"=none)(Zf3:mg "max"=none)(Za3:Fn P w K mg base Zx 2 "_law_numbers" ["_law_cell","_law_many"] Zcg)
  (Zb0:Fn P w K mg base Zx 3 "_law_price_by" ["_law_v","_law_wide","_law_cell"] Ze2):FnOk P w K mg base Zx 4 f fd ["_law_cell","_law_most"] ZgG:=by
 refine JP F Zae λcdv A outer s H vs Q E hr h=>?_
 obtain⟨c,m,rfl,hc,hm0,hm1,q⟩:=h
 obtain⟨t1,ht1,hr1⟩:∃ t,QB (Zjl Zx P w K mg base ["_law_cell","_law_most","_law_xs","_law_many","_law_wide","_law_turn","_law_roads","_law_k","_law_to"] "_law_roads_by" (Za Zaw) f cdv A outer s H E).nox ((Zg Zaw).drop 4) t/\∀ (n:Nat) (b:Bool) (pn:Addr) (xs:List Int) (H1:Hp),(n:Int) < m->H pn=none->Zn H H1->H1 pn=some (.lst (xs.map V.int))->(xs.length:Int)=2 * m + 6->(∀ x∈xs,0<=x/\x < 99989) ->
   t { nx:=λ_ H'=>Q .non H',rt:=Q } [some (.int c),some (.int m),some (.ref pn),some (.int (n:Int)),some (.bl b),none,none,none,none] H1:=by
  refine⟨_,(Zd (Zw 5 Zae.nd (Z4 (ZT (Zf 2) Zc) (ZpE rfl Zf3 (Zl Zc (Zl (Zf 3) Zb)))))
   (Zd (Zlv 6 (ZuA ["_law_k"]) (Zfo rfl Jk (Zl (Zf 3) Zb)) (by exact λs H fp=>(Jq 0 (show List.Nodup (["_law_k"]:List Str) from by decide +kernel))) (by exact λs H fp=>ZsC) (Jq 6 Zae.nd))
   (Zd (ZdW YD (Zpi rfl Jk (Zl Zc (Zl (Jd (Zf 3) Zc) Zb))) (Jq 7 Zae.nd) (Zd (Zw 8 Zae.nd (Z4 (ZT (Zf 2) (Jd (JR Zc (Zf 7)) Zc)) (Zf 7)))
   (Zd (Ja (t_w (Zfm (JX (Z4 (ZT (Zf 2) Zc) Zc) Zc) (Zc4 (ZpB (Z4 (ZT (Zf 2) (Jd (JR Zc (Zf 7)) Zc)) Zc) Zc)))) (Zk (Zw 8 Zae.nd (JS (Zf 7) Zc))) ZG)
   (Zd (Ja (ZpB (Zf 8) Zc) (Zk (Zw 8 Zae.nd (Jd Zc (Z4 (Jd (JS (Zf 8) Zc) (Zf 5)) (Zf 3))))) ZG)
   (Zk (Zj9 (Jv (Zl (Zf 8) (Zl (JB Zb0 hr (Zl (ZT (Zf 2) (Jd (JR Zc (Zf 7)) Zc)) (Zl (Zf 4) (Zl (Zf 0) Zb)))) Zb))) (ZlW (Zf 6) (Z4 (Jd (JS (Zf 7) Zc) (Zf 5)) (Zf 3)))))))))
   (Zk (Zu (Zf 6)))))),λn b pn xs H1 hn hpn s1 e1 hxl hxb=>?_⟩
  walk_at "rd"
  simp only [ZgA,Zkl,cxK]
  walk_at "rd"
  have at_:∀ {j:Nat}(h:j < xs.length),atI (xs.map V.int) (j:Int)=some (.int xs[j]):=λ{j} h=>ZY (by rw [Yh,Yc h]; rfl)
  have hl2:2 < xs.length:=by omega
  have hl3:3 < xs.length:=by omega
  obtain⟨t,et,htn⟩:∃ t:Nat,xs[2] % (if 1 < (n:Int) then (n:Int) else 1)=(t:Int)/\(t < n\/n=0):=by
   have hM:0 < (if 1 < (n:Int) then (n:Int) else 1)/\((if 1 < (n:Int) then (n:Int) else 1)<=(n:Int)\/n=0):=by split <;> omega
   generalize (if 1 < (n:Int) then (n:Int) else 1)=M at hM ⊢
   have a0:=Yv xs[2] (b:=M) (by omega)
   have a1:=Yw xs[2] hM.1
   exact⟨(xs[2] % M).toNat,by omega,by omega⟩
  refine⟨_,e1,_,at_ hl2,xs[2],rfl,by split <;> omega,by omega,by omega,?_⟩
  rw [et,show JU [some (V.int c),some (V.int m),some (V.ref pn),some (V.int (n:Int)),some (V.bl b),some (V.int (t:Int)),none,none,none] []=[] from rfl,Vb]
  clear et hl2
  refine ZmB (λacc i ys H'=>Zn H1 H'/\H' acc=some (.lst ys)/\ys.length=i/\i<=20) (λacc H2 hn sm e=>⟨sm,e,rfl,by omega⟩)
   (λacc i ys H2 h=>⟨h.2.1,by omega⟩) (λacc i ys H2 os hn hi h ol=>?_) (λacc ys H2 hn h=>?_)
  ·obtain⟨sm,e,hy,_⟩:=h
   obtain⟨o,rfl⟩:∃ o,os=[o]:=List.length_eq_one_iff.mp ol
   walk_at "rd"
   exact⟨[_],rfl,rfl,e,ZE hn sm,Zi,by simp [hy],by omega⟩
  ·obtain⟨sm,ea,hy,_⟩:=h
   have hna:pn ≠ acc:=Zo e1 hn
   have h0:H acc=none:=s1.free hn
   rw [ZgL]
   walk_at "rd"
   refine⟨by omega,by omega,?_⟩
   rw [show ((n:Int) + 1 - 1).toNat=n by omega]
   refine Zep (PqE H pn acc c m n t b xs) ⟨_,_,ys,rfl,s1.trans sm,sm _ _ e1,ea,hy,λj hj=>absurd hj (VJ j)⟩ (λi Z H6 hi hP=>?_) (λZ H6 hP=>?_)
   ·obtain⟨o1,o2,ys,rfl,sm6,en,ea,hyl,hdone⟩:=hP
    have hn0:t < n:=by omega
    have hl4:2 * (i + 1) + 4 < xs.length:=by omega
    have hl5:2 * (i + 1) + 5 < xs.length:=by omega
    have hx3:=at_ hl3
    have hx4:=at_ hl4
    have hv:=hxb xs[2 * (i + 1) + 5] (Yx hl5)
    obtain⟨k0,ek0,hk0⟩:=ZpJ xs[2 * (i + 1) + 4] i
    have e4:(2:Int) * (1 + (i:Int)) + 4=((2 * (i + 1) + 4:Nat):Int):=by omega
    have e5:(2:Int) * (1 + (i:Int)) + 5=((2 * (i + 1) + 5:Nat):Int):=by omega
    have i1:(0:Int) < 1 + (i:Int):=by omega
    have hnz:(0:Int) < (n:Int):=by omega
    have ii1:(1:Int) + (i:Int) - 1=(i:Int):=by omega
    have iit:(1:Int) + (i:Int) - 1 + (t:Int)=((i + t:Nat):Int):=by omega
    clear htn hxl hn hm0 hm1 hy
    refine Zq λB hB=>?_
    walk_at "rd"
    rw [e4]
    refine⟨_,en,_,hx4,_,rfl,i1,?_⟩
    rw [ek0]
    subst hB
    try dsimp only
    refine Zq λB hB=>?_
    have k2:∀ k:Nat,k<=i->B [some (V.int c),some (V.int m),some (V.ref pn),some (V.int (n:Int)),some (V.bl b),some (V.int (t:Int)),some (V.ref acc),some (V.int (1 + (i:Int))),some (V.int (k:Int))] H6:=by
     intro k hk
     subst hB
     try dsimp only
     refine Zq λB hB=>?_
     have k3:∀ (to:Nat) (TO:Int),TO=(to:Int)->(to=0\/∃ j',j' < i/\(tsE n t)[j']?=some (to:Int))->B [some (V.int c),some (V.int m),some (V.ref pn),some (V.int (n:Int)),some (V.bl b),some (V.int (t:Int)),some (V.ref acc),some (V.int (1 + (i:Int))),some (V.int TO)] H6:=by
      rintro to _ rfl hto
      subst hB
      try dsimp only
      walk_at "rd"
      simp only [Ze2]
      walk_at "rd"
      rw [e5]
      refine⟨_,en,_,at_ hl5,_,rfl,hv.1,hv.2,hc,λr H7 qr s7 zq hqn vr p H8 hp s8 e8=>⟨hnz,ys,(s7.trans s8) _ _ ea,(i + t) % n,?_,?_⟩⟩
      ·rw [iit,<- Int.natCast_emod]
       exact ZiZ (by rw [hyl]; exact Nat.mod_lt _ (YN (YA _) hn0))
      ·exact Zmg h0 sm6 (s7.trans s8) en ea hna hyl hdone hn0 hi e8 (vr.same s8) zq hqn hto
     walk_at "rd"
     refine JA (λc1=>⟨hnz,?_⟩) (λc1=>?_)
     ·obtain⟨to,e,h⟩:=Zr8 (n:=n) (t:=t) (k:=k) (i:=i) (Int.ofNat_lt.mp c1) hk hi
      exact k3 to _ e h
     ·exact k3 0 _ (by omega) (.inl rfl)
    walk_at "rd"
    rw [e4]
    refine⟨_,en,_,hx3,_,rfl,JA (λ_=>⟨_,en,_,hx4,_,rfl,JA (λ_=>?_) (λ_=>k2 k0 hk0)⟩) (λ_=>k2 k0 hk0)⟩
    rw [ii1]
    exact k2 i (Yd _)
   ·obtain⟨o1,o2,ys,rfl,sm6,en,ea,hyl,hdone⟩:=hP
    walk_at "rd"
    obtain⟨rs,hR,hT,hlen,hz⟩:=ZoN (n:=n) (ZoG htn) hyl hdone
    exact q acc H6 ys rs h0 sm6 ea hR hT (by omega) hz
 refine⟨_,(Zd (Zw 2 Zae.nd (JB Za3 hr (Zl (Zf 0) (Zl (Jd (JR Zc (Zf 1)) Zc) Zb))))
   (Zd (Zw 3 Zae.nd (Z4 (ZT (Zf 2) Zc) (Zf 1)))
   (Zd (Zw 4 Zae.nd (Zui (Z4 (ZT (Zf 2) Zc) Zc) Zc))
   (Zd (Ja (JD (Zf 4)) (Zk (Zw 3 Zae.nd (ZrB rfl ZjP (Zl (Zf 3) (Zl Zc Zb))))) ZG)
   ht1)))),?_⟩
 rw [show Zv ["_law_cell","_law_most","_law_xs","_law_many","_law_wide","_law_turn","_law_roads","_law_k","_law_to"] [.int c,.int m]=[some (.int c),some (.int m),none,none,none,none,none,none,none] from rfl]
 walk_at "rd"
 simp only [Zcg]
 walk_at "rd"
 refine⟨by omega,by omega,λpn H1 xs hpn s1 e1 hxl hxb=>?_⟩
 have at_:∀ {j:Nat}(h:j < xs.length),atI (xs.map V.int) (j:Int)=some (.int xs[j]):=λ{j} h=>ZY (by rw [Yh,Yc h]; rfl)
 have hl0:0 < xs.length:=by omega
 have hl1:1 < xs.length:=by omega
 have m0:=Yv xs[0] (b:=m) (by omega)
 have m1:=Yw xs[0] (b:=m) (by omega)
 obtain⟨r,er⟩:∃ r:Nat,xs[0] % m=(r:Int):=⟨(xs[0] % m).toNat,by omega⟩
 refine⟨_,e1,_,at_ hl0,xs[0],rfl,by omega,_,e1,_,at_ hl1,xs[1],rfl,?_⟩
 rw [er] at m0 m1 ⊢
 refine JA (λcw=>?_) (λcw=>?_)
 ·rw [show (if 4 < (r:Int) then (4:Int) else (r:Int))=((min 4 r:Nat):Int) by split <;> omega]
  exact hr1 _ _ pn xs H1 (by omega) hpn s1 e1 hxl hxb
 ·exact hr1 _ _ pn xs H1 m1 hpn s1 e1 hxl hxb
theorem Jf(h:JN n q):(q.den:Int).natAbs < 2 ^ n:=by simpa using h.2
def Zl8:Sp:=λvs H Q _=>∃ (x y:V) (q:Rat),vs=[x,y]/\Jn H x q/\Jn H y q/\Q (.bl true) H
def Pd(a b:Int)(H:Hp)(Z:St)(H':Hp):Prop:=∃ l m:Int,Z=[some (.int l),some (.int m)]/\H'=H/\Int.gcd l m=Int.gcd a b
def ZjH(F:Fun K "_law_divisor" "_law_divisor" ZaY f fd)(Zix:mg "abs"=none) :
  FnOk P w K mg base Zx 1 f fd ["_law_one","_law_other"] Zc5:=by
 refine JP F Zc2 λcdv A outer s H vs Q E hr h=>?_
 obtain⟨a,b,rfl,q⟩:=h
 refine⟨_,(Zd (Zgj YD (Zjm (Zf 1) Zc) (Zk (Zub 0 1 Zc2.nd (Zl (Zf 1) (Zl (Zs2 (Zf 0) (Zf 1)) Zb)))))
   (Zk (Zu (ZpP rfl Zix (Zl (Zf 0) Zb))))),?_⟩
 rw [show Zv ["_law_one","_law_other"] [.int a,.int b]=[some (.int a),some (.int b)] from rfl]
 walk_at "rd"
 refine ZfP (Pd a b H) (λZ _=>(Zn9 Z 1).natAbs) ⟨_,_,rfl,rfl,rfl⟩ ?_
 rintro Z H' ⟨l,m,rfl,rfl,hg⟩
 walk_at "rd"
 refine JA (λc=>?_) (λc=>?_)
 ·refine⟨_,λZ' H' z=>z,c,_,Ziz c,rfl,m,l.fmod m,rfl,rfl,?_⟩
  rw [ZkR]; exact hg
 ·have e:m=0:=by omega
  subst e
  have e2:(Int.gcd a b:Int)=(if l < 0 then -l else l):=by rw [<- hg,ZlR]; simp
  rw [e2] at q
  exact q
def ZgR(F:Fun K "_law_whole" "_law_whole" Zbo f fd)(Zm:mg "isinstance"=none)(Zka:mg "int"=none)(Zfu:mg "bool"=none) :
  FnOk P w K mg base Zx 1 f fd ["_law_found"] Zba:=by
 refine JP F ZgN λcdv A outer s H vs Q E hr h=>?_
 obtain⟨x,rfl,⟨t,ht⟩,q⟩:=h
 refine⟨_,(Zk (Zu (Zgt (Zc6 rfl Zm (Zl (Zf 0) (Zl (Zm5 rfl Zka rfl) Zb))) (Zhw (Zs0 (Zc6 rfl Zm (Zl (Zf 0) (Zl (Zm5 rfl Zfu rfl) Zb)))))))),?_⟩
 rw [show Zv ["_law_found"] [x]=[some (x)] from rfl]
 rw [<- Zjg ht] at q
 refine⟨_,rfl,x,"int",t,rfl,ht,by decide,_,rfl,?_⟩
 refine JA (λc=>?_) (λc=>?_)
 ·refine⟨_,rfl,x,"bool",t,rfl,ht,by decide,_,rfl,?_⟩
  rw [c] at q
  exact q
 ·rw [Bool.eq_false_iff.mpr c] at q
  exact q
def Zp5(F:Fun K "_law_low" "_law_low" Zcb f fd)(Zcu:Fn P w K mg base Zx 1 "_law_divisor" ["_law_one","_law_other"] Zc5):FnOk P w K mg base Zx 2 f fd ["_law_top","_law_bottom"] Zc8:=by
 refine JP F ZfM λcdv A outer s H vs Q E hr h=>?_
 obtain⟨a,b,rfl,hz,hb,q⟩:=h
 refine⟨_,(Zd (Zw 2 ZfM.nd (JB Zcu hr (Zl (Zf 0) (Zl (Zf 1) Zb))))
   (Zk (Zu (Jv (Zl (Zdk (Zf 0) (Zf 2)) (Zl (Zdk (Zf 1) (Zf 2)) Zb)))))),?_⟩
 rw [show Zv ["_law_top","_law_bottom","_law_part"] [.int a,.int b]=[some (.int a),some (.int b),none] from rfl]
 walk_at "rd"
 simp only [Zc5]
 walk_at "rd"
 have h1:=VN a (Int.ne_of_gt hb)
 have h3:(Int.gcd a b:Int).natAbs.log2 < 9000:=ZbC (Zbc (YN (ZfB (Int.ne_of_gt hb)) hz) (by omega)) (by omega)
 refine⟨by omega,h3,by omega,h3,λp H' _ hs e=>q _ H' hs ⟨p,rfl,?_⟩⟩
 rw [(Zel hb).1,(Zel (t:=a) hb).2] at e
 exact e
def Zjd(g:Rat->Rat->Rat):Sp:=λvs H Q _=>∃ (x y:V) (p q:Rat),vs=[x,y]/\Jn H x p/\Jn H y q/\JN 2000 p/\JN 2000 q/\∀ r H',Zn H H'->Jn H' r (g p q)->Q r H'
def Zp2(F:Fun K "rest_of" "rest_of" Zb9 f fd)(ZdZ:Fn P w K mg base Zx 2 "ratio" ["top","bottom"] Zcy):FnOk P w K mg base Zx 3 f fd ["one","other"] (Zjd (· - ·)):=by
 refine JP F Zkq λcdv A outer s H vs Q E hr h=>?_
 obtain⟨x,y,p,t,rfl,⟨a,rfl,ha⟩,⟨b,rfl,hb⟩,z1,z2,q⟩:=h
 refine⟨_,(Zk (Zu (JB ZdZ hr (Zl (JS (ZbW (Zr (Zf 0) Zc) (Zr (Zf 1) Zc)) (ZbW (Zr (Zf 1) Zc) (Zr (Zf 0) Zc))) (Zl (ZbW (Zr (Zf 0) Zc) (Zr (Zf 1) Zc)) Zb))))),?_⟩
 rw [show Zv ["one","other"] [.ref a,.ref b]=[some (.ref a),some (.ref b)] from rfl]
 walk_at "rd"
 simp only [ha,hb,Zcy]
 walk_at "rd"
 refine⟨ZdT z1.1 (Jf z2) (by decide),ZdT z2.1 (Jf z1) (by decide),ZdT (Jf z1) (Jf z2) (by decide),Big.of (Za0 (Jf z1) (Jf z2)) (by decide),Zfp p t,λr H' hs v=>q r H' hs ?_⟩
 show Jn H' r (p - t)
 rw [Zfs]
 exact v
def ZlT:Sp:=λvs H Q _=>∃ (x y:V) (p q:Rat),vs=[x,y]/\Jn H x p/\Jn H y q/\JN 2000 p/\JN 2000 q/\Q (.bl (decide (p < q))) H
def Zqd(F:Fun K "is_less" "is_less" Zb6 f fd):FnOk P w K mg base Zx 1 f fd ["one","other"] ZlT:=by
 refine JP F ZjK λcdv A outer s H vs Q E hr h=>?_
 obtain⟨x,y,p,t,rfl,⟨a,rfl,ha⟩,⟨b,rfl,hb⟩,z1,z2,q⟩:=h
 refine⟨_,(Zk (Zu (ZuX (ZbW (Zr (Zf 0) Zc) (Zr (Zf 1) Zc)) (ZbW (Zr (Zf 1) Zc) (Zr (Zf 0) Zc))))),?_⟩
 rw [show Zv ["one","other"] [.ref a,.ref b]=[some (.ref a),some (.ref b)] from rfl]
 walk_at "rd"
 simp only [ha,hb]
 walk_at "rd"
 refine⟨ZdT z1.1 (Jf z2) (by decide),ZdT z2.1 (Jf z1) (by decide),?_⟩
 rw [<- decide_eq_decide.mpr (Zm9 p t)]
 exact q
def BlR(_:Hp)(v:V)(b:Bool):Prop:=v=.bl b
def ZnE:ZpV BlR:=λ_ _ _ _ h _=>h
def Znk{g:α->V}{R:Hp->V->α->Prop}(hR:∀ H v a,R H v a->v=g a){H:Hp}{ys:List V}{as:List α}(h:Zdn R H ys as):ys=as.map g:=by
 refine Vu λi=>?_
 rw [Yh]
 by_cases c:i < ys.length
 ·have c2:i < as.length:=by rw [<- h.1]; exact c
  rw [Yc c,Yc c2]
  exact congrArg some (hR _ _ _ (h.2 i _ _ (Yc c) (Yc c2)))
 ·rw [YS (by omega),YS (by rw [<- h.1]; omega)]
  rfl
def ZoY{z:Str}{nt:Nat}{cp:St}{g:TG}{te:TE}{H1:Hp}{Q:VK}(R:Hp->V->α->Prop)(kR:ZpV R){as:List α}(hlen:z.cps.toList.length=as.length)(hl:z.cps.toList.length < 1000)
  (ht:∀ (i:Nat) d b,z.cps.toList[i]?=some d->as[i]?=some b->∀ H' (k:VK) os,Zn H1 H'->os.length=nt->(∀ v H2,Zn H' H2->R H2 v b->k v H2)->g (.str (one d)) (os ++ cp) H' λτ H3=>∃ os',os'.length=nt/\τ=os' ++ cp/\te τ H3 k)
  (q:∀ p H' ys,H1 p=none->Zn H1 H'->H' p=some (.lst ys)->Zdn R H' ys as->Q (.ref p) H'):Zrj nt cp (Itx z) g te H1 Q:=by
 unfold Zrj
 refine Zng (λacc i ys H'=>Zn H1 H'/\H' acc=some (.lst ys)/\Zdn R H' ys (as.take i)/\i<=as.length)
  (λacc H2 hn sm e=>⟨sm,e,⟨by simp,λi v r h1 h2=>by simp at h1⟩,Nat.zero_le _⟩) (λacc i ys H2 hn ⟨sm,e,e2,hi⟩=>⟨e,?_⟩) (λacc i y ys H2 os hn hi hP ol=>?_) (λacc ys H2 hn hP=>?_)
 ·rw [e2.1,Y6]; omega
 ·obtain⟨sm,e,e2,_⟩:=hP
  have hil:i < as.length:=by rw [<- hlen]; exact (Yf.mp hi).1
  have hb:=Yc hil
  refine ht i y _ hi hb H2 (λv H5=>H5 acc=some (.lst ys)/\(Zn H1 (upd H5 acc (.lst (ys ++ [v])))/\upd H5 acc (.lst (ys ++ [v])) acc=some (.lst (ys ++ [v]))/\Zdn R (upd H5 acc (.lst (ys ++ [v]))) (ys ++ [v]) (as.take (i + 1))/\i + 1<=as.length)) os sm ol λv H3 s3 hv=>⟨s3 _ _ e,ZE hn (sm.trans s3),Zi,?_,hil⟩
  have kp:∀ b ys',H3 b=some (.tup ys')->upd H3 acc (.lst (ys ++ [v])) b=some (.tup ys'):=λb ys' eb=>by rw [Zj (JJ eb (s3 _ _ e) (by intro z; cases z))]; exact eb
  rw [YL,hb]
  exact ((e2.keep kR λb ys' eb=>s3 _ _ eb).keep kR kp).snoc (kR _ _ _ _ hv kp)
 ·obtain⟨sm,e,e2,_⟩:=hP
  rw [hlen,YO] at e2
  exact q acc H2 ys hn sm e e2
def del(a:Addr)(H:Hp):Hp:=λb=>if b=a then none else H b
def Zbi{a b:Addr}{o:HO}:del a H b=some o ↔ b ≠ a/\H b=some o:=by
 unfold del
 by_cases c:b=a
 ·rw [if_pos c]; exact⟨λz=>(nomatch z),λz=>absurd c z.1⟩
 ·rw [if_neg c]; exact⟨λz=>⟨c,z⟩,λz=>z.2⟩
def JK(L:List Addr)(H:Hp):Hp:=λb=>if b∈L then none else H b
def Zz{L:List Addr}{b:Addr}{o:HO}:JK L H b=some o ↔ b ∉ L/\H b=some o:=by
 unfold JK
 by_cases c:b∈L
 ·rw [if_pos c]; exact⟨λz=>(nomatch z),λz=>absurd c z.1⟩
 ·rw [if_neg c]; exact⟨λz=>⟨c,z⟩,λz=>z.2⟩
def off(ex:List Addr)(a p:Addr)(H:Hp):Hp:=JK (a :: p :: ex) H
variable {ex:List Addr}
theorem ZaT{a p b:Addr}{o:HO}:off ex a p H b=some o ↔ b ≠ a/\b ≠ p/\b ∉ ex/\H b=some o:=by
 unfold off
 rw [Zz]
 simp only [List.mem_cons,not_or,and_assoc]
def Ju{a p:Addr}:Zn (off ex a p H) H:=λ_ _ e=>(ZaT.mp e).2.2.2
def Zck{a p:Addr}{H H':Hp}(s:Zn H H'):Zn (off ex a p H) (off ex a p H'):=λ_ _ e=>let ⟨g1,g2,g3,g4⟩:=ZaT.mp e; ZaT.mpr ⟨g1,g2,g3,s _ _ g4⟩
def Zec(ex:List Addr)(H:Hp):Prop:=∀ l∈ex,∃ zs,H l=some (.lst zs)
theorem Zec.same{H H':Hp}(h:Zec ex H)(s:Zn H H'):Zec ex H':=λl hl=>let ⟨zs,e⟩:=h l hl; ⟨zs,s _ _ e⟩
def ZmX{a p b:Addr}{H H':Hp}{u v o:HO}(h:H b=none)(ha:H a=some u)(hp:H p=some v)(hx:Zec ex H)(e:H' b=some o):off ex a p H' b=some o:=ZaT.mpr ⟨λz=>(by rw [z,ha] at h; cases h),λz=>(by rw [z,hp] at h; cases h),λz=>(by obtain⟨zs,q⟩:=hx b z; rw [q] at h; cases h),e⟩
def Jx(a p:Addr)(H H':Hp):Prop:=∀ b o,b ≠ a->b ≠ p->H b=some o->H' b=some o
theorem Jx.of{a p:Addr}{H H':Hp}(s:Zn H H'):Jx a p H H':=λb o _ _ e=>s _ _ e
theorem Jx.trans{a p:Addr}{H H' H'':Hp}(k:Jx a p H H')(k2:Jx a p H' H''):Jx a p H H'':=λb o h1 h2 e=>k2 b o h1 h2 (k b o h1 h2 e)
theorem Jx.upd{a p b:Addr}{H H':Hp}{o:HO}(k:Jx a p H H')(hb:b=a\/b=p):Jx a p H (upd H' b o):=λc u h1 h2 e=>by
 rw [Zj (by rcases hb with rfl | rfl; exact h1; exact h2)]
 exact k c u h1 h2 e
theorem Jx.off{a p:Addr}{H H':Hp}(k:Jx a p H H'):Zn (off ex a p H) (off ex a p H'):=λ_ _ e=>let ⟨g1,g2,g3,g4⟩:=ZaT.mp e; ZaT.mpr ⟨g1,g2,g3,k _ _ g1 g2 g4⟩
theorem Jx.lists{a p:Addr}{H H':Hp}(k:Jx a p H H')(h:Zec ex H)(ha:a ∉ ex)(hp:p ∉ ex):Zec ex H':=λl hl=>let ⟨zs,e⟩:=h l hl; ⟨zs,k _ _ (λz=>ha (z ▸ hl)) (λz=>hp (z ▸ hl)) e⟩
def Zi5{C C':Addr}{a dx:Addr}{fs:List (Str × V)}(h:ZO C H x rs)(ha:H a=some (.ins C' dx fs))(hx:x ≠ .ref a):ZO C (del a H) x rs:=by
 obtain⟨b,dy,la,wa,ls,ws,rfl,h1,h2,h3,h4,h5,h6⟩:=h
 have nl:∀ c zs,H c=some (.lst zs)->del a H c=some (.lst zs):=λc zs e=>Zbi.mpr ⟨λz=>(by rw [z,ha] at e; cases e),e⟩
 have nt:∀ c zs,H c=some (.tup zs)->del a H c=some (.tup zs):=λc zs e=>Zbi.mpr ⟨λz=>(by rw [z,ha] at e; cases e),e⟩
 exact⟨b,dy,la,wa,ls,ws,rfl,Zbi.mpr ⟨λz=>hx (by rw [z]),h1⟩,nl _ _ h2,h3.keep nt,nl _ _ h4,h5,λk y hy=>let ⟨p,w,e,g1,g2⟩:=h6 k y hy; ⟨p,w,e,nl _ _ g1,g2⟩⟩
def ZlN{C C':Addr}{a dx:Addr}{fs:List (Str × V)}(h:ZO C H x rs)(ha:H a=some (.ins C' dx fs))(hf:fs.length ≠ 2):x ≠ .ref a:=by
 obtain⟨b,dy,la,wa,ls,ws,rfl,h1,_⟩:=h
 intro z
 cases z
 rw [ha] at h1
 injection h1 with h1
 injection h1 with _ _ h1
 rw [h1] at hf
 exact hf rfl
def Zol{C:Addr}{l:Addr}(h:∀ ys,ZO C (upd H l (.lst ys)) x rs):ZO C (del l H) x rs:=by
 obtain⟨b,dy,la,wa,ls,ws,rfl,h1,h2,h3,h4,h5,h6⟩:=h [.non]
 have key:∀ c o,c ≠ l->upd H l (.lst [.non]) c=some o->del l H c=some o:=λc o hc e=>Zbi.mpr ⟨hc,by rw [Zj hc] at e; exact e⟩
 have nt:∀ c zs,upd H l (.lst [.non]) c=some (.tup zs)->del l H c=some (.tup zs):=λc zs e=>key c _ (λz=>(by rw [z,Zi] at e; cases e)) e
 have n1:b ≠ l:=λz=>by rw [z,Zi] at h1; cases h1
 have n2:la ≠ l:=λz=>by
  rw [z,Zi] at h2
  cases h2
  obtain⟨hl,hr⟩:=h3
  match rs,hl with
  | [r],_ =>
   obtain⟨p,y,e,_⟩:=hr 0 _ r rfl rfl
   cases e
 have n3:wa ≠ l:=λz=>by
  rw [z,Zi] at h4
  cases h4
  obtain⟨p,w,e,_⟩:=h6 0 _ rfl
  cases e
 refine⟨b,dy,la,wa,ls,ws,rfl,key _ _ n1 h1,key _ _ n2 h2,h3.keep nt,key _ _ n3 h4,h5,λk y hy=>?_⟩
 obtain⟨p,w,e,g1,g2⟩:=h6 k y hy
 refine⟨p,w,e,key _ _ (λz=>?_) g1,g2⟩
 rw [z,Zi] at g1
 match w,g1 with
 | [],g1=>cases g1
 | [_],g1=>cases g1
 | _ :: _ :: _,g1=>cases g1
def Zln{C:Addr}{L:List Addr}(h:ZO C H x rs)(hx:Zec L H)(hd:∀ l∈L,ZO C (del l H) x rs):ZO C (JK L H) x rs:=by
 obtain⟨b,dy,la,wa,ls,ws,rfl,h1,h2,h3,h4,h5,h6⟩:=h
 have nt:∀ c zs,H c=some (.tup zs)->JK L H c=some (.tup zs):=λc zs e=>Zz.mpr ⟨λz=>(by obtain⟨ys,q⟩:=hx c z; rw [q] at e; cases e),e⟩
 have ni:b ∉ L:=λz=>by obtain⟨ys,q⟩:=hx b z; rw [q] at h1; cases h1
 have key:∀ l∈L,la ≠ l/\wa ≠ l/\∀ (k:Nat) y,ws[k]?=some y->y ≠ .ref l:=by
  intro l hl
  obtain⟨b',dy',la',wa',ls',ws',eb,g1,g2,_,g4,_,g6⟩:=hd l hl
  cases eb
  have g1':=(Zbi.mp g1).2
  rw [h1] at g1'
  injection g1' with g1'
  injection g1' with _ _ g1'
  simp only [List.cons.injEq,Prod.mk.injEq,V.ref.injEq,true_and,and_true] at g1'
  obtain⟨rfl,rfl⟩:=g1'
  obtain⟨q2,g2'⟩:=Zbi.mp g2
  obtain⟨q4,g4'⟩:=Zbi.mp g4
  rw [h4] at g4'
  cases g4'
  refine⟨q2,q4,λk y hy z=>?_⟩
  obtain⟨p,w,e,g,_⟩:=g6 k y hy
  rw [e] at z
  cases z
  exact (Zbi.mp g).1 rfl
 refine⟨b,dy,la,wa,ls,ws,rfl,Zz.mpr ⟨ni,h1⟩,Zz.mpr ⟨λz=>(key la z).1 rfl,h2⟩,h3.keep nt,Zz.mpr ⟨λz=>(key wa z).2.1 rfl,h4⟩,h5,λk y hy=>?_⟩
 obtain⟨p,w,e,g1,g2⟩:=h6 k y hy
 exact⟨p,w,e,Zz.mpr ⟨λz=>(key p z).2.2 k y hy e,g1⟩,g2⟩
abbrev Kvs:=List (Je × V)
abbrev JZ:=List (Nat × Rat) × Kvs
def Zoz(CT:Addr)(H:Hp)(v:V)(s:JZ):Prop:=∃ p tr ds,v=.ref p/\H p=some (.tup [tr,.ref ds])/\ZO CT H tr s.1/\H ds=some (.dK s.2)
theorem Zoz.same{CT:Addr}{H H':Hp}{v:V}{n:JZ}(h:Zoz CT H v n)(s:Zn H H'):Zoz CT H' v n:=let ⟨p,tr,ds,e,h1,h2,h3⟩:=h; ⟨p,tr,ds,e,s _ _ h1,h2.same s,s _ _ h3⟩
theorem Zdn.mono{R:Hp->V->α->Prop}{H H':Hp}{as:List α}(h:Zdn R H xs as)(m:∀ v a,R H v a->R H' v a):Zdn R H' xs as:=⟨h.1,λi x a h1 h2=>m _ _ (h.2 i x a h1 h2)⟩
def ZM(ex:List Addr)(CS CT:Addr)(H:Hp)(a ps:Addr)(rs:List (Nat × Rat))(kvs:Kvs)(past:List JZ):Prop:=∃ (dx:Addr) (tr:V) (ds:Addr) (pv:List V),H a=some (.ins CS dx [("land",tr),("places",.ref ds),("past",.ref ps)])/\H ps=some (.lst pv)/\ZO CT (off ex a ps H) tr rs/\off ex a ps H ds=some (.dK kvs)/\Zdn (Zoz CT) (off ex a ps H) pv past/\Zec ex H/\ps ∉ ex
variable {kvs:Kvs}
theorem ZM.same{CS CT:Addr}{H H':Hp}{a ps:Addr}{past:List JZ}(h:ZM ex CS CT H a ps rs kvs past)(s:Zn H H'):ZM ex CS CT H' a ps rs kvs past:=by
 obtain⟨dx,tr,ds,pv,h1,h2,h3,h4,h5,h6,h7⟩:=h
 have so:Zn (off ex a ps H) (off ex a ps H'):=Zck s
 exact⟨dx,tr,ds,pv,s _ _ h1,s _ _ h2,h3.same so,so _ _ h4,h5.mono λv n q=>q.same so,h6.same s,h7⟩
section
variable {P:Program}{w:World}{K:PySem.W.Frag}{mg:Str->Option Value}{base:Heap}{f:Addr}{fd:FuncData}{CT CNP CS:Addr}
def Zjr(CS:Addr):Sp:=λvs H Q _=>∃ (a dx:Addr) (tr:V),vs=[.ref a,tr]/\H a=some (.ins CS dx [])/\(∀ H' ps ds,(∀ b o,b ≠ a->H b=some o->H' b=some o)->H ps=none->H ds=none->H' a=some (.ins CS dx [("land",tr),("places",.ref ds),("past",.ref ps)])->H' ps=some (.lst [])->H' ds=some (.dK [])->Q .non H')
def ZoB(F:Fun K "__init__" "Shire.__init__" Zag f fd)(Ze:Cls K CS)(Zs:ZJ K CS "land")(Zp:ZJ K CS "places")(ZdG:ZJ K CS "past"):FnOk P w K mg base Zx 1 f fd ["self","tree"] (Zjr CS):=by
 refine JP F ZdJ λcdv A outer s H vs Q E hr h=>?_
 obtain⟨a,dx,tr,rfl,ha,q⟩:=h
 refine⟨_,(Zd (ZiF (Zf 0) (Zf 1))
   (Zd (ZiF (Zf 0) Zhs)
   (Zk (ZiF (Zf 0) (Jz Zb))))),?_⟩
 rw [show Zv ["self","tree"] [.ref a,tr]=[some (.ref a),some (tr)] from rfl]
 walk_at "rd"
 refine⟨CS,dx,[],ha,Ze,Zs,by decide,λds H1 hds s1 e1=>⟨CS,dx,_,s1 _ _ Zi,Ze,Zp,(by show (1:Nat) < 1000; decide),λps H2 hps s2 e2=>⟨CS,dx,_,s2 _ _ Zi,Ze,ZdG,(by show (2:Nat) < 1000; decide),?_⟩⟩⟩
 have f1:JV (Str.ofString "past") (V.ref ps) (JV (Str.ofString "places") (V.ref ds) (JV (Str.ofString "land") tr []))=[(Str.ofString "land",tr),(Str.ofString "places",V.ref ds),(Str.ofString "past",V.ref ps)]:=rfl
 rw [f1]
 have k1:∀ b o,b ≠ a->H b=some o->H1 b=some o:=λb o hb e=>s1 _ _ (by rw [Zj hb]; exact e)
 have k2:∀ b o,b ≠ a->H1 b=some o->H2 b=some o:=λb o hb e=>s2 _ _ (by rw [Zj hb]; exact e)
 have na:ds ≠ a:=λz=>by rw [z,Zi] at hds; cases hds
 have nb:ps ≠ a:=λz=>by rw [z,Zi] at hps; cases hps
 have hd0:H1 ps=none:=by rw [Zj nb] at hps; exact hps
 have hp0:H ps=none:=by
  cases z:H ps with
  | none=>rfl
  | some o=>rw [k1 _ _ nb z] at hd0; cases hd0
 have nd:ds ≠ ps:=λz=>by rw [z,hd0] at e1; cases e1
 have kk:∀ b o,b ≠ a->H b=some o->upd H2 a (.ins CS dx [(Str.ofString "land",tr),(Str.ofString "places",V.ref ds),(Str.ofString "past",V.ref ps)]) b=some o:=λb o hb e=>by rw [Zj hb]; exact k2 _ _ hb (k1 _ _ hb e)
 exact q _ ps ds kk hp0 (by rw [Zj na] at hds; exact hds) Zi (by rw [Zj nb]; exact e2) (by rw [Zj na]; exact k2 _ _ na e1)
def Zj7(CS CT:Addr):Sp:=λvs H Q _=>∃ (ex:List Addr) (a ps:Addr) (rs:List (Nat × Rat)) (kvs:Kvs) (past:List JZ) (tr':V) (ds':Addr) (rs':List (Nat × Rat)) (kvs':Kvs),vs=[.ref a,tr',.ref ds']/\ZM ex CS CT H a ps rs kvs past/\past.length < 1000/\ZO CT (off ex a ps H) tr' rs'/\off ex a ps H ds'=some (.dK kvs') /\
 ∀ H',Jx a ps H H'->ZM ex CS CT H' a ps rs' kvs' (past ++ [(rs,kvs)])->Q .non H'
def ZtR(F:Fun K "do" "Shire.do" ZaX f fd)(Ze:Cls K CS)(Zs:ZJ K CS "land")(Zp:ZJ K CS "places")(ZdG:ZJ K CS "past"):FnOk P w K mg base Zx 1 f fd ["self","land","places"] (Zj7 CS CT):=by
 refine JP F ZhW λcdv A outer s H vs Q E hr h=>?_
 obtain⟨ex,a,ps,rs,kvs,past,tr',ds',rs',kvs',rfl,hS,hpl,hT',hd',q⟩:=h
 obtain⟨dx,tr,ds,pv,h1,h2,h3,h4,h5,hx,hpx⟩:=hS
 refine⟨_,(Zd (ZR (Zim (ZV (Zf 0)) (Zl (Jv (Zl (ZV (Zf 0)) (Zl (ZV (Zf 0)) Zb))) Zb)))
   (Zd (ZiF (Zf 0) (Zf 1))
   (Zk (ZiF (Zf 0) (Zf 2))))),?_⟩
 rw [show Zv ["self","land","places"] [.ref a,tr',.ref ds']=[some (.ref a),some (tr'),some (.ref ds')] from rfl]
 walk_at "rd"
 have na:ps ≠ a:=λz=>by rw [z,h1] at h2; cases h2
 refine⟨CS,dx,_,h1,Ze,ZdG,.ref ps,rfl,ps,rfl,⟨_,h2⟩,CS,dx,_,h1,Ze,Zs,tr,rfl,CS,dx,_,h1,Ze,Zp,.ref ds,rfl,λt H1 ht s1 e1=>?_⟩
 have h1':=s1 _ _ h1
 have h2':=s1 _ _ h2
 refine⟨pv,h2',by rw [h5.1]; omega,CS,dx,_,by rw [Zj (Ne.symm na)]; exact h1',Ze,Zs,(by show (3:Nat) < 1000; decide),CS,dx,_,Zi,Ze,Zp,(by show (3:Nat) < 1000; decide),?_⟩
 have k1:Jx a ps H H1:=.of s1
 have k2:=k1.upd (o:=.lst (pv ++ [.ref t])) (.inr rfl)
 have k3:=k2.upd (o:=.ins CS dx (JV (Str.ofString "land") tr' [(Str.ofString "land",tr),(Str.ofString "places",V.ref ds),(Str.ofString "past",V.ref ps)])) (.inl rfl)
 have k4:=k3.upd (o:=.ins CS dx (JV (Str.ofString "places") (V.ref ds') (JV (Str.ofString "land") tr' [(Str.ofString "land",tr),(Str.ofString "places",V.ref ds),(Str.ofString "past",V.ref ps)]))) (.inl rfl)
 have s4:=k4.off (ex:=ex)
 have nax:a ∉ ex:=λz=>by obtain⟨zs,q⟩:=hx a z; rw [h1] at q; cases q
 have f1:JV (Str.ofString "places") (V.ref ds') (JV (Str.ofString "land") tr' [(Str.ofString "land",tr),(Str.ofString "places",V.ref ds),(Str.ofString "past",V.ref ps)])=[(Str.ofString "land",tr'),(Str.ofString "places",V.ref ds'),(Str.ofString "past",V.ref ps)]:=rfl
 have nt:t ≠ a:=λz=>by rw [z,h1] at ht; cases ht
 have np:t ≠ ps:=λz=>by rw [z,h2] at ht; cases ht
 have ntx:t ∉ ex:=λz=>by obtain⟨zs,q⟩:=hx t z; rw [ht] at q; cases q
 refine q _ k4 ⟨dx,tr',ds',pv ++ [.ref t],?_,?_,hT'.same s4,s4 _ _ hd',(h5.mono λv n g=>g.same s4).snoc ⟨t,tr,ds,rfl,?_,h3.same s4,s4 _ _ h4⟩,k4.lists hx nax hpx,hpx⟩
 ·rw [Zi,f1]
 ·rw [Zj na,Zj na,Zi]
 ·refine ZaT.mpr ⟨nt,np,ntx,?_⟩
  rw [Zj nt,Zj nt,Zj np]
  exact e1
def Jw(z:Str):Prop:=1<=z.length/\z.length<=8/\∀ d∈z.cps.toList,97<=d/\d<=122
def ZqT{z:Str}(hz:∀ d∈z.cps.toList,97<=d/\d<=122):(z.cps.toList.map λd=>decide (d∈(Str.ofString "abcdefghijklmnopqrstuvwxyz").cps.toList)).all id=true:=by
 rw [List.all_eq_true]
 intro b hb
 obtain⟨d,hd,rfl⟩:=Yk.mp hb
 have hr:=hz d hd
 have key:∀ d:Nat,d < 123->97<=d->d∈(Str.ofString "abcdefghijklmnopqrstuvwxyz").cps.toList:=by decide +kernel
 exact YJ (key d (by omega) hr.1)
def ZeQ:Sp:=λvs H Q _=>∃ z:Str,vs=[.str z]/\Jw z/\∀ H',Zn H H'->Q (.bl true) H'
def ZbX:Sp:=λvs H Q _=>∃ x,vs=[x]/\PrP H x/\Q .non H
def ZgJ(F:Fun K "look_price" "look_price" Zbg f fd)(ZbH:Fn P w K mg base Zx 3 "is_price" ["thing"] ZcR):FnOk P w K mg base Zx 4 f fd ["price"] ZbX:=by
 refine JP F Zf7 λcdv A outer s H vs Q E hr h=>?_
 obtain⟨x,rfl,hx,q⟩:=h
 refine⟨_,(Zk (Ja (JO (JD (JB ZbH hr (Zl (Zf 0) Zb)))) (Zk Zbq) ZG)),?_⟩
 rw [show Zv ["price"] [x]=[some (x)] from rfl]
 walk_at "rd"
 exact⟨x,rfl,hx,true,rfl,by rw [if_neg (by decide)]; exact q⟩
def Zdf(C:Addr):Sp:=λvs H Q _=>∃ x rs,vs=[x]/\ZO C H x rs/\rs.length < 40/\Q .non H
def ZhQ{tk:Tok}(F:Fun K "look_room" "look_room" Zbl f fd)(g_MOST_ROADS:mg "MOST_ROADS"=some (.int 40 tk))(ZbQ:Mth P w K mg base Zx 1 CT "many" ["self"] (Zdg CT)):FnOk P w K mg base Zx 2 f fd ["tree"] (Zdf CT):=by
 refine JP F Zhg λcdv A outer s H vs Q E hr h=>?_
 obtain⟨x,rs,rfl,hT,hl,q⟩:=h
 obtain⟨a,dx,la,wa,ls,ws,rfl,h1,_⟩:=id hT
 refine⟨_,(Zk (Ja (Zto (JS (ZbT ZbQ hr (by decide) (Zf 0)) Zc) (Zft rfl g_MOST_ROADS)) (Zk Zbq) ZG)),?_⟩
 rw [show Zv ["tree"] [.ref a]=[some (.ref a)] from rfl]
 walk_at "rd"
 exact⟨dx,_,h1,rfl,.ref a,rs,rfl,hT,_,rfl,by rw [if_neg (by omega)]; exact q⟩
def Zdd(C:Addr):Sp:=λvs H Q _=>∃ (x:V) (rs:List (Nat × Rat)) (j:Nat) (y:V) (r:Nat × Rat),vs=[x,.int ((j:Int) + 1),y]/\ZO C H x rs/\Jy H y r/\j < rs.length/\Jj (rs.set j r)/\rs.length<=40/\(∀ t∈rs.set j r,0<=t.2.num) /\
 ∀ u H',Zn H H'->ZO C H' u (rs.set j r)->(∀ l zs,H l=some (.lst zs)->ZO C (del l H') u (rs.set j r))->Q u H'
theorem ZS.set(h:ZS H xs rs){j:Nat}{y:V}{r:Nat × Rat}(hy:Jy H y r):ZS H (xs.set j y) (rs.set j r):=⟨by simp [h.1],λi x t h1 h2=>by
 by_cases c:j=i
 ·subst c
  have hj:j < xs.length:=by simpa using (List.getElem?_eq_some_iff.mp h1).1
  have hj2:j < rs.length:=by rw [<- h.1]; exact hj
  rw [Vg hj] at h1
  rw [Vg hj2] at h2
  cases h1; cases h2
  exact hy
 ·rw [Vh c] at h1 h2
  exact h.2 i x t h1 h2⟩
theorem ZS.snoc(h:ZS H xs rs){y:V}{r:Nat × Rat}(hy:Jy H y r):ZS H (xs ++ [y]) (rs ++ [r]):=Zdn.snoc (R:=Jy) h hy
theorem Zk9{p:Addr}{Q:VK}(hp:H p=some (.lst xs))(hR:ZS H xs rs)(hO:Jj rs)(hl:rs.length<=40)(hn:∀ t∈rs,0<=t.2.num)
  (q:∀ u H',Zn H H'->ZO CT H' u rs->(∀ l zs,H l=some (.lst zs)->ZO CT (del l H') u rs)->Q u H') (x dx:Addr) (hx:H x=none) (hdx:H dx=none) (hne:dx ≠ x) :
  ZeI CT [V.ref x,V.ref p] (upd (upd H dx (.own x)) x (.ins CT dx [])) (λv H2=>v=V.non/\Q (V.ref x) H2) E0:=by
 have old:∀ b o,H b=some o->upd (upd H dx (.own x)) x (.ins CT dx []) b=some o:=λb o e=>by rw [Zj (Zo e hx),Zj (Zo e hdx)]; exact e
 refine⟨x,dx,p,xs,rs,rfl,Zi,old _ _ hp,hR.keep λb ys e=>old b _ e,hO,hl,hn,λH7 k7 hT7 hall=>⟨rfl,q _ _ (λb o e=>k7 b o (Zo e hx) (old b o e)) hT7 λl zs e=>?_⟩⟩
 exact Zol λys=>hall l zs (old _ _ e) H7 (λ_ _ z=>z) ys
def ZhV(F:Fun K "with_road" "with_road" Zbm f fd)(Zbt:Mth P w K mg base Zx 1 CT "roads" ["self"] (ZcB CT))(Zdy:Mkr P w K mg base Zx 6 CT "Tree" ["self","roads"] (ZeI CT)):FnOk P w K mg base Zx 8 f fd ["tree","k","road"] (Zdd CT):=by
 refine JP F Zd2 λcdv A outer s H vs Q E hr h=>?_
 obtain⟨x,rs,j,y,r,rfl,hT,hy,hj,hO,hl,hn,q⟩:=h
 obtain⟨a,dx,la,wa,ls,ws,rfl,h1,_⟩:=id hT
 refine⟨_,(Zd (Zw 3 Zd2.nd (ZbT Zbt hr (by decide) (Zf 0)))
   (Zd (Zj9 (Zf 2) (ZlW (Zf 3) (JS (Zf 1) Zc)))
   (Zk (Zu (ZgO Zdy hr (by decide) rfl (Zl (Zf 3) Zb)))))),?_⟩
 rw [show Zv ["tree","k","road","roads"] [.ref a,.int ((j:Int) + 1),y]=[some (.ref a),some (.int ((j:Int) + 1)),some (y),none] from rfl]
 walk_at "rd"
 refine⟨dx,_,h1,rfl,.ref a,rs,rfl,hT,λp H1 ls1 hp s1 e1 hR=>⟨p,rfl,ls1,e1,j,?_,?_⟩⟩
 ·rw [show (j:Int) + 1 - 1=(j:Int) by omega]
  exact ZiZ (by rw [hR.1]; exact hj)
 ·have so:Zn H (upd H1 p (.lst (ls1.set j y))):=ZE hp s1
  have nt:∀ b ys,H1 b=some (.tup ys)->upd H1 p (.lst (ls1.set j y)) b=some (.tup ys):=λb ys e=>by rw [Zj (JJ e e1 (by intro z; cases z))]; exact e
  have hR2:ZS (upd H1 p (.lst (ls1.set j y))) (ls1.set j y) (rs.set j r):=(hR.keep nt).set ((hy.same s1).keep nt)
  exact λx3 d3=>Zk9 Zi hR2 hO (by simpa using hl) hn (λu H' s' hT' hall=>q u H' (so.trans s') hT' λl zs e=>hall l zs (so _ _ e)) x3 d3
def Zdc(C:Addr):Sp:=λvs H Q _=>∃ (x:V) (rs:List (Nat × Rat)) (y:V) (r:Nat × Rat),vs=[x,y]/\ZO C H x rs/\Jy H y r/\Jj (rs ++ [r])/\rs.length < 40/\(∀ t∈rs ++ [r],0<=t.2.num) /\
 ∀ u H',Zn H H'->ZO C H' u (rs ++ [r])->(∀ l zs,H l=some (.lst zs)->ZO C (del l H') u (rs ++ [r]))->Q u H'
def Ziv(F:Fun K "with_one_more" "with_one_more" ZaI f fd)(Zbt:Mth P w K mg base Zx 1 CT "roads" ["self"] (ZcB CT))(Zdy:Mkr P w K mg base Zx 6 CT "Tree" ["self","roads"] (ZeI CT)):FnOk P w K mg base Zx 8 f fd ["tree","road"] (Zdc CT):=by
 refine JP F Zd9 λcdv A outer s H vs Q E hr h=>?_
 obtain⟨x,rs,y,r,rfl,hT,hy,hO,hl,hn,q⟩:=h
 obtain⟨a,dx,la,wa,ls,ws,rfl,h1,_⟩:=id hT
 refine⟨_,(Zk (Zu (ZgO Zdy hr (by decide) rfl (Zl (ZhE (ZbT Zbt hr (by decide) (Zf 0)) (Jz (Zl (Zf 1) Zb))) Zb)))),?_⟩
 rw [show Zv ["tree","road"] [.ref a,y]=[some (.ref a),some (y)] from rfl]
 walk_at "rd"
 refine⟨dx,_,h1,rfl,.ref a,rs,rfl,hT,λp H1 ls1 hp s1 e1 hR p2 H2 hp2 s2 e2=>⟨p,rfl,ls1,s2 _ _ e1,_,e2,Zje (by rw [hR.1]; show rs.length + 1<=_; omega),λp3 hp3=>?_⟩⟩
 have s12:=s1.trans s2
 have so:Zn H (upd H2 p3 (.lst (ls1 ++ [y]))):=ZE (s12.free hp3) s12
 have hR2:ZS (upd H2 p3 (.lst (ls1 ++ [y]))) (ls1 ++ [y]) (rs ++ [r]):=((hR.same s2).same (ZH hp3 _)).snoc ((hy.same s12).same (ZH hp3 _))
 exact λx3 d3=>Zk9 Zi hR2 hO (by simp; omega) hn (λu H' s' hT' hall=>q u H' (so.trans s') hT' λl zs e=>hall l zs (so _ _ e)) x3 d3
def Zjk(CS CT:Addr):Sp:=λvs H Q _=>∃ ex a ps rs kvs past,vs=[.ref a]/\ZM ex CS CT H a ps rs kvs past/\∀ tr,ZO CT (off ex a ps H) tr rs->Q tr H
def Zn5(F:Fun K "tree" "Shire.tree" Zaz f fd)(Ze:Cls K CS)(Zs:ZJ K CS "land"):FnOk P w K mg base Zx 1 f fd ["self"] (Zjk CS CT):=by
 refine JP F ZfZ λcdv A outer s H vs Q E hr h=>?_
 obtain⟨ex,a,ps,rs,kvs,past,rfl,⟨dx,tr,ds,pv,h1,h2,h3,h4,h5,hx,hpx⟩,q⟩:=h
 refine⟨_,(Zk (Zu (ZV (Zf 0)))),?_⟩
 rw [show Zv ["self"] [.ref a]=[some (.ref a)] from rfl]
 walk_at "rd"
 exact⟨CS,dx,_,h1,Ze,Zs,tr,rfl,q tr h3⟩
def Zhm(CS CT:Addr):Sp:=λvs H Q _=>∃ ex a ps rs kvs past,vs=[.ref a]/\ZM ex CS CT H a ps rs kvs past/\∀ d H',H d=none->Zn H H'->H' d=some (.dK kvs)->Q (.ref d) H'
def ZkX(F:Fun K "homes" "Shire.homes" Zas f fd)(ZbS:mg "dict"=none)(Ze:Cls K CS)(Zp:ZJ K CS "places"):FnOk P w K mg base Zx 1 f fd ["self"] (Zhm CS CT):=by
 refine JP F Zfn λcdv A outer s H vs Q E hr h=>?_
 obtain⟨ex,a,ps,rs,kvs,past,rfl,⟨dx,tr,ds,pv,h1,h2,h3,h4,h5,hx,hpx⟩,q⟩:=h
 refine⟨_,(Zk (Zu (ZfS rfl ZbS (Zl (ZV (Zf 0)) Zb)))),?_⟩
 rw [show Zv ["self"] [.ref a]=[some (.ref a)] from rfl]
 walk_at "rd"
 simp only [ZfN]
 walk_at "rd"
 exact⟨CS,dx,_,h1,Ze,Zp,.ref ds,rfl,ds,rfl,kvs,.inl (Ju _ _ h4),q⟩
def Ziw(ex:List Addr)(CS CT a ps:Addr)(H:Hp)(rs:List (Nat × Rat))(kvs:Kvs)(past:List JZ)(Q:Hp->Prop):Prop:=∀ H',Jx a ps H H'->ZM ex CS CT H' a ps rs kvs past->Q H'
def Zgh(CS CT:Addr):Sp:=λvs H Q _=>∃ ex a ps rs kvs past z k,vs=[.ref a,.str z,.int k]/\ZM ex CS CT H a ps rs kvs past/\past.length < 1000/\kvs.length < 900/\Ziw ex CS CT a ps H rs (Jt kvs (Sum.inr z) (.int k)) (past ++ [(rs,kvs)]) (Q .non)
def Zo2(F:Fun K "place" "Shire.place" Zat f fd)(ZbS:mg "dict"=none)(Ze:Cls K CS)(Zs:ZJ K CS "land")(Zp:ZJ K CS "places")(ZhD:Mth P w K mg base Zx 1 CS "do" ["self","land","places"] (Zj7 CS CT)):FnOk P w K mg base Zx 2 f fd ["self","name","k"] (Zgh CS CT):=by
 refine JP F Zc3 λcdv A outer s H vs Q E hr h=>?_
 obtain⟨ex,a,ps,rs,kvs,past,z,k,rfl,hS,hpl,hkl,q⟩:=h
 obtain⟨dx,tr,ds,pv,h1,h2,h3,h4,h5,hx,hpx⟩:=id hS
 refine⟨_,(Zd (Zw 3 Zc3.nd (ZfS rfl ZbS (Zl (ZV (Zf 0)) Zb)))
   (Zd (Ze4 (ZdE hr) (Zf 3) (Zf 1) (Zf 2))
   (Zk (ZR (Jc ZhD hr (by decide) (Zf 0) (Zl (ZV (Zf 0)) (Zl (Zf 3) Zb))))))),?_⟩
 rw [show Zv ["self","name","k","places"] [.ref a,.str z,.int k]=[some (.ref a),some (.str z),some (.int k),none] from rfl]
 walk_at "rd"
 simp only [ZfN]
 walk_at "rd"
 refine⟨CS,dx,_,h1,Ze,Zp,.ref ds,rfl,ds,rfl,kvs,.inl (Ju _ _ h4),λp H2 hp s2 e2=>?_⟩
 have S3:Zn H (upd H2 p (.dK (Jt kvs (Sum.inr z) (.int k)))):=ZE hp s2
 refine⟨kvs,e2,Sum.inr z,rfl,by omega,dx,_,S3 _ _ h1,rfl,CS,dx,_,S3 _ _ h1,Ze,Zs,tr,rfl,?_⟩
 exact⟨ex,a,ps,rs,kvs,past,tr,p,rs,_,rfl,hS.same S3,hpl,h3.same (Zck S3),ZmX hp h1 h2 hx Zi,λH' s' hS'=>q H' ((Jx.of S3).trans s') hS'⟩
def Zej(CS CT:Addr):Sp:=λvs H Q _=>∃ ex a ps rs kvs past z,vs=[.ref a,.str z]/\ZM ex CS CT H a ps rs kvs past/\Jw z/\(Jm kvs (Sum.inr z)).isSome=true/\∀ H',Zn H H'->Q .non H'
def ZmP(CS CT:Addr):Sp:=λvs H Q _=>∃ ex a ps rs kvs past z k,vs=[.ref a,.str z,.int k]/\ZM ex CS CT H a ps rs kvs past/\past.length < 1000/\kvs.length < 12/\Jw z/\Jm kvs (Sum.inr z)=none/\inT rs k/\Ziw ex CS CT a ps H rs (Jt kvs (Sum.inr z) (.int k)) (past ++ [(rs,kvs)]) (Q .non)
def ZpM{tk:Tok}(F:Fun K "come" "Shire.come" ZaA f fd)(ZB:mg "len"=none)(g_MOST_VILLAGES:mg "MOST_VILLAGES"=some (.int 12 tk))(Ze:Cls K CS)(Zs:ZJ K CS "land")(Zp:ZJ K CS "places")(ZcJ:Fn P w K mg base Zx 1 "is_name" ["thing"] ZeQ)
  (Zaa:Mth P w K mg base Zx 2 CT "look_crossing" ["self","k"] (λvs H Q _=>ZcW CT CNP vs H Q E0)) (ZdF:Mth P w K mg base Zx 2 CS "place" ["self","name","k"] (Zgh CS CT)):FnOk P w K mg base Zx 3 f fd ["self","name","k"] (ZmP CS CT):=by
 refine JP F ZfT λcdv A outer s H vs Q E hr h=>?_
 obtain⟨ex,a,ps,rs,kvs,past,z,k,rfl,hS,hpl,hkl,hz,hv,hk,q⟩:=h
 obtain⟨dx,tr,ds,pv,h1,h2,h3,h4,h5,hx,hpx⟩:=id hS
 refine⟨_,(Zd (Ja (t_w (J3 (JO (JD (JB ZcJ hr (Zl (Zf 1) Zb)))) (ZdD (ZtS (ZdE hr) (Zf 1) (ZV (Zf 0)))))) (Zk Zbq) ZG)
   (Zd (ZR (Jc Zaa hr (by decide) (ZV (Zf 0)) (Zl (Zf 2) Zb)))
   (Zd (Ja (Zto (Zls rfl ZB (Zl (ZV (Zf 0)) Zb)) (Zft rfl g_MOST_VILLAGES)) (Zk Zbq) ZG)
   (Zk (ZR (Jc ZdF hr (by decide) (Zf 0) (Zl (Zf 1) (Zl (Zf 2) Zb)))))))),?_⟩
 rw [show Zv ["self","name","k"] [.ref a,.str z,.int k]=[some (.ref a),some (.str z),some (.int k)] from rfl]
 refine Zq λB hB=>?_
 refine Jr λA2 hA2 C2 hC2=>?_
 walk_at "rd"
 refine⟨z,rfl,hz,λH1 s1=>⟨true,rfl,?_⟩⟩
 rw [if_neg (by decide)]
 have hS1:=hS.same s1
 refine⟨CS,dx,_,s1 _ _ h1,Ze,Zp,.ref ds,rfl,ds,rfl,kvs,.inl (s1 _ _ (Ju _ _ h4)),Sum.inr z,rfl,?_⟩
 rw [hv,if_neg (by decide)]
 subst hC2
 subst hB
 try dsimp only
 walk_at "rd"
 have hT1:ZO CT H1 tr rs:=(h3.same Ju).same s1
 obtain⟨x,dt,la,wa,ls,ws,rfl,t1,_⟩:=id hT1
 refine⟨CS,dx,_,s1 _ _ h1,Ze,Zs,.ref x,rfl,x,rfl,dt,_,t1,rfl,.ref x,rs,k,rfl,hT1,λ_=>?_,λz=>z hk⟩
 refine⟨CS,dx,_,s1 _ _ h1,Ze,Zp,.ref ds,rfl,ds,rfl,kvs,.inl (s1 _ _ (Ju _ _ h4)),?_⟩
 rw [if_neg (by omega)]
 exact⟨dx,_,s1 _ _ h1,rfl,ex,a,ps,rs,kvs,past,z,k,rfl,hS1,hpl,by omega,λH' s' hS'=>q H' ((Jx.of s1).trans s') hS'⟩
def Zsk(CS CT:Addr):Sp:=λvs H Q _=>∃ ex a ps rs kvs past z,vs=[.ref a,.str z]/\ZM ex CS CT H a ps rs kvs past/\past.length < 1000/\Jw z/\(Jm kvs (Sum.inr z)).isSome=true/\Ziw ex CS CT a ps H rs (Zfi kvs (Sum.inr z)) (past ++ [(rs,kvs)]) (Q .non)
def Zuj(F:Fun K "go" "Shire.go" ZaW f fd)(ZbS:mg "dict"=none)(Ze:Cls K CS)(Zs:ZJ K CS "land")(Zp:ZJ K CS "places")(ZaE:Mth P w K mg base Zx 2 CS "look_village" ["self","name"] (Zej CS CT))(ZhD:Mth P w K mg base Zx 1 CS "do" ["self","land","places"] (Zj7 CS CT)):FnOk P w K mg base Zx 3 f fd ["self","name"] (Zsk CS CT):=by
 refine JP F ZeX λcdv A outer s H vs Q E hr h=>?_
 obtain⟨ex,a,ps,rs,kvs,past,z,rfl,hS,hpl,hz,hv,q⟩:=h
 obtain⟨dx,tr,ds,pv,h1,h2,h3,h4,h5,hx,hpx⟩:=id hS
 refine⟨_,(Zd (ZR (Jc ZaE hr (by decide) (Zf 0) (Zl (Zf 1) Zb)))
   (Zd (Zw 2 ZeX.nd (ZfS rfl ZbS (Zl (ZV (Zf 0)) Zb)))
   (Zd (ZR (Zpq (Zf 2) (Zf 1)))
   (Zk (ZR (Jc ZhD hr (by decide) (Zf 0) (Zl (ZV (Zf 0)) (Zl (Zf 2) Zb)))))))),?_⟩
 rw [show Zv ["self","name","places"] [.ref a,.str z]=[some (.ref a),some (.str z),none] from rfl]
 walk_at "rd"
 simp only [ZfN]
 walk_at "rd"
 refine⟨dx,_,h1,rfl,ex,a,ps,rs,kvs,past,z,rfl,hS,hz,hv,λH1 s1=>?_⟩
 have hS1:=hS.same s1
 refine⟨CS,dx,_,s1 _ _ h1,Ze,Zp,.ref ds,rfl,ds,rfl,kvs,.inl (s1 _ _ (Ju _ _ h4)),λp H2 hp s2 e2=>?_⟩
 obtain⟨v,ev⟩:=Option.isSome_iff_exists.mp hv
 have S3:Zn H1 (upd H2 p (.dK (Zfi kvs (Sum.inr z)))):=ZE hp s2
 have h1':=s1 _ _ h1
 refine⟨.inl ⟨kvs,.inl e2⟩,kvs,e2,Sum.inr z,rfl,⟨v,ev⟩,dx,_,S3 _ _ h1',rfl,CS,dx,_,S3 _ _ h1',Ze,Zs,tr,rfl,?_⟩
 have so:=(Zck (ex:=ex) (a:=a) (p:=ps) s1).trans (Zck S3)
 exact⟨ex,a,ps,rs,kvs,past,tr,p,rs,_,rfl,hS1.same S3,hpl,h3.same so,ZmX hp h1' (s1 _ _ h2) (hx.same s1) Zi,λH' s' hS'=>q H' ((Jx.of (s1.trans S3)).trans s') hS'⟩
end
def Ziu(z:Str):Prop:=z.length<=100/\∀ d∈z.cps.toList,d < 128
def ZlE{z:Str}:(z.cps.toList.map λd=>decide (d∈(Str.ofString "abcdefghijklmnopqrstuvwxyz").cps.toList)).all id=true ↔ ∀ d∈z.cps.toList,97<=d/\d<=122:=by
 refine⟨λh d hd=>?_,ZqT⟩
 have:=List.all_eq_true.mp h _ (Yk.mpr ⟨d,hd,rfl⟩)
 have key:∀ d∈(Str.ofString "abcdefghijklmnopqrstuvwxyz").cps.toList,97<=d/\d<=122:=by decide +kernel
 exact key d (by simpa using this)
section
variable {P:Program}{w:World}{K:PySem.W.Frag}{mg:Str->Option Value}{base:Heap}{f:Addr}{fd:FuncData}{CT CNP CS CNN CNR CTM:Addr}
def Zd0:Sp:=λvs H Q _=>∃ z:Str,vs=[.str z]/\Ziu z/\∀ H' b,Zn H H'->(b=true ↔ Jw z)->Q (.bl b) H'
def ZfC{tk1 tk2:Tok}(F:Fun K "is_name" "is_name" Zb8 f fd)(Zm:mg "isinstance"=none)(ZoU:mg "str"=none)(ZB:mg "len"=none)(Zo5:mg "all"=none)(g_MOST_LETTERS:mg "MOST_LETTERS"=some (.int 8 tk1))(g_LETTERS:mg "LETTERS"=some (.str "abcdefghijklmnopqrstuvwxyz" tk2)) :
  FnOk P w K mg base Zx 1 f fd ["thing"] Zd0:=by
 refine JP F Zkc λcdv A outer s H vs Q E hr h=>?_
 obtain⟨z,rfl,⟨hl,hz⟩,q⟩:=h
 refine⟨_,(Zd (Ja (t_w (J3 (JO (JD (Zc6 rfl Zm (Zl (Zf 0) (Zl (Zm5 rfl ZoU rfl) Zb))))) (ZdD (JO (Zs5 Zc (ZrK rfl ZB (Zl (Zf 0) Zb)) (Zft rfl g_MOST_LETTERS)))))) (Zk (Zu Zh5)) ZG)
   (Zk (Zu (ZsA rfl Zo5 (Zl (ZiU (ZuA ["sign"]) (Zt8 (Zf 0)) (by exact λs H fp=>(Jq 0 (show List.Nodup (["sign"]:List Str) from by decide +kernel))) (by exact λs H fp=>(Zt2 (Zf 0) (ZsW rfl g_LETTERS)))) Zb))))),?_⟩
 rw [show Zv ["thing"] [.str z]=[some (.str z)] from rfl]
 refine Zq λB hB=>?_
 walk_at "rd"
 refine⟨"str",rfl,?_⟩
 rw [if_neg (by decide)]
 refine⟨Zje (by omega),?_⟩
 by_cases c1:z.length=0
 ·rw [if_neg (by omega)]
  exact q _ _ (λ_ _ e=>e) ⟨λy=>(nomatch y),λy=>by have:=y.1; omega⟩
 rw [if_pos (by omega)]
 by_cases c2:8 < z.length
 ·rw [if_pos (by omega)]
  exact q _ _ (λ_ _ e=>e) ⟨λy=>(nomatch y),λy=>by have:=y.2.1; omega⟩
 rw [if_neg (by omega)]
 subst hB
 try dsimp only
 simp only [Zro,tCB,Zj2,ZgA,ZuE]
 walk_at "rd"
 refine⟨λd hd=>by have:=hz d hd; omega,?_⟩
 rw [show JU [some (V.str z)] []=[] from rfl]
 refine ZoY BlR ZnE (as:=z.cps.toList.map λd=>decide (d∈(Str.ofString "abcdefghijklmnopqrstuvwxyz").cps.toList)) (by rw [Yi]) (by rw [Zrx]; omega) (λi d b hd hb H' k os s1 ol hk=>?_) (λp H' ys hp1 s1 e1 hL=>?_)
 ·obtain⟨o,rfl⟩:∃ o,os=[o]:=List.length_eq_one_iff.mp ol
  walk_at "rd"
  rw [Yh,hd] at hb
  cases hb
  exact⟨[_],rfl,rfl,_,rfl,hk _ _ (λ_ _ e=>e) rfl⟩
 ·rw [Znk (g:=V.bl) (λ_ _ _ h=>h) hL] at e1
  exact⟨p,rfl,_,e1,q _ _ s1 ⟨λy=>⟨by omega,by omega,ZlE.mp y⟩,λy=>ZlE.mpr y.2.2⟩⟩
def Zeu(CS CT CNN:Addr):Sp:=λvs H Q E=>∃ ex a ps rs kvs past z,vs=[.ref a,.str z]/\ZM ex CS CT H a ps rs kvs past/\Ziu z/\(Jw z->(Jm kvs (Sum.inr z)).isSome=true->∀ H',Zn H H'->Q .non H')/\(¬ (Jw z/\(Jm kvs (Sum.inr z)).isSome=true)->∀ H',Zn H H'->E (.ref CNN) none H')
def Zk2(F:FunD K "look_village" "Shire.look_village" Zac .none f fd)(ZbA:mg "NoName"=some (.ref CNN))(ec_NoName:ZkV K CNN)(Ze:Cls K CS)(Zp:ZJ K CS "places")(ZcJ:Fn P w K mg base Zx 1 "is_name" ["thing"] Zd0):FnOk P w K mg base (CX1 P w) 2 f fd ["self","name"] (Zeu CS CT CNN):=by
 refine okX F ZcI (λvs H Q E h=>?_) (λcdv A outer s H vs Q E hr h=>?_)
 ·obtain⟨ex,a,ps,rs,kvs,past,z,rfl,_⟩:=h; rfl
 obtain⟨ex,a,ps,rs,kvs,past,z,rfl,hS,hz,q1,q2⟩:=h
 obtain⟨dx,tr,ds,pv,h1,h2,h3,h4,h5,hx,hpx⟩:=id hS
 refine⟨_,(Zk (Ja (t_w (J3 (JO (JD (JB ZcJ hr (Zl (Zf 1) Zb)))) (ZdD (ZrV (ZdE hr) (Zf 1) (ZV (Zf 0)))))) (Zk (Zem Zb1 ZbA ec_NoName rfl (Zl ZN Zb))) ZG)),?_⟩
 rw [show Zv ["self","name"] [.ref a,.str z]=[some (.ref a),some (.str z)] from rfl]
 walk_at "rd"
 refine⟨z,rfl,hz,λH1 b s1 hb=>⟨b,rfl,?_⟩⟩
 cases b with
 | false=>rw [if_pos rfl]; exact q2 (λy=>Yr (hb.mpr y.1)) _ s1
 | true =>
  rw [if_neg (by decide)]
  refine⟨CS,dx,_,s1 _ _ h1,Ze,Zp,.ref ds,rfl,ds,rfl,kvs,.inl (s1 _ _ (Ju _ _ h4)),Sum.inr z,rfl,?_⟩
  cases e:(Jm kvs (Sum.inr z)).isSome with
  | true=>rw [if_neg (by decide)]; exact q1 (hb.mp rfl) e _ s1
  | false=>rw [if_pos rfl]; exact q2 (λy=>by rw [e] at y; exact Yr y.2) _ s1
def ZjA{vs:List V}{Q:V->Hp->Prop}{E:XK}(h:ZeQ vs H Q E):Zd0 vs H Q E:=by
 obtain⟨z,rfl,hn,q⟩:=h
 refine⟨z,rfl,⟨by have:=hn.2.1; omega,λd hd=>by have:=hn.2.2 d hd; omega⟩,λH' b s1 hb=>?_⟩
 rw [hb.mpr hn]
 exact q H' s1
def ZkC{vs:List V}{Q:V->Hp->Prop}{E:XK}(h:Zej CS CT vs H Q E):Zeu CS CT CNN vs H Q E:=by
 obtain⟨ex,a,ps,rs,kvs,past,z,rfl,hS,hn,hv,q⟩:=h
 exact⟨ex,a,ps,rs,kvs,past,z,rfl,hS,⟨by have:=hn.2.1; omega,λd hd=>by have:=hn.2.2 d hd; omega⟩,λ_ _=>q,λy=>absurd ⟨hn,hv⟩ y⟩
end
section
variable {P:Program}{w:World}{K:PySem.W.Frag}{mg:Str->Option Value}{base:Heap}{f:Addr}{fd:FuncData}{CT CNP CS:Addr}
def Zmw(CS CT:Addr):Sp:=λvs H Q _=>∃ ex a ps rs kvs past z k,vs=[.ref a,.str z,.int k]/\ZM ex CS CT H a ps rs kvs past/\past.length < 1000/\kvs.length < 900/\Jw z/\(Jm kvs (Sum.inr z)).isSome=true/\inT rs k/\Ziw ex CS CT a ps H rs (Jt kvs (Sum.inr z) (.int k)) (past ++ [(rs,kvs)]) (Q .non)
def ZpL(F:Fun K "move" "Shire.move" ZaC f fd)(Ze:Cls K CS)(Zs:ZJ K CS "land")(ZaE:Mth P w K mg base Zx 2 CS "look_village" ["self","name"] (Zej CS CT))(Zaa:Mth P w K mg base Zx 2 CT "look_crossing" ["self","k"] (λvs H Q _=>ZcW CT CNP vs H Q E0))(ZdF:Mth P w K mg base Zx 2 CS "place" ["self","name","k"] (Zgh CS CT)):FnOk P w K mg base Zx 3 f fd ["self","name","k"] (Zmw CS CT):=by
 refine JP F ZgD λcdv A outer s H vs Q E hr h=>?_
 obtain⟨ex,a,ps,rs,kvs,past,z,k,rfl,hS,hpl,hkl,hz,hv,hk,q⟩:=h
 obtain⟨dx,tr,ds,pv,h1,h2,h3,h4,h5,hx,hpx⟩:=id hS
 refine⟨_,(Zd (ZR (Jc ZaE hr (by decide) (Zf 0) (Zl (Zf 1) Zb)))
   (Zd (ZR (Jc Zaa hr (by decide) (ZV (Zf 0)) (Zl (Zf 2) Zb)))
   (Zk (ZR (Jc ZdF hr (by decide) (Zf 0) (Zl (Zf 1) (Zl (Zf 2) Zb))))))),?_⟩
 rw [show Zv ["self","name","k"] [.ref a,.str z,.int k]=[some (.ref a),some (.str z),some (.int k)] from rfl]
 walk_at "rd"
 refine⟨dx,_,h1,rfl,ex,a,ps,rs,kvs,past,z,rfl,hS,hz,hv,λH1 s1=>?_⟩
 have hT1:ZO CT H1 tr rs:=(h3.same Ju).same s1
 obtain⟨x,dt,la,wa,ls,ws,rfl,t1,_⟩:=id hT1
 refine⟨CS,dx,_,s1 _ _ h1,Ze,Zs,.ref x,rfl,x,rfl,dt,_,t1,rfl,.ref x,rs,k,rfl,hT1,λ_=>?_,λz=>z hk⟩
 exact⟨dx,_,s1 _ _ h1,rfl,ex,a,ps,rs,kvs,past,z,k,rfl,hS.same s1,hpl,hkl,λH' s' hS'=>q H' ((Jx.of s1).trans s') hS'⟩
def ZeR(C CNP:Addr):Sp:=λvs H Q E=>∃ x rs k,vs=[x,.int k]/\ZO C H x rs/\(∀ (k':Nat) r,k=(k':Int) + 1->rs[k']?=some r->Q (.int (r.1:Int)) H)/\(¬ inR rs k->E (.ref CNP) none H)
def ZlV(F:Fun K "leads_to" "Tree.leads_to" Zak f fd)(ZI:Cls K CT)(Zbb:ZJ K CT "lanes")
  (ZaP:Mth P w K mg base Zx 3 CT "look_road" ["self","k"] (λvs H Q _=>Zeh CT CNP vs H Q E0)):FnOk P w K mg base Zx 4 f fd ["self","k"] (λvs H Q _=>ZeR CT CNP vs H Q E0):=by
 refine JP F Zd7 λcdv A outer s H vs Q E hr h=>?_
 obtain⟨x,rs,k,rfl,hT,q1,q2⟩:=h
 have hin:inR rs k:=VC λz=>q2 z
 refine⟨_,(Zd (ZR (Jc ZaP hr (by decide) (Zf 0) (Zl (Zf 1) Zb)))
   (Zk (Zu (Zr (ZT (ZV (Zf 0)) (JS (Zf 1) Zc)) Zc)))),?_⟩
 rw [show Zv ["self","k"] [x,.int k]=[some (x),some (.int k)] from rfl]
 walk_at "rd"
 obtain⟨a,dx,la,wa,ls,ws,rfl,h1,h2,h3,_⟩:=id hT
 refine⟨a,rfl,dx,_,h1,rfl,.ref a,rs,k,rfl,hT,λ_=>?_,λz=>z hin⟩
 obtain⟨k',hk'⟩:∃ k':Nat,k=(k':Int) + 1:=⟨(k - 1).toNat,by unfold inR at hin; omega⟩
 subst hk'
 have hl:=h3.1
 have hlr:k' < rs.length:=by unfold inR at hin; omega
 have hls:k' < ls.length:=by omega
 obtain⟨p,y,e,e2,e3⟩:=h3.2 k' _ _ (Yc hls) (Yc hlr)
 refine⟨a,rfl,CT,dx,_,h1,ZI,Zbb,.ref la,rfl,la,rfl,ls,h2,_,?_,p,e,_,e2,_,rfl,q1 k' _ rfl (Yc hlr)⟩
 rw [show (k':Int) + 1 - 1=(k':Int) by omega]
 exact ZY (Yc hls)
def Zhv{y:V}(h:Jn H y q)(hn:0<=q.num):PrP H y:=by
 obtain⟨p,rfl,hp⟩:=h
 have hg:Int.gcd q.num (q.den:Int)=1:=by
  show Nat.gcd q.num.natAbs (Int.natAbs (q.den:Int))=1
  rw [Int.natAbs_natCast]
  exact q.reduced
 exact⟨p,_,_,rfl,hp,by have:=q.den_pos; omega,hg,hn⟩
def Zga{H H':Hp}{a ps dx:Addr}{u:V}{fs:List (Str × V)}{pv:List V}(hu:ZO CT H' u rs)(hd:∀ l zs,H l=some (.lst zs)->ZO CT (del l H') u rs)(h1:H a=some (.ins CS dx fs))(hf:fs.length ≠ 2)(h2:H ps=some (.lst pv))(hx:Zec ex H)(s:Zn H H'):ZO CT (off ex a ps H') u rs:=by
 have hL:Zec (ps :: ex) H:=λl hl=>by
  rcases Yl.mp hl with rfl | hl
  ·exact⟨_,h2⟩
  ·exact hx l hl
 have na:a ∉ ps :: ex:=λz=>by obtain⟨zs,q⟩:=hL a z; rw [h1] at q; cases q
 have ht:=Zln hu (hL.same s) λl hl=>let ⟨zs,e⟩:=hL l hl; hd l zs e
 have hda:JK (ps :: ex) H' a=some (.ins CS dx fs):=Zz.mpr ⟨na,s _ _ h1⟩
 refine (Zi5 ht hda (ZlN hu (s _ _ h1) hf)).same λb o e=>?_
 obtain⟨g1,g2⟩:=Zbi.mp e
 obtain⟨g3,g4⟩:=Zz.mp g2
 exact Zz.mpr ⟨λz=>(Yl.mp z).elim g1 g3,g4⟩
def Zjx(rs:List (Nat × Rat))(j:Nat)(q:Rat):List (Nat × Rat):=match rs[j]? with
 | none=>rs
 | some r=>rs.set j (r.1,q)
theorem Zf9{j:Nat}(h:rs[j]?=some r):Zjx rs j q=rs.set j (r.1,q):=by unfold Zjx; rw [h]
def Zfx(CS CT:Addr):Sp:=λvs H Q _=>∃ (ex:List Addr) (a ps:Addr) (rs:List (Nat × Rat)) (kvs:Kvs) (past:List JZ) (j:Nat) (y:V) (t:Rat),vs=[.ref a,.int ((j:Int) + 1),y]/\ZM ex CS CT H a ps rs kvs past/\past.length < 1000/\Jn H y t/\0<=t.num/\j < rs.length/\rs.length<=40/\Jj (Zjx rs j t)/\(∀ r∈Zjx rs j t,0<=r.2.num) /\
 Ziw ex CS CT a ps H (Zjx rs j t) kvs (past ++ [(rs,kvs)]) (Q .non)
def Zkg(F:Fun K "reprice" "Shire.reprice" Zai f fd)(Ze:Cls K CS)(Zs:ZJ K CS "land")(Zp:ZJ K CS "places")(ZaP:Mth P w K mg base Zx 3 CT "look_road" ["self","k"] (λvs H Q _=>Zeh CT CNP vs H Q E0))(ZbM:Mth P w K mg base Zx 4 CT "leads_to" ["self","k"] (λvs H Q _=>ZeR CT CNP vs H Q E0))
  (ZaD:Fn P w K mg base Zx 4 "look_price" ["price"] ZbX) (Zbn:Fn P w K mg base Zx 8 "with_road" ["tree","k","road"] (Zdd CT)) (ZhD:Mth P w K mg base Zx 1 CS "do" ["self","land","places"] (Zj7 CS CT)):FnOk P w K mg base Zx 9 f fd ["self","k","price"] (Zfx CS CT):=by
 refine JP F Zeb λcdv A outer s H vs Q E hr h=>?_
 obtain⟨ex,a,ps,rs,kvs,past,j,y,t,rfl,hS,hpl,hy,hn,hj,hl,hO,hnn,q⟩:=h
 obtain⟨dx,tr,ds,pv,h1,h2,h3,h4,h5,hx,hpx⟩:=id hS
 have hT:ZO CT H tr rs:=h3.same Ju
 obtain⟨x,dt,la,wa,ls,ws,rfl,t1,_⟩:=id hT
 have hin:inR rs ((j:Int) + 1):=by unfold inR; omega
 have hr0:=Yc hj
 rw [Zf9 hr0] at hO hnn q
 refine⟨_,(Zd (ZR (Jc ZaP hr (by decide) (ZV (Zf 0)) (Zl (Zf 1) Zb)))
   (Zd (ZR (JB ZaD hr (Zl (Zf 2) Zb)))
   (Zk (ZR (Jc ZhD hr (by decide) (Zf 0) (Zl (JB Zbn hr (Zl (ZV (Zf 0)) (Zl (Zf 1) (Zl (Jv (Zl (Jc ZbM hr (by decide) (ZV (Zf 0)) (Zl (Zf 1) Zb)) (Zl (Zf 2) Zb))) Zb)))) (Zl (ZV (Zf 0)) Zb))))))),?_⟩
 rw [show Zv ["self","k","price"] [.ref a,.int ((j:Int) + 1),y]=[some (.ref a),some (.int ((j:Int) + 1)),some (y)] from rfl]
 walk_at "rd"
 refine⟨CS,dx,_,h1,Ze,Zs,.ref x,rfl,x,rfl,dt,_,t1,rfl,.ref x,rs,_,rfl,hT,λ_=>?_,λz=>z hin⟩
 refine⟨y,rfl,Zhv hy hn,?_⟩
 refine⟨dx,_,h1,rfl,CS,dx,_,h1,Ze,Zs,.ref x,rfl,CS,dx,_,h1,Ze,Zs,.ref x,rfl,x,rfl,dt,_,t1,rfl,.ref x,rs,_,rfl,hT,λk' r ek er p H2 hp s2 e2=>?_,λz=>z hin⟩
 obtain rfl:k'=j:=by omega
 rw [hr0] at er
 cases er
 refine⟨.ref x,rs,k',.ref p,(rs[k'].1,t),rfl,hT.same s2,⟨p,y,rfl,e2,hy.same s2⟩,hj,hO,hl,hnn,λu H3 s3 hu hd=>?_⟩
 have s23:=s2.trans s3
 refine⟨CS,dx,_,s23 _ _ h1,Ze,Zp,.ref ds,rfl,?_⟩
 exact⟨ex,a,ps,rs,kvs,past,u,ds,_,kvs,rfl,hS.same s23,hpl,Zga hu (λl zs e=>hd l zs (s2 _ _ e)) h1 (by show (3:Nat) ≠ 2; decide) h2 hx s23,(Zck s23) _ _ h4,λH' s' hS'=>q H' ((Jx.of s23).trans s') hS'⟩
def ZiM(CS CT:Addr):Sp:=λvs H Q _=>∃ (ex:List Addr) (a ps:Addr) (rs:List (Nat × Rat)) (kvs:Kvs) (past:List JZ) (to:Nat) (y:V) (t:Rat),vs=[.ref a,.int (to:Int),y]/\ZM ex CS CT H a ps rs kvs past/\past.length < 1000/\Jn H y t/\0<=t.num/\to<=rs.length/\rs.length < 40/\Jj (rs ++ [(to,t)])/\(∀ r∈rs ++ [(to,t)],0<=r.2.num) /\
 Ziw ex CS CT a ps H (rs ++ [(to,t)]) kvs (past ++ [(rs,kvs)]) (Q (.int ((rs.length:Int) + 1)))
def Zo7(F:Fun K "build" "Shire.build" Zau f fd)(Ze:Cls K CS)(Zs:ZJ K CS "land")(Zp:ZJ K CS "places")(Zaa:Mth P w K mg base Zx 2 CT "look_crossing" ["self","k"] (λvs H Q _=>ZcW CT CNP vs H Q E0))(ZbQ:Mth P w K mg base Zx 1 CT "many" ["self"] (Zdg CT))
  (ZaD:Fn P w K mg base Zx 4 "look_price" ["price"] ZbX) (Zbp:Fn P w K mg base Zx 2 "look_room" ["tree"] (Zdf CT)) (ZaG:Fn P w K mg base Zx 8 "with_one_more" ["tree","road"] (Zdc CT)) (ZhD:Mth P w K mg base Zx 1 CS "do" ["self","land","places"] (Zj7 CS CT)):FnOk P w K mg base Zx 9 f fd ["self","to","price"] (ZiM CS CT):=by
 refine JP F ZcZ λcdv A outer s H vs Q E hr h=>?_
 obtain⟨ex,a,ps,rs,kvs,past,to,y,t,rfl,hS,hpl,hy,hn,hto,hl,hO,hnn,q⟩:=h
 obtain⟨dx,tr,ds,pv,h1,h2,h3,h4,h5,hx,hpx⟩:=id hS
 have hT:ZO CT H tr rs:=h3.same Ju
 obtain⟨x,dt,la,wa,ls,ws,rfl,t1,_⟩:=id hT
 have hin:inT rs (to:Int):=by unfold inT; omega
 refine⟨_,(Zd (ZR (Jc Zaa hr (by decide) (ZV (Zf 0)) (Zl (Zf 1) Zb)))
   (Zd (ZR (JB ZaD hr (Zl (Zf 2) Zb)))
   (Zd (ZR (JB Zbp hr (Zl (ZV (Zf 0)) Zb)))
   (Zd (Zw 3 ZcZ.nd (ZbT ZbQ hr (by decide) (ZV (Zf 0))))
   (Zd (ZR (Jc ZhD hr (by decide) (Zf 0) (Zl (JB ZaG hr (Zl (ZV (Zf 0)) (Zl (Jv (Zl (Zf 1) (Zl (Zf 2) Zb))) Zb))) (Zl (ZV (Zf 0)) Zb))))
   (Zk (Zu (Zf 3)))))))),?_⟩
 rw [show Zv ["self","to","price","fresh"] [.ref a,.int (to:Int),y]=[some (.ref a),some (.int (to:Int)),some (y),none] from rfl]
 walk_at "rd"
 refine⟨CS,dx,_,h1,Ze,Zs,.ref x,rfl,x,rfl,dt,_,t1,rfl,.ref x,rs,_,rfl,hT,λ_=>?_,λz=>z hin⟩
 refine⟨y,rfl,Zhv hy hn,CS,dx,_,h1,Ze,Zs,.ref x,rfl,.ref x,rs,rfl,hT,hl,CS,dx,_,h1,Ze,Zs,.ref x,rfl,x,rfl,dt,_,t1,rfl,.ref x,rs,rfl,hT,?_⟩
 refine⟨dx,_,h1,rfl,CS,dx,_,h1,Ze,Zs,.ref x,rfl,λp H2 hp s2 e2=>?_⟩
 refine⟨.ref x,rs,.ref p,(to,t),rfl,hT.same s2,⟨p,y,rfl,e2,hy.same s2⟩,hO,hl,hnn,λu H3 s3 hu hd=>?_⟩
 have s23:=s2.trans s3
 refine⟨CS,dx,_,s23 _ _ h1,Ze,Zp,.ref ds,rfl,?_⟩
 exact⟨ex,a,ps,rs,kvs,past,u,ds,_,kvs,rfl,hS.same s23,hpl,Zga hu (λl zs e=>hd l zs (s2 _ _ e)) h1 (by show (3:Nat) ≠ 2; decide) h2 hx s23,(Zck s23) _ _ h4,λH' s' hS'=>q H' ((Jx.of s23).trans s') hS'⟩
def Zks(rs:List (Nat × Rat))(j:Nat)(t:Rat):List (Nat × Rat):=match rs[j]? with
 | none=>rs
 | some r=>(rs ++ [(r.1,t)]).set j (rs.length + 1,r.2 - t)
theorem Ze8{j:Nat}(h:rs[j]?=some r):Zks rs j q=(rs ++ [(r.1,q)]).set j (rs.length + 1,r.2 - q):=by unfold Zks; rw [h]
def Zpe(CS CT:Addr):Sp:=λvs H Q _=>∃ (ex:List Addr) (a ps:Addr) (rs:List (Nat × Rat)) (kvs:Kvs) (past:List JZ) (j:Nat) (y:V) (t:Rat) (r:Nat × Rat),vs=[.ref a,.int ((j:Int) + 1),y]/\ZM ex CS CT H a ps rs kvs past/\past.length < 1000/\Jn H y t/\0<=t.num/\rs[j]?=some r/\rs.length < 40/\JN 2000 r.2/\JN 2000 t/\¬ r.2 < t/\Jj (rs ++ [(r.1,t)])/\(∀ u∈rs ++ [(r.1,t)],0<=u.2.num)/\Jj (Zks rs j t)/\(∀ u∈Zks rs j t,0<=u.2.num) /\
 Ziw ex CS CT a ps H (Zks rs j t) kvs (past ++ [(rs,kvs)]) (Q (.int ((rs.length:Int) + 1)))
def ZrJ(F:Fun K "cut" "Shire.cut" ZaK f fd)(Ze:Cls K CS)(Zs:ZJ K CS "land")(Zp:ZJ K CS "places")(ZdI:Mth P w K mg base Zx 4 CT "price" ["self","k"] (λvs H Q _=>Zfd CT CNP vs H Q E0))(ZbM:Mth P w K mg base Zx 4 CT "leads_to" ["self","k"] (λvs H Q _=>ZeR CT CNP vs H Q E0))(ZbQ:Mth P w K mg base Zx 1 CT "many" ["self"] (Zdg CT))
  (ZaD:Fn P w K mg base Zx 4 "look_price" ["price"] ZbX) (ZeT:Fn P w K mg base Zx 1 "is_less" ["one","other"] ZlT) (Zbp:Fn P w K mg base Zx 2 "look_room" ["tree"] (Zdf CT)) (ZaG:Fn P w K mg base Zx 8 "with_one_more" ["tree","road"] (Zdc CT)) (Zbn:Fn P w K mg base Zx 8 "with_road" ["tree","k","road"] (Zdd CT))
  (ZeF:Fn P w K mg base Zx 3 "rest_of" ["one","other"] (Zjd (· - ·))) (ZhD:Mth P w K mg base Zx 1 CS "do" ["self","land","places"] (Zj7 CS CT)):FnOk P w K mg base Zx 9 f fd ["self","k","price"] (Zpe CS CT):=by
 refine JP F ZbZ λcdv A outer s H vs Q E hr h=>?_
 obtain⟨ex,a,ps,rs,kvs,past,j,y,t,r,rfl,hS,hpl,hy,hn,hr0,hl,z1,z2,hle,hO1,hn1,hO,hnn,q⟩:=h
 obtain⟨dx,tr,ds,pv,h1,h2,h3,h4,h5,hx,hpx⟩:=id hS
 have hT:ZO CT H tr rs:=h3.same Ju
 obtain⟨x,dt,la,wa,ls,ws,rfl,t1,_⟩:=id hT
 have hj:j < rs.length:=(Yf.mp hr0).1
 have hin:inR rs ((j:Int) + 1):=by unfold inR; omega
 rw [Ze8 hr0] at hO hnn q
 refine⟨_,(Zd (Zw 3 ZbZ.nd (Jc ZdI hr (by decide) (ZV (Zf 0)) (Zl (Zf 1) Zb)))
   (Zd (ZR (JB ZaD hr (Zl (Zf 2) Zb)))
   (Zd (Ja (JD (JB ZeT hr (Zl (Zf 3) (Zl (Zf 2) Zb)))) (Zk Zbq) ZG)
   (Zd (ZR (JB Zbp hr (Zl (ZV (Zf 0)) Zb)))
   (Zd (Zw 4 ZbZ.nd (ZbT ZbQ hr (by decide) (ZV (Zf 0))))
   (Zd (Zw 5 ZbZ.nd (JB ZaG hr (Zl (ZV (Zf 0)) (Zl (Jv (Zl (Jc ZbM hr (by decide) (ZV (Zf 0)) (Zl (Zf 1) Zb)) (Zl (Zf 2) Zb))) Zb))))
   (Zd (ZR (Jc ZhD hr (by decide) (Zf 0) (Zl (JB Zbn hr (Zl (Zf 5) (Zl (Zf 1) (Zl (Jv (Zl (Zf 4) (Zl (JB ZeF hr (Zl (Zf 3) (Zl (Zf 2) Zb))) Zb))) Zb)))) (Zl (ZV (Zf 0)) Zb))))
   (Zk (Zu (Zf 4)))))))))),?_⟩
 rw [show Zv ["self","k","price","whole","fresh","longer"] [.ref a,.int ((j:Int) + 1),y]=[some (.ref a),some (.int ((j:Int) + 1)),some (y),none,none,none] from rfl]
 refine Zq λB hB=>?_
 walk_at "rd"
 refine⟨CS,dx,_,h1,Ze,Zs,.ref x,rfl,x,rfl,dt,_,t1,rfl,.ref x,rs,_,rfl,hT,λk' r' wh ek er hwh=>?_,λz=>z hin⟩
 obtain rfl:k'=j:=by omega
 rw [hr0] at er
 cases er
 subst hB
 try dsimp only
 refine Zq λB hB=>?_
 walk_at "rd"
 refine⟨y,rfl,Zhv hy hn,?_⟩
 subst hB
 try dsimp only
 refine Zq λB hB=>?_
 walk_at "rd"
 refine⟨wh,y,r.2,t,rfl,hwh,hy,z1,z2,_,rfl,?_⟩
 rw [if_neg (by simpa using hle)]
 subst hB
 try dsimp only
 walk_at "rd"
 refine⟨CS,dx,_,h1,Ze,Zs,.ref x,rfl,.ref x,rs,rfl,hT,hl,CS,dx,_,h1,Ze,Zs,.ref x,rfl,x,rfl,dt,_,t1,rfl,.ref x,rs,rfl,hT,?_⟩
 refine⟨CS,dx,_,h1,Ze,Zs,.ref x,rfl,CS,dx,_,h1,Ze,Zs,.ref x,rfl,x,rfl,dt,_,t1,rfl,.ref x,rs,_,rfl,hT,λk2 r2 ek2 er2 p H2 hp s2 e2=>?_,λz=>z hin⟩
 obtain rfl:k2=k':=by omega
 rw [hr0] at er2
 cases er2
 refine⟨.ref x,rs,.ref p,(r.1,t),rfl,hT.same s2,⟨p,y,rfl,e2,hy.same s2⟩,hO1,hl,hn1,λu H3 s3 hu hd=>?_⟩
 have s23:=s2.trans s3
 refine⟨dx,_,s23 _ _ h1,rfl,wh,y,r.2,t,rfl,hwh.same s23,hy.same s23,z1,z2,λv H4 s4 hv p5 H5 hp5 s5 e5=>?_⟩
 have s35:=s4.trans s5
 have s25:=s23.trans s35
 refine⟨u,rs ++ [(r.1,t)],k2,.ref p5,(rs.length + 1,r.2 - t),rfl,hu.same s35,⟨p5,v,rfl,e5,hv.same s5⟩,by simp; omega,hO,by simp; omega,hnn,λu2 H6 s6 hu2 hd2=>?_⟩
 have s26:=s25.trans s6
 refine⟨CS,dx,_,s26 _ _ h1,Ze,Zp,.ref ds,rfl,?_⟩
 exact⟨ex,a,ps,rs,kvs,past,u2,ds,_,kvs,rfl,hS.same s26,hpl,Zga hu2 (λl zs e=>hd2 l zs (s25 _ _ e)) h1 (by show (3:Nat) ≠ 2; decide) h2 hx s26,(Zck s26) _ _ h4,λH' s' hS'=>q H' ((Jx.of s26).trans s') hS'⟩
end
def Zun(k sd sp:Int)(i:Nat):Nat:=97 + ((sd / 64 + (i:Int) * (sd / 7 % 3) + (if (i:Int)=sp then k else 0)) % 26).toNat
def Zij(k sd sp:Int):Nat->Str
 | 0=>Str.empty
 | i + 1=>Zij k sd sp i ++ one (Zun k sd sp i)
def Zdm(k sd:Int):Str:=Zij k sd (sd / 8 % (1 + (sd + k * (sd % 2)) % 8)) (1 + (sd + k * (sd % 2)) % 8).toNat
def ZgF(k sd sp:Int):∀ i,(Zij k sd sp i).length=i
 | 0=>rfl
 | i + 1=>by
  show (Zij k sd sp i ++ one _).length=_
  rw [strLen_append,ZgF k sd sp i]
  rfl
def Zrz{i:Int}(h0:0<=i)(h1:i < 26):atI (Str.ofString "abcdefghijklmnopqrstuvwxyz").cps.toList i=some (97 + i.toNat):=by
 obtain⟨k,rfl⟩:∃ k:Nat,i=(k:Int):=⟨i.toNat,by omega⟩
 have key:∀ k:Nat,k < 26->(Str.ofString "abcdefghijklmnopqrstuvwxyz").cps.toList[k]?=some (97 + k):=by decide +kernel
 exact ZY (key k (by omega))
def ZqI:(Str.ofString "abcdefghijklmnopqrstuvwxyz").length=26:=by decide +kernel
def Zu3(H0:Hp)(k sd sz sp:Int)(i:Nat)(Z:St)(H:Hp):Prop:=∃ (o1 o2:Option V),Z=[some (.int k),some (.int sd),some (.str (Str.ofString "abcdefghijklmnopqrstuvwxyz")),some (.int sz),some (.int sp),some (.str (Zij k sd sp i)),o1,o2]/\H=H0
section
variable {P:Program}{w:World}{K:PySem.W.Frag}{mg:Str->Option Value}{base:Heap}{f:Addr}{fd:FuncData}{CT CNP CS:Addr}
def Zi3:Sp:=λvs H Q _=>∃ k sd:Int,vs=[.int k,.int sd]/\0<=k/\k < 26/\0<=sd/\sd < 99989/\Q (.str (Zdm k sd)) H
def Znz(F:Fun K "_law_name" "_law_name" ZbJ f fd)(Jk:mg "range"=none):FnOk P w K mg base Zx 1 f fd ["_law_k","_law_seed"] Zi3:=by
 refine JP F ZaO λcdv A outer s H vs Q E hr h=>?_
 obtain⟨k,sd,rfl,hk0,hk1,hs0,hs1,q⟩:=h
 unfold Zdm at q
 refine⟨_,(Zd (Zw 2 ZaO.nd ZN)
   (Zd (Zw 3 ZaO.nd (Jd Zc (Z4 (Jd (Zf 1) (JR (Zf 0) (Z4 (Zf 1) Zc))) Zc)))
   (Zd (Zw 4 ZaO.nd (Z4 (Zfa (Zf 1) Zc) (Zf 3)))
   (Zd (Zw 5 ZaO.nd ZN)
   (Zd (ZdW YD (Zfo rfl Jk (Zl (Zf 3) Zb)) (Jq 6 ZaO.nd) (Zd (Zw 7 ZaO.nd (Jd (Zfa (Zf 1) Zc) (JR (Zf 6) (Z4 (Zfa (Zf 1) Zc) Zc))))
   (Zd (Ja (JX (Zf 6) (Zf 4)) (Zk (Zw 7 ZaO.nd (Jd (Zf 7) (Zf 0)))) ZG)
   (Zk (Zw 5 ZaO.nd (Zsx (Zf 5) (ZtA (Zf 2) (Z4 (Zf 7) Zc))))))))
   (Zk (Zu (Zf 5)))))))),?_⟩
 rw [show Zv ["_law_k","_law_seed","_law_letters","_law_size","_law_spot","_law_word","_law_place","_law_at"] [.int k,.int sd]=[some (.int k),some (.int sd),none,none,none,none,none,none] from rfl]
 walk_at "rd"
 simp only [ZeU]
 walk_at "rd"
 have hz0:∀ u:Int,0<=u % 8/\u % 8 < 8:=λu=>⟨Yv _ (by decide),Yw _ (by decide)⟩
 have hsz:=hz0 (sd + k * (sd % 2))
 generalize (sd + k * (sd % 2)) % 8=z8 at hsz q ⊢
 refine⟨.inr ⟨by omega,by omega⟩,by omega,by omega,by omega,?_⟩
 refine Zep (Zu3 H k sd (1 + z8) (sd / 8 % (1 + z8))) ⟨_,_,rfl,rfl⟩ (λi Z H2 hi hP=>?_) (λZ H2 hP=>?_)
 ·obtain⟨o1,o2,rfl,rfl⟩:=hP
  have hi8:i < 8:=by omega
  have hz:=ZgF k sd (sd / 8 % (1 + z8)) i
  refine Zq λB hB=>?_
  walk_at "rd"
  refine⟨.inl ⟨by omega,by omega⟩,?_⟩
  subst hB
  try dsimp only
  refine Zq λB hB=>?_
  have fin2:∀ u:Int,u=sd / 64 + (i:Int) * (sd / 7 % 3) + (if (i:Int)=sd / 8 % (1 + z8) then k else 0)->B [some (V.int k),some (V.int sd),some (V.str (Str.ofString "abcdefghijklmnopqrstuvwxyz")),some (V.int (1 + z8)),some (V.int (sd / 8 % (1 + z8))),some (V.str (Zij k sd (sd / 8 % (1 + z8)) i)),some (V.int (i:Int)),some (V.int u)] H2:=by
   intro u hu
   subst hB
   try dsimp only
   walk_at "rd"
   refine⟨by rw [ZqI]; decide,_,Zrz (i:=u % 26) (by omega) (by omega),?_,some (V.int (i:Int)),some (V.int u),?_,rfl⟩
   ·show (Zij k sd (sd / 8 % (1 + z8)) i).length + 1<=sizeLine
    exact Zje (by omega)
   ·rw [hu]
    rfl
  walk_at "rd"
  refine JA (λc=>fin2 _ (by rw [if_pos c])) (λc=>fin2 _ (by rw [if_neg c,Int.add_zero]))
 ·obtain⟨o1,o2,rfl,rfl⟩:=hP
  walk_at "rd"
  exact q
end
def Zih:∀ j:Fin 23,∀ s:Fin 3,1<=(Zdm ((j:Nat):Int) (100 + ((s:Nat):Int))).length/\(Zdm ((j:Nat):Int) (100 + ((s:Nat):Int))).length<=8/\∀ d∈(Zdm ((j:Nat):Int) (100 + ((s:Nat):Int))).cps.toList,97<=d/\d<=122:=by decide +kernel
def Zq8:∀ j:Fin 23,∀ j':Fin 23,∀ s:Fin 3,∀ s':Fin 3,j ≠ j'->Zdm ((j:Nat):Int) (100 + ((s:Nat):Int)) ≠ Zdm ((j':Nat):Int) (100 + ((s':Nat):Int)):=by decide +kernel
def ZmN(rs:List (Nat × Rat))(j:Nat)(e:Int):List (Nat × Rat):=match rs[j]? with
 | none=>[]
 | some r=>rs.take j ++ [(rs.length + 1,Rat.divInt (r.2.num * (8 - e)) ((r.2.den:Int) * 8))] ++ rs.drop (j + 1) ++ [(r.1,Rat.divInt (r.2.num * e) ((r.2.den:Int) * 8))]
section
variable {rs:List (Nat × Rat)}{hf:Str->Nat}{ss:List Str}{j:Nat}{e:Int}{r:Nat × Rat}
def ZmR(h:rs[j]?=some r):(ZmN rs j e).length=rs.length + 1:=by
 have hj:=(Yf.mp h).1
 unfold ZmN
 rw [h]
 simp
 omega
def ZpA(h:rs[j]?=some r)(k:Nat):(ZmN rs j e)[k]?=if k=j then some (rs.length + 1,Rat.divInt (r.2.num * (8 - e)) ((r.2.den:Int) * 8)) else if k < rs.length then rs[k]? else if k=rs.length then some (r.1,Rat.divInt (r.2.num * e) ((r.2.den:Int) * 8)) else none:=by
 have hj:=(Yf.mp h).1
 unfold ZmN
 rw [h]
 dsimp only
 have l1:(rs.take j).length=j:=by rw [Y6]; omega
 have l2:(rs.take j ++ [(rs.length + 1,Rat.divInt (r.2.num * (8 - e)) ((r.2.den:Int) * 8))]).length=j + 1:=by rw [YZ,l1]; rfl
 have l3:(rs.take j ++ [(rs.length + 1,Rat.divInt (r.2.num * (8 - e)) ((r.2.den:Int) * 8))] ++ rs.drop (j + 1)).length=rs.length:=by rw [YZ,l2,List.length_drop]; omega
 by_cases c1:k < rs.length
 ·rw [YK (by rw [l3]; exact c1)]
  by_cases c2:k < j + 1
  ·rw [YK (by rw [l2]; exact c2)]
   by_cases c3:k < j
   ·rw [YK (by rw [l1]; exact c3),List.getElem?_take_of_lt c3,if_neg (by omega),if_pos c1]
   ·have:k=j:=by omega
    subst this
    rw [YI (by rw [l1]; exact Yd _),l1,Nat.sub_self,if_pos rfl]
    rfl
  ·rw [YI (by rw [l2]; omega),l2,List.getElem?_drop,if_neg (by omega),if_pos c1]
   congr 1
   omega
 ·rw [YI (by rw [l3]; omega),l3,if_neg (by omega),if_neg c1]
  by_cases c2:k=rs.length
  ·rw [if_pos c2,c2,Nat.sub_self]
   rfl
  ·rw [if_neg c2,List.getElem?_eq_none (by simp; omega)]
def ZoX(hO:Jj rs)(h:rs[j]?=some r):Jj (ZmN rs j e):=by
 have hj:=(Yf.mp h).1
 obtain⟨rank,r0,hb,hr⟩:=hO
 obtain⟨g1,g2⟩:=hr j r h
 refine⟨λv=>if v=rs.length + 1 then rank (j + 1) else if rank v < rank (j + 1) then rank v else rank v + 1,?_,λv=>?_,λk t ht=>?_⟩
 ·dsimp only
  rw [r0]
  (repeat' split) <;> omega
 ·rw [ZmR h]
  have h1:=hb v
  have h2:=hb (j + 1)
  dsimp only
  (repeat' split) <;> omega
 ·rw [ZpA h] at ht
  rw [ZmR h]
  by_cases c1:k=j
  ·rw [if_pos c1] at ht
   cases ht
   subst c1
   refine⟨Yd _,?_⟩
   dsimp only
   (repeat' split) <;> omega
  ·rw [if_neg c1] at ht
   by_cases c2:k < rs.length
   ·rw [if_pos c2] at ht
    obtain⟨a1,a2⟩:=hr k t ht
    refine⟨by omega,?_⟩
    dsimp only
    (repeat' split) <;> omega
   ·rw [if_neg c2] at ht
    by_cases c3:k=rs.length
    ·rw [if_pos c3] at ht
     cases ht
     subst c3
     refine⟨by omega,?_⟩
     dsimp only
     (repeat' split) <;> omega
    ·rw [if_neg c3] at ht
     cases ht
end
def Zfq{rs rs':List (Nat × Rat)}(h:rs.map (·.1)=rs'.map (·.1))(hT:Jj rs):Jj rs':=by
 obtain⟨rank,r0,hb,hr⟩:=hT
 have hl:rs.length=rs'.length:=by have:=congrArg List.length h; simpa using this
 refine⟨rank,r0,λv=>by rw [<- hl]; exact hb v,λk r e=>?_⟩
 have hk:k < rs.length:=by rw [hl]; exact (Yf.mp e).1
 have e2:=congrArg (λl=>l[k]?) h
 simp only [List.getElem?_map,e,List.getElem?_eq_getElem hk,Option.map_some,Option.some.injEq] at e2
 obtain⟨g1,g2⟩:=hr k _ (Yc hk)
 rw [e2] at g1 g2
 rw [<- hl]
 exact⟨g1,g2⟩
theorem Zfc(hT:Jj rs){to:Nat}(hto:to<=rs.length)(t:Rat):Jj (rs ++ [(to,t)]):=by
 obtain⟨rank,r0,hb,hr⟩:=hT
 have hl:(rs ++ [(to,t)]).length=rs.length + 1:=by simp
 refine⟨λv=>if v=rs.length + 1 then rank to + 1 else rank v,?_,λv=>?_,λk r e=>?_⟩
 ·dsimp only
  rw [if_neg (by omega)]
  exact r0
 ·rw [hl]
  have h1:=hb v
  have h2:=hb to
  dsimp only
  split <;> omega
 ·rw [hl]
  by_cases c:k < rs.length
  ·rw [YK c] at e
   obtain⟨g1,g2⟩:=hr k r e
   dsimp only
   rw [if_neg (by omega),if_neg (by omega)]
   exact⟨by omega,g2⟩
  ·have hk:k=rs.length:=by have:=(Yf.mp e).1; rw [hl] at this; omega
   subst hk
   rw [YI (Yd _),Nat.sub_self] at e
   cases e
   dsimp only
   rw [if_neg (by omega),if_pos rfl]
   exact⟨by omega,by omega⟩
def Zid(hT:Jj rs)(j:Nat)(t:Rat):Jj (Zjx rs j t):=by
 unfold Zjx
 cases h:rs[j]? with
 | none=>exact hT
 | some r =>
  refine Zfq ?_ hT
  refine Vu λi=>?_
  rw [Yh,Yh]
  by_cases c:j=i
  ·subst c
   rw [Vg (Yf.mp h).1,h]
   rfl
  ·rw [Vh c]
def Zhy(hT:Jj rs){j:Nat}{r:Nat × Rat}(h:rs[j]?=some r)(t:Rat):Jj (Zks rs j t):=by
 have hj:=(Yf.mp h).1
 refine Zfq ?_ (ZoX (e:=0) hT h)
 rw [Ze8 h]
 refine Vu λi=>?_
 rw [Yh,Yh,ZpA h]
 by_cases c:i=j
 ·subst c
  rw [if_pos rfl,List.getElem?_set_self (by simp; omega)]
  rfl
 ·rw [if_neg c,Vh (Ne.symm c)]
  by_cases c2:i < rs.length
  ·rw [if_pos c2,YK c2]
  ·rw [if_neg c2,YI (by omega)]
   by_cases c3:i=rs.length
   ·rw [if_pos c3,c3,Nat.sub_self]
    rfl
   ·rw [if_neg c3,List.getElem?_eq_none (by simp; omega)]
inductive Deed where
 | come (z:Str) (k:Nat)
 | go (z:Str)
 | move (z:Str) (k:Nat)
 | reprice (j:Nat) (t:Rat)
 | build (to:Nat) (t:Rat)
 | cut (j:Nat) (t:Rat)
def done:Deed->JZ->JZ
 | .come z k,n=>(n.1,Jt n.2 (Sum.inr z) (.int (k:Int)))
 | .go z,n=>(n.1,Zfi n.2 (Sum.inr z))
 | .move z k,n=>(n.1,Jt n.2 (Sum.inr z) (.int (k:Int)))
 | .reprice j t,n=>(Zjx n.1 j t,n.2)
 | .build to t,n=>(n.1 ++ [(to,t)],n.2)
 | .cut j t,n=>(Zks n.1 j t,n.2)
def Zoc(i:Nat)(kv:Je × V):Prop:=∃ (j:Fin 23) (s:Fin 3) (h:Nat),(j:Nat) < i/\kv=(Sum.inr (Zdm ((j:Nat):Int) (100 + ((s:Nat):Int))),.int (h:Int))/\h<=100
def HV(i:Nat)(kvs:Kvs):Prop:=(kvs.map (·.1)).Nodup/\kvs.length<=8/\∀ kv∈kvs,Zoc i kv
def Zj4(i:Nat)(rs:List (Nat × Rat)):Prop:=Jj rs/\rs.length<=i + 17/\∀ r∈rs,JN 98 r.2/\0<=r.2.num
def ZeD(i:Nat)(n:JZ):Prop:=Zj4 i n.1/\HV i n.2
theorem Zoc.up{kv:Je × V}(h:Zoc i kv):Zoc (i + 1) kv:=let ⟨j,s,k,h1,h2⟩:=h; ⟨j,s,k,by omega,h2⟩
theorem HV.up(h:HV i kvs):HV (i + 1) kvs:=⟨h.1,h.2.1,λkv hk=>(h.2.2 kv hk).up⟩
theorem Zj4.up(h:Zj4 i rs):Zj4 (i + 1) rs:=⟨h.1,by have:=h.2.1; omega,h.2.2⟩
theorem ZeD.up{n:JZ}(h:ZeD i n):ZeD (i + 1) n:=⟨h.1.up,h.2.up⟩
def ZgK(i:Nat)(n:JZ):Deed->Prop
 | .come z k=>(∃ (j:Fin 23) (s:Fin 3),(j:Nat)=i/\z=Zdm ((j:Nat):Int) (100 + ((s:Nat):Int)))/\k<=n.1.length/\n.2.length < 8
 | .go z=>(Jm n.2 (Sum.inr z)).isSome=true
 | .move z k=>(Jm n.2 (Sum.inr z)).isSome=true/\k<=n.1.length
 | .reprice j t=>j < n.1.length/\JN 98 t/\0<=t.num
 | .build to t=>to<=n.1.length/\JN 98 t/\0<=t.num
 | .cut j t=>∃ r,n.1[j]?=some r/\JN 98 t/\0<=t.num/\¬ r.2 < t/\JN 98 (r.2 - t)/\0<=(r.2 - t).num
def Zez{k:Je}{v:V}(h:Jm kvs k=some v):(k,v)∈kvs:=by
 unfold Jm at h
 obtain⟨kv,h1,rfl⟩:=Y9.mp h
 have h2:=List.mem_of_find?_eq_some h1
 have h3:=List.find?_some h1
 have h4:kv.1=k:=by simpa using h3
 rw [<- h4]
 exact h2
def Zn1(h:HV i kvs){j:Fin 23}(hj:(j:Nat)=i)(s:Fin 3):Jm kvs (Sum.inr (Zdm ((j:Nat):Int) (100 + ((s:Nat):Int))))=none:=by
 cases e:Jm kvs (Sum.inr (Zdm ((j:Nat):Int) (100 + ((s:Nat):Int)))) with
 | none=>rfl
 | some v =>
  obtain⟨j',s',k,h1,h2,_⟩:=h.2.2 _ (Zez e)
  injection h2 with h2
  injection h2 with h2
  exact absurd h2 (Zq8 j j' s s' (λz=>by rw [z] at hj; omega))
def Zf8(h:HV i kvs){z:Str}(hz:(Jm kvs (Sum.inr z)).isSome=true):(∃ (j:Fin 23) (s:Fin 3),(j:Nat) < i/\z=Zdm ((j:Nat):Int) (100 + ((s:Nat):Int)))/\Jw z:=by
 obtain⟨v,hv⟩:=Option.isSome_iff_exists.mp hz
 obtain⟨j,s,k,h1,h2,_⟩:=h.2.2 _ (Zez hv)
 injection h2 with h2
 injection h2 with h2
 exact⟨⟨j,s,h1,h2⟩,by rw [h2]; exact Zih j s⟩
def Zg4{kvs:List (Je × V)}(h:(kvs.map (·.1)).Nodup)(k:Je)(v:V):((Jt kvs k v).map (·.1)).Nodup:=by
 unfold Jt
 split
 ·rw [Y7]
  have:((λkv:Je × V=>kv.1) ∘ λkv=>if kv.1=k then (kv.1,v) else kv)=λkv=>kv.1:=by
   funext kv
   show (if kv.1=k then (kv.1,v) else kv).1=kv.1
   split <;> rfl
  rw [this]
  exact h
 ·rename_i c
  rw [YQ]
  refine List.nodup_append.mpr ⟨h,by simp,λx hx y hy=>?_⟩
  simp only [List.map_cons,List.map_nil,List.mem_singleton] at hy
  subst hy
  intro e
  subst e
  obtain⟨kv,h1,h2⟩:=Yk.mp hx
  exact c (List.any_eq_true.mpr ⟨kv,h1,by simpa using h2⟩)
def ZhB{k:Je}{v:V}{kv:Je × V}(h:kv∈Jt kvs k v):kv∈kvs\/kv=(k,v):=by
 unfold Jt at h
 split at h
 ·obtain⟨kv',h1,rfl⟩:=Yk.mp h
  split
  ·rename_i c
   exact .inr (by rw [c])
  ·exact .inl h1
 ·rcases Yp.mp h with h | h
  ·exact .inl h
  ·exact .inr (Yu.mp h)
def ZqV{k:Je}{v:V}(h:(Jm kvs k).isSome=true):(Jt kvs k v).length=kvs.length:=by
 unfold Jt
 rw [if_pos (by rw [ZcS]; exact h)]
 simp
theorem ZkT{n:JZ}{d:Deed}(hi:i < 23)(h:ZeD i n)(hd:ZgK i n d):ZeD (i + 1) (done d n):=by
 obtain⟨hR,hH⟩:=h
 obtain⟨hT,hl,hz⟩:=hR
 have hup:Zj4 (i + 1) n.1:=Zj4.up ⟨hT,hl,hz⟩
 cases d with
 | come z k =>
  obtain⟨⟨j,s,hj,rfl⟩,hk,hlen⟩:=hd
  refine⟨hup,Zg4 hH.1 _ _,Yj (Zdi _ _ _) (by omega),λkv hkv=>?_⟩
  rcases ZhB hkv with h1 | rfl
  ·exact (hH.2.2 kv h1).up
  ·exact⟨j,s,k,by omega,rfl,by omega⟩
 | go z =>
  refine⟨hup,?_,Yj (Zji _ _) hH.2.1,λkv hkv=>(hH.2.2 kv (Ve.mp hkv).1).up⟩
  exact (List.Sublist.map _ List.filter_sublist).nodup hH.1
 | move z k =>
  obtain⟨hv,hk⟩:=hd
  obtain⟨⟨j,s,hj,rfl⟩,_⟩:=Zf8 hH hv
  refine⟨hup,Zg4 hH.1 _ _,(by have e:=ZqV (v:=V.int (k:Int)) hv; exact Yj (Nat.le_of_eq e) hH.2.1),λkv hkv=>?_⟩
  rcases ZhB hkv with h1 | rfl
  ·exact (hH.2.2 kv h1).up
  ·exact⟨j,s,k,by omega,rfl,by omega⟩
 | reprice j t =>
  obtain⟨hj,h1,h2⟩:=hd
  have e:=Yc hj
  refine⟨⟨Zid hT j t,?_,?_⟩,hH.up⟩
  ·show (Zjx n.1 j t).length<=_
   rw [Zf9 e,List.length_set]
   omega
  ·show ∀ r∈Zjx n.1 j t,_
   rw [Zf9 e]
   intro r hr
   rcases List.mem_or_eq_of_mem_set hr with h | rfl
   ·exact hz r h
   ·exact⟨h1,h2⟩
 | build to t =>
  obtain⟨hj,h1,h2⟩:=hd
  refine⟨⟨Zfc hT hj t,by show (n.1 ++ [(to,t)]).length<=_; simp; omega,λr hr=>?_⟩,hH.up⟩
  rcases Yp.mp hr with h | h
  ·exact hz r h
  ·rw [Yu.mp h]; exact⟨h1,h2⟩
 | cut j t =>
  obtain⟨r,e,h1,h2,h3,h4,h5⟩:=hd
  refine⟨⟨Zhy hT e t,?_,?_⟩,hH.up⟩
  ·show (Zks n.1 j t).length<=_
   rw [Ze8 e,List.length_set]
   simp
   omega
  ·show ∀ r∈Zks n.1 j t,_
   rw [Ze8 e]
   intro u hu
   rcases List.mem_or_eq_of_mem_set hu with h | rfl
   ·rcases Yp.mp h with h | h
    ·exact hz u h
    ·rw [Yu.mp h]; exact⟨h1,h2⟩
   ·exact⟨h4,h5⟩
def Zqk(n:JZ):Prop:=∀ kv∈n.2,∃ h:Nat,kv.2=.int (h:Int)/\h<=n.1.length
theorem ZnP{j:Nat}{t:Rat}:(Zjx rs j t).length=rs.length:=by unfold Zjx; split <;> simp
theorem Zpa{j:Nat}{t:Rat}:rs.length<=(Zks rs j t).length:=by unfold Zks; split <;> simp
theorem ZqK{n:JZ}{d:Deed}(h:Zqk n)(hd:ZgK i n d):Zqk (done d n):=by
 have up:∀ rs:List (Nat × Rat),n.1.length<=rs.length->Zqk (rs,n.2):=λrs hl kv hk=>let ⟨k,e,hk'⟩:=h kv hk; ⟨k,e,Yj hk' hl⟩
 have put:∀ z k,k<=n.1.length->Zqk (n.1,Jt n.2 (Sum.inr z) (.int (k:Int))):=λz k hk kv hkv=>by
  rcases ZhB hkv with hkv | rfl
  ·exact h kv hkv
  ·exact⟨k,rfl,hk⟩
 cases d with
 | come z k=>exact put z k hd.2.1
 | go z=>exact λkv hk=>h kv (Ve.mp hk).1
 | move z k=>exact put z k hd.2
 | reprice j t=>exact up _ (by rw [ZnP]; exact Yd _)
 | build to t=>exact up _ (by simp)
 | cut j t=>exact up _ Zpa
def Zhd(H:Hp)(x:V):Deed->Prop
 | .come z k=>∃ p,x=.ref p/\H p=some (.tup [.str "come",.str z,.int (k:Int)])
 | .go z=>∃ p,x=.ref p/\H p=some (.tup [.str "go",.str z])
 | .move z k=>∃ p,x=.ref p/\H p=some (.tup [.str "move",.str z,.int (k:Int)])
 | .reprice j t=>∃ p y,x=.ref p/\H p=some (.tup [.str "reprice",.int ((j:Int) + 1),y])/\Jn H y t
 | .build to t=>∃ p y,x=.ref p/\H p=some (.tup [.str "build",.int (to:Int),y])/\Jn H y t
 | .cut j t=>∃ p y,x=.ref p/\H p=some (.tup [.str "cut",.int ((j:Int) + 1),y])/\Jn H y t
theorem Zhd.keep{H H':Hp}{d:Deed}(h:Zhd H x d)(s:∀ b ys,H b=some (.tup ys)->H' b=some (.tup ys)):Zhd H' x d:=by
 cases d with
 | come z k=>obtain⟨p,e,h1⟩:=h; exact⟨p,e,s _ _ h1⟩
 | go z=>obtain⟨p,e,h1⟩:=h; exact⟨p,e,s _ _ h1⟩
 | move z k=>obtain⟨p,e,h1⟩:=h; exact⟨p,e,s _ _ h1⟩
 | reprice j t=>obtain⟨p,y,e,h1,h2⟩:=h; exact⟨p,y,e,s _ _ h1,h2.keep s⟩
 | build to t=>obtain⟨p,y,e,h1,h2⟩:=h; exact⟨p,y,e,s _ _ h1,h2.keep s⟩
 | cut j t=>obtain⟨p,y,e,h1,h2⟩:=h; exact⟨p,y,e,s _ _ h1,h2.keep s⟩
def Zcz{D:Ends}{Z:St}(h:D.nx Z H):Zgp D Z H:=h
def ZbY{a b:Addr}(ha:H a=some (.lst xs))(hb:H b=some (.lst [])):EqD H (.ref a) (.ref b) (decide (xs.length=0)) 1:=by
 cases xs with
 | nil=>exact EqD.lst (e:=λ_=>true) (n:=0) ha hb rfl λj x y h1 h2=>by simp at h1
 | cons z ss=>exact EqD.lstNe (n:=0) ha hb (by simp)
def Zma(h:HV i kvs):∃ ss:List Str,(kvs.map λkv=>kV kv.1)=ss.map V.str/\ss.length=kvs.length/\∀ z∈ss,(Jm kvs (Sum.inr z)).isSome=true:=by
 refine⟨kvs.map λkv=>(match kv.1 with | Sum.inr z=>z | Sum.inl _=>Str.empty),?_,by simp,λz hz=>?_⟩
 ·rw [Y7]
  refine VE λkv hkv=>?_
  obtain⟨j,s,k,_,rfl,_⟩:=h.2.2 kv hkv
  rfl
 ·obtain⟨kv,hkv,rfl⟩:=Yk.mp hz
  obtain⟨j,s,k,_,rfl,_⟩:=h.2.2 kv hkv
  rw [<- ZcS]
  exact List.any_eq_true.mpr ⟨_,hkv,by simp⟩
def Zqc(q:Rat):q - 0=q:=by
 first
  | (rw [Rat.sub_eq_add_neg,Rat.neg_zero,Rat.add_zero])
  | simp
  | (rw [Rat.sub_eq_add_neg]; simp)
def Zgo{e:Int}:q - Rat.divInt (q.num * e) ((q.den:Int) * 4)=Rat.divInt (q.num * (4 - e)) ((q.den:Int) * 4):=by
 have hd:=Zbr q
 have h4:(q.den:Int) * 4 ≠ 0:=by omega
 have h1:q=Rat.divInt q.num q.den:=(Va q).symm
 have h2:q - Rat.divInt (q.num * e) ((q.den:Int) * 4)=Rat.divInt q.num q.den - Rat.divInt (q.num * e) ((q.den:Int) * 4):=by rw [Va]
 rw [h2,Rat.divInt_sub_divInt _ _ hd h4]
 have e1:q.num * ((q.den:Int) * 4) - q.num * e * (q.den:Int)=(q.den:Int) * (q.num * (4 - e)):=by
  rw [Int.mul_sub,Int.mul_sub]
  congr 1
  ·rw [Int.mul_left_comm]
  ·rw [Int.mul_comm]
 rw [e1,Rat.divInt_mul_left hd]
def Zgb{a b:Rat}(h:0<=(a - b).num):¬ a < b:=by
 have h1:0<=a - b:=Rat.num_nonneg.mp h
 have h2:b<=a:=(Rat.le_iff_sub_nonneg b a).mpr h1
 exact Rat.not_lt.mpr h2
def ZlD{e:Int}(hn:0<=q.num)(h1:q.num<=1000000000000000000)(h2:(q.den:Int)<=1000000000000000000)(e0:0<=e)(e4:e<=4):JN 98 (Rat.divInt (q.num * e) ((q.den:Int) * 4))/\0<=(Rat.divInt (q.num * e) ((q.den:Int) * 4)).num:=by
 have hd:=q.den_pos
 have hm:0<=q.num * e:=Int.mul_nonneg hn e0
 have hm2:q.num * e<=1000000000000000000 * 4:=Int.mul_le_mul h1 e4 e0 (by decide)
 exact⟨JN.of (by omega) (by omega) (by omega),num_nonneg hm (by omega)⟩
section
variable {P:Program}{w:World}{K:PySem.W.Frag}{mg:Str->Option Value}{base:Heap}{f:Addr}{fd:FuncData}{CT CNP CS:Addr}
def Zg2:Sp:=λvs H Q _=>∃ (pv p d:Addr) (xs:List Int) (rx:List V) (n:JZ) (i:Nat),vs=[.ref pv,.ref p,.ref d,.int (i:Int)]/\H pv=some (.lst (xs.map V.int))/\xs.length=5/\(∀ x∈xs,0<=x/\x < 99989)/\H p=some (.lst rx)/\ZS H rx n.1/\H d=some (.dK n.2)/\ZeD i n/\i < 23 /\
 ∀ x dd H',Zn H H'->Zhd H' x dd->ZgK i n dd->Q x H'
def Zlk(F:Fun K "_law_deed_by" "_law_deed_by" ZaZ f fd)(Zbv:mg "sorted"=none)(ZB:mg "len"=none)(Zf3:mg "max"=none)(ZX:Fn P w K mg base Zx 2 "_law_low" ["_law_top","_law_bottom"] Zc8)(ZdN:Fn P w K mg base Zx 1 "_law_name" ["_law_k","_law_seed"] Zi3):FnOk P w K mg base Zx 3 f fd ["_law_v","_law_roads","_law_homes","_law_k"] Zg2:=by
 refine JP F ZaQ λcdv A outer s H vs Q E hr h=>?_
 obtain⟨pv,p,d,xs,rx,n,i,rfl,hpv,hxl,hxb,hp,hR,hd,hN,hi,q⟩:=h
 have at_:∀ {j:Nat}(h:j < xs.length),atI (xs.map V.int) (j:Int)=some (.int xs[j]):=λ{j} h=>ZY (by rw [Yh,Yc h]; rfl)
 have b0:=hxb xs[0] (Yx (by omega))
 have b1:=hxb xs[1] (Yx (by omega))
 have b2:=hxb xs[2] (Yx (by omega))
 have b3:=hxb xs[3] (Yx (by omega))
 have a0:=at_ (j:=0) (by omega)
 have a1:=at_ (j:=1) (by omega)
 have a2:=at_ (j:=2) (by omega)
 have a3:=at_ (j:=3) (by omega)
 refine⟨_,(Zd (Zw 4 ZaQ.nd (ZmS rfl Zbv (Zl (Zf 2) Zb)))
   (Zd (Zw 5 ZaQ.nd (Z4 (ZT (Zf 0) Zc) Zc))
   (Zd (Zw 6 ZaQ.nd (JB ZX hr (Zl (Z4 (ZT (Zf 0) Zc) Zc) (Zl (Jd Zc (Z4 (Zfa (ZT (Zf 0) Zc) Zc) Zc)) Zb))))
   (Zd (Ja (t_w (J3 (t_w (Zfm (Zri (Zf 5) Zc) (Zc4 (Zri (Zls rfl ZB (Zl (Zf 2) Zb)) Zc)))) (ZdD (t_w (Zfm (Zri (Zf 5) Zc) (Zc4 (Zsf hr (Zf 4) (Jz Zb)))))))) (Zk (Zu (Jv (Zl ZN (Zl (JB ZdN hr (Zl (Z4 (Zf 3) Zc) (Zl (Jd Zc (Z4 (ZT (Zf 0) Zc) Zc)) Zb))) (Zl (Z4 (ZT (Zf 0) Zc) (Jd (JE rfl ZB (Zl (Zf 1) Zb)) Zc)) Zb)))))) ZG)
   (Zd (Ja (t_w (Zfm (Zsf hr (Zf 1) (Jz Zb)) (Zc4 (ZpB (Zf 5) Zc)))) (Zk (Zu (Jv (Zl ZN (Zl (Z4 (ZT (Zf 0) Zc) (Jd (JE rfl ZB (Zl (Zf 1) Zb)) Zc)) (Zl (Zf 6) Zb)))))) ZG)
   (Zd (Ja (t_w (Zfm (JX (Zf 5) Zc) (Zc4 (Zf4 hr (Zf 4) (Jz Zb))))) (Zk (Zu (Jv (Zl ZN (Zl (ZT (Zf 4) (Z4 (ZT (Zf 0) Zc) (JE rfl ZB (Zl (Zf 4) Zb)))) Zb))))) ZG)
   (Zd (Ja (t_w (Zfm (JX (Zf 5) Zc) (Zc4 (Zf4 hr (Zf 4) (Jz Zb))))) (Zk (Zu (Jv (Zl ZN (Zl (ZT (Zf 4) (Z4 (ZT (Zf 0) Zc) (JE rfl ZB (Zl (Zf 4) Zb)))) (Zl (Z4 (ZT (Zf 0) Zc) (Jd (JE rfl ZB (Zl (Zf 1) Zb)) Zc)) Zb)))))) ZG)
   (Zd (Ja (t_w (Zfm (JX (Zf 5) Zc) (Zc4 (Zf4 hr (Zf 1) (Jz Zb))))) (Zk (Zu (Jv (Zl ZN (Zl (Jd Zc (Z4 (ZT (Zf 0) Zc) (JE rfl ZB (Zl (Zf 1) Zb)))) (Zl (Zf 6) Zb)))))) ZG)
   (Zd (Ja (t_w (Zfm (JX (Zf 5) Zc) (Zc4 (Zf4 hr (Zf 1) (Jz Zb))))) (Zd (Zw 7 ZaQ.nd (Z4 (ZT (Zf 0) Zc) (JE rfl ZB (Zl (Zf 1) Zb))))
   (Zd (Zw 8 ZaQ.nd (Zr (ZT (Zf 1) (Zf 7)) Zc))
   (Zd (Ja (ZpB (ZpE rfl Zf3 (Zl (Zr (Zf 8) Zc) (Zl (Zr (Zf 8) Zc) Zb))) (ZhS Zc Zc)) (Zk (Zu (Jv (Zl ZN (Zl (Jd (Zf 7) Zc) (Zl (ZT (Jz (Zl (Jv (Zl Zc (Zl Zc Zb))) (Zl (Zf 8) Zb))) (Z4 (ZT (Zf 0) Zc) Zc)) Zb)))))) ZG)
   (Zk (Zu (Jv (Zl ZN (Zl (Jd (Zf 7) Zc) (Zl (JB ZX hr (Zl (JR (Zr (Zf 8) Zc) (Z4 (ZT (Zf 0) Zc) Zc)) (Zl (JR (Zr (Zf 8) Zc) Zc) Zb))) Zb))))))))) ZG)
   (Zk (Zu (Jv (Zl ZN (Zl Zc (Zl (Zf 6) Zb))))))))))))))),?_⟩
 rw [show Zv ["_law_v","_law_roads","_law_homes","_law_k","_law_names","_law_way_here","_law_price","_law_at","_law_whole_here"] [.ref pv,.ref p,.ref d,.int (i:Int)]=[some (.ref pv),some (.ref p),some (.ref d),some (.int (i:Int)),none,none,none,none,none] from rfl]
 obtain⟨⟨hT,hlr,hz⟩,hH⟩:=hN
 obtain⟨ss,ess,hsl,hkey⟩:=Zma hH
 have hk6:=hH.2.1
 refine Zq λB hB=>?_
 walk_at "rd"
 refine⟨n.2,.inl hd,ss,ess,by omega,λl H1 ts hl s1 e1 _ hperm=>?_⟩
 have htl:ts.length=n.2.length:=by rw [hperm.length_eq,hsl]
 subst hB
 try dsimp only
 refine Zq λB hB=>?_
 walk_at "rd"
 refine⟨_,s1 _ _ hpv,_,a0,xs[0],rfl,?_⟩
 have w0:=Yv xs[0] (b:=8) (by decide)
 have w1:=Yw xs[0] (b:=8) (by decide)
 generalize xs[0] % 8=wy at w0 w1 ⊢
 subst hB
 try dsimp only
 refine Zq λB hB=>?_
 walk_at "rd"
 refine⟨_,s1 _ _ hpv,_,a2,xs[2],rfl,_,s1 _ _ hpv,_,a2,xs[2],rfl,?_⟩
 refine⟨_,_,rfl,Big.of (n:=10) (by omega) (by decide),by omega,λpr H2 s2 hpr=>?_⟩
 have zpr:JN 98 (Rat.divInt (xs[2] % 13) (1 + xs[2] / 13 % 6)):=(JN.of (n:=10) (by omega) (by omega) (by omega)).mono (by decide)
 have npr:0<=(Rat.divInt (xs[2] % 13) (1 + xs[2] / 13 % 6)).num:=num_nonneg (by omega) (by omega)
 generalize Rat.divInt (xs[2] % 13) (1 + xs[2] / 13 % 6)=tp at zpr npr hpr
 have s12:=s1.trans s2
 subst hB
 try dsimp only
 have e26:(i:Int) % 26=(i:Int):=by omega
 obtain⟨sN,esN⟩:∃ sN:_root_.Fin 3,xs[3] % 3=((sN:Nat):Int):=⟨⟨(xs[3] % 3).toNat,by omega⟩,by show _=(((xs[3] % 3).toNat:Nat):Int); omega⟩
 have hrl:=hR.1
 obtain⟨kN,ekN,hkN⟩:∃ kN:Nat,xs[1] % ((rx.length:Int) + 1)=(kN:Int)/\kN<=n.1.length:=by
  have m0:=Yv xs[1] (b:=(rx.length:Int) + 1) (by omega)
  have m1:=Yw xs[1] (b:=(rx.length:Int) + 1) (by omega)
  exact⟨(xs[1] % ((rx.length:Int) + 1)).toNat,by omega,by omega⟩
 refine Zq λB hB=>?_
 refine Jr λA1 hA1 C1 hC1=>?_
 have kA:∀ H3,Zn H2 H3->n.2.length < 8->A1 [some (V.ref pv),some (V.ref p),some (V.ref d),some (V.int (i:Int)),some (V.ref l),some (V.int wy),some pr,none,none] H3:=by
  intro H3 s3 h6
  have s13:=s12.trans s3
  subst hA1
  try dsimp only
  walk_at "rd"
  refine⟨_,s13 _ _ hpv,_,a3,xs[3],rfl,_,_,rfl,by omega,by omega,by omega,by omega,_,s13 _ _ hpv,_,a1,_,.inl (s13 _ _ hp),xs[1],rfl,by omega,λt H4 ht s4 e4=>?_⟩
  rw [e26,esN,ekN] at e4
  exact q (.ref t) (.come _ kN) H4 (s13.trans s4) ⟨t,rfl,e4⟩ ⟨⟨⟨i,hi⟩,sN,rfl,rfl⟩,hkN,h6⟩
 have kC:∀ H3,Zn H2 H3->¬ (wy < 6/\n.2.length=0)->¬ (wy < 4/\n.2.length < 8)->C1 [some (V.ref pv),some (V.ref p),some (V.ref d),some (V.int (i:Int)),some (V.ref l),some (V.int wy),some pr,none,none] H3:=by
  intro H3 s3 g1 g2
  subst hC1
  refine Zcz ?_
  subst hB
  try dsimp only
  refine Zq λB hB=>?_
  refine Jr λA2 hA2 C2 hC2=>?_
  have kA2:∀ H4,Zn H2 H4->A2 [some (V.ref pv),some (V.ref p),some (V.ref d),some (V.int (i:Int)),some (V.ref l),some (V.int wy),some pr,none,none] H4:=by
   intro H4 s4
   have s14:=s12.trans s4
   subst hA2
   try dsimp only
   walk_at "rd"
   refine⟨_,s14 _ _ hpv,_,a1,_,.inl (s14 _ _ hp),xs[1],rfl,by omega,λt H5 ht s5 e5=>?_⟩
   rw [ekN] at e5
   exact q (.ref t) (.build kN tp) H5 (s14.trans s5) ⟨t,pr,rfl,e5,(hpr.same s4).same s5⟩ ⟨hkN,zpr,npr⟩
  have kC2:∀ H4,Zn H2 H4->¬ (n.1.length=0/\5 < wy)->C2 [some (V.ref pv),some (V.ref p),some (V.ref d),some (V.int (i:Int)),some (V.ref l),some (V.int wy),some pr,none,none] H4:=by
   intro H4 s4 g4
   subst hC2
   refine Zcz ?_
   subst hB
   try dsimp only
   refine Zq λB hB=>?_
   refine Jr λA3 hA3 C3 hC3=>?_
   have s14:=s12.trans s4
   have kC3:∀ H5,Zn H2 H5->¬ (wy=4/\n.2.length ≠ 0)->C3 [some (V.ref pv),some (V.ref p),some (V.ref d),some (V.int (i:Int)),some (V.ref l),some (V.int wy),some pr,none,none] H5:=by
    intro H5 s5 g5
    subst hC3
    refine Zcz ?_
    subst hB
    try dsimp only
    refine Zq λB hB=>?_
    refine Jr λA4 hA4 C4 hC4=>?_
    have kC4:∀ H6,Zn H2 H6->¬ (wy=5/\n.2.length ≠ 0)->C4 [some (V.ref pv),some (V.ref p),some (V.ref d),some (V.int (i:Int)),some (V.ref l),some (V.int wy),some pr,none,none] H6:=by
     intro H6 s6 g6
     subst hC4
     refine Zcz ?_
     subst hB
     try dsimp only
     refine Zq λB hB=>?_
     refine Jr λA5 hA5 C5 hC5=>?_
     have kC5:∀ H7,Zn H2 H7->¬ (wy=6/\n.1.length ≠ 0)->C5 [some (V.ref pv),some (V.ref p),some (V.ref d),some (V.int (i:Int)),some (V.ref l),some (V.int wy),some pr,none,none] H7:=by
      intro H7 s7 g7
      subst hC5
      refine Zcz ?_
      subst hB
      try dsimp only
      refine Zq λB hB=>?_
      refine Jr λA6 hA6 C6 hC6=>?_
      have kC6:∀ H8,Zn H2 H8->C6 [some (V.ref pv),some (V.ref p),some (V.ref d),some (V.int (i:Int)),some (V.ref l),some (V.int wy),some pr,none,none] H8:=by
       intro H8 s8
       subst hC6
       refine Zcz ?_
       subst hB
       try dsimp only
       walk_at "rd"
       intro t H9 ht s9 e9
       exact q (.ref t) (.build 0 tp) H9 (s12.trans (s8.trans s9)) ⟨t,pr,rfl,e9,(hpr.same s8).same s9⟩ ⟨YA _,zpr,npr⟩
      have kA6:∀ H8,Zn H2 H8->n.1.length ≠ 0->A6 [some (V.ref pv),some (V.ref p),some (V.ref d),some (V.int (i:Int)),some (V.ref l),some (V.int wy),some pr,none,none] H8:=by
       intro H8 s8 g8
       have s18:=s12.trans s8
       subst hA6
       try dsimp only
       refine Zq λB2 hB2=>?_
       walk_at "rd"
       obtain⟨jN,ejN,hjN⟩:∃ jN:Nat,xs[1] % (rx.length:Int)=(jN:Int)/\jN < n.1.length:=by
        have m0:=Yv xs[1] (b:=(rx.length:Int)) (by omega)
        have m1:=Yw xs[1] (b:=(rx.length:Int)) (by omega)
        exact⟨(xs[1] % (rx.length:Int)).toNat,by omega,by omega⟩
       refine⟨_,s18 _ _ hpv,_,a1,_,.inl (s18 _ _ hp),xs[1],rfl,by omega,?_⟩
       rw [ejN]
       have hrj:=Yc hjN
       have hxj:jN < rx.length:=by omega
       obtain⟨rp,ry,erx,hrp,hry⟩:=(hR.2 jN _ _ (Yc hxj) hrj).same s18
       obtain⟨zr,nr⟩:=hz _ (Yx hjN)
       generalize n.1[jN]=rr at hrj hrp hry zr nr
       obtain⟨yp,rfl,hyp⟩:=hry
       subst hB2
       try dsimp only
       refine Zq λB2 hB2=>?_
       walk_at "rd"
       refine⟨_,s18 _ _ hp,_,ZY (Yc hxj),rp,erx,_,hrp,_,rfl,?_⟩
       subst hB2
       try dsimp only
       refine Zq λB2 hB2=>?_
       refine Jr λA7 hA7 C7 hC7=>?_
       walk_at "rd"
       refine⟨_,hyp,_,rfl,_,hyp,_,rfl,_,rfl,_,rfl,?_⟩
       refine JA (λc=>?_) (λc=>?_)
       ·subst hA7
        try dsimp only
        walk_at "rd"
        intro z0 H9 hz0 s9 e9 z1 H10 hz1 s10 e10
        have s910:=s9.trans s10
        have s1a:=s18.trans s910
        have hyr:Jn H10 (.ref yp) rr.2:=⟨yp,rfl,s910 _ _ hyp⟩
        have hy0:Jn H10 (.ref z0) (0:Rat):=⟨z0,rfl,s10 _ _ e9⟩
        have z00:JN 98 (0:Rat):=⟨by decide,by decide⟩
        refine⟨_,s1a _ _ hpv,_,a2,xs[2],rfl,_,e10,?_⟩
        by_cases c2:xs[2] % 2=0
        ·rw [c2]
         refine⟨.ref z0,rfl,λt H11 ht s11 e11=>q (.ref t) (.cut jN 0) H11 (s1a.trans s11) ⟨t,_,rfl,e11,hy0.same s11⟩ ⟨rr,hrj,z00,by decide,?_,?_,?_⟩⟩
         ·exact Zgb (by rw [Zqc]; exact nr)
         ·rw [Zqc]; exact zr
         ·rw [Zqc]; exact nr
        ·have c3:xs[2] % 2=1:=by omega
         rw [c3]
         refine⟨.ref yp,rfl,λt H11 ht s11 e11=>q (.ref t) (.cut jN rr.2) H11 (s1a.trans s11) ⟨t,_,rfl,e11,hyr.same s11⟩ ⟨rr,hrj,zr,nr,?_,?_,?_⟩⟩
         ·exact Zgb (by rw [Rat.sub_self]; decide)
         ·rw [Rat.sub_self]; exact z00
         ·rw [Rat.sub_self]; decide
       ·subst hC7
        refine Zcz ?_
        subst hB2
        try dsimp only
        walk_at "rd"
        have m0:=Yv xs[2] (b:=5) (by decide)
        have m1:=Yw xs[2] (b:=5) (by decide)
        have hdp:=rr.2.den_pos
        have cm:rr.2.num<=1000000000000000000/\(rr.2.den:Int)<=1000000000000000000:=by
         split at c <;> omega
        refine⟨_,hyp,_,rfl,_,s18 _ _ hpv,_,a2,xs[2],rfl,_,rfl,.inr ⟨by omega,by omega⟩,_,hyp,_,rfl,_,rfl,?_⟩
        refine⟨_,_,rfl,Big.of (n:=98) (by omega) (by decide),by omega,λy9 H9 s9 hy9 t H10 ht s10 e10=>?_⟩
        have f1:=ZlD nr cm.1 cm.2 m0 (by omega)
        have f2:=ZlD (e:=4 - xs[2] % 5) nr cm.1 cm.2 (by omega) (by omega)
        refine q (.ref t) (.cut jN _) H10 (s18.trans (s9.trans s10)) ⟨t,y9,rfl,e10,hy9.same s10⟩ ⟨rr,hrj,f1.1,f1.2,?_,?_,?_⟩
        ·exact Zgb (by rw [Zgo]; exact f2.2)
        ·rw [Zgo]; exact f2.1
        ·rw [Zgo]; exact f2.2
      walk_at "rd"
      refine JA (λc=>?_) (λc=>kC6 _ s7)
      intro p1 H8 hp1 s8 e8
      have s28:=s7.trans s8
      refine⟨_,1,p,p1,rfl,rfl,ZbY ((s12.trans s28) _ _ hp) e8,by decide,_,rfl,?_⟩
      rw [hR.1]
      exact JA (λc2=>kA6 _ s28 (by simpa using c2)) (λc2=>kC6 _ s28)
     have kA5:∀ H7,Zn H2 H7->n.1.length ≠ 0->A5 [some (V.ref pv),some (V.ref p),some (V.ref d),some (V.int (i:Int)),some (V.ref l),some (V.int wy),some pr,none,none] H7:=by
      intro H7 s7 g7
      have s17:=s12.trans s7
      subst hA5
      try dsimp only
      walk_at "rd"
      obtain⟨jN,ejN,hjN⟩:∃ jN:Nat,xs[1] % (rx.length:Int)=(jN:Int)/\jN < n.1.length:=by
       have m0:=Yv xs[1] (b:=(rx.length:Int)) (by omega)
       have m1:=Yw xs[1] (b:=(rx.length:Int)) (by omega)
       exact⟨(xs[1] % (rx.length:Int)).toNat,by omega,by omega⟩
      refine⟨_,s17 _ _ hpv,_,a1,_,.inl (s17 _ _ hp),xs[1],rfl,by omega,λt H8 ht s8 e8=>?_⟩
      rw [ejN,Int.add_comm] at e8
      exact q (.ref t) (.reprice jN tp) H8 (s17.trans s8) ⟨t,pr,rfl,e8,(hpr.same s7).same s8⟩ ⟨hjN,zpr,npr⟩
     walk_at "rd"
     refine JA (λc=>?_) (λc=>kC5 _ s6 (λz=>c z.1))
     intro p1 H7 hp1 s7 e7
     have s27:=s6.trans s7
     refine⟨_,1,p,p1,rfl,rfl,ZbY ((s12.trans s27) _ _ hp) e7,by decide,_,rfl,?_⟩
     rw [hR.1]
     exact JA (λc2=>kA5 _ s27 (by simpa using c2)) (λc2=>kC5 _ s27 (λz=>z.2 (by simpa using c2)))
    have kA4:∀ H6,Zn H2 H6->n.2.length ≠ 0->A4 [some (V.ref pv),some (V.ref p),some (V.ref d),some (V.int (i:Int)),some (V.ref l),some (V.int wy),some pr,none,none] H6:=by
     intro H6 s6 g6
     have s16:=s12.trans s6
     have e16:=(s2.trans s6) _ _ e1
     subst hA4
     try dsimp only
     walk_at "rd"
     obtain⟨jN,ejN,hjN⟩:∃ jN:Nat,xs[1] % (ts.length:Int)=(jN:Int)/\jN < ts.length:=by
      have m0:=Yv xs[1] (b:=(ts.length:Int)) (by omega)
      have m1:=Yw xs[1] (b:=(ts.length:Int)) (by omega)
      exact⟨(xs[1] % (ts.length:Int)).toNat,by omega,by omega⟩
     obtain⟨mN,emN,hmN⟩:∃ mN:Nat,xs[3] % ((rx.length:Int) + 1)=(mN:Int)/\mN<=n.1.length:=by
      have m0:=Yv xs[3] (b:=(rx.length:Int) + 1) (by omega)
      have m1:=Yw xs[3] (b:=(rx.length:Int) + 1) (by omega)
      exact⟨(xs[3] % ((rx.length:Int) + 1)).toNat,by omega,by omega⟩
     have hat:atI (ts.map V.str) (xs[1] % (ts.length:Int))=some (.str ts[jN]):=by rw [ejN]; exact ZY (by rw [Yh,Yc hjN]; rfl)
     refine⟨_,s16 _ _ hpv,_,a1,_,.inl e16,xs[1],rfl,by rw [Yi]; omega,_,e16,_,by rw [Yi]; exact hat,_,s16 _ _ hpv,_,a3,_,.inl (s16 _ _ hp),xs[3],rfl,by omega,λt H7 ht s7 e7=>?_⟩
     rw [emN] at e7
     exact q (.ref t) (.move ts[jN] mN) H7 (s16.trans s7) ⟨t,rfl,e7⟩ ⟨hkey _ (hperm.mem_iff.mp (Yx hjN)),hmN⟩
    walk_at "rd"
    refine JA (λc=>?_) (λc=>kC4 _ s5 (λz=>c z.1))
    intro p1 H6 hp1 s6 e6
    have s26:=s5.trans s6
    refine⟨_,1,l,p1,rfl,rfl,ZbY ((s2.trans s26) _ _ e1) e6,by decide,_,rfl,?_⟩
    rw [Yi,htl]
    exact JA (λc2=>kA4 _ s26 (by simpa using c2)) (λc2=>kC4 _ s26 (λz=>z.2 (by simpa using c2)))
   have kA3:∀ H5,Zn H2 H5->n.2.length ≠ 0->A3 [some (V.ref pv),some (V.ref p),some (V.ref d),some (V.int (i:Int)),some (V.ref l),some (V.int wy),some pr,none,none] H5:=by
    intro H5 s5 g5
    have s15:=s12.trans s5
    have e15:=(s2.trans s5) _ _ e1
    subst hA3
    try dsimp only
    walk_at "rd"
    obtain⟨jN,ejN,hjN⟩:∃ jN:Nat,xs[1] % (ts.length:Int)=(jN:Int)/\jN < ts.length:=by
     have m0:=Yv xs[1] (b:=(ts.length:Int)) (by omega)
     have m1:=Yw xs[1] (b:=(ts.length:Int)) (by omega)
     exact⟨(xs[1] % (ts.length:Int)).toNat,by omega,by omega⟩
    have hat:atI (ts.map V.str) (xs[1] % (ts.length:Int))=some (.str ts[jN]):=by rw [ejN]; exact ZY (by rw [Yh,Yc hjN]; rfl)
    refine⟨_,s15 _ _ hpv,_,a1,_,.inl e15,xs[1],rfl,by rw [Yi]; omega,_,e15,_,by rw [Yi]; exact hat,λt H7 ht s7 e7=>?_⟩
    exact q (.ref t) (.go ts[jN]) H7 (s15.trans s7) ⟨t,rfl,e7⟩ (hkey _ (hperm.mem_iff.mp (Yx hjN)))
   walk_at "rd"
   refine JA (λc=>?_) (λc=>kC3 _ s4 (λz=>c z.1))
   intro p1 H5 hp1 s5 e5
   have s25:=s4.trans s5
   refine⟨_,1,l,p1,rfl,rfl,ZbY ((s2.trans s25) _ _ e1) e5,by decide,_,rfl,?_⟩
   rw [Yi,htl]
   exact JA (λc2=>kA3 _ s25 (by simpa using c2)) (λc2=>kC3 _ s25 (λz=>z.2 (by simpa using c2)))
  walk_at "rd"
  intro p1 H4 hp1 s4 e4
  have s24:=s3.trans s4
  refine⟨_,1,p,p1,rfl,rfl,ZbY ((s12.trans s24) _ _ hp) e4,by decide,_,rfl,?_⟩
  rw [hR.1]
  refine JA (λc2=>?_) (λc2=>?_)
  ·refine JA (λc3=>kA2 _ s24) (λc3=>kC2 _ s24 (λz=>c3 z.2))
  ·exact kC2 _ s24 (λz=>c2 (YJ z.1))
 walk_at "rd"
 have kE:¬ (wy < 4/\n.2.length < 8)->(if wy < 6 then ∀ (p_1:Addr) (H2_1:Hp),H2 p_1=none->Zn H2 H2_1->H2_1 p_1=some (HO.lst [])->Zsb (V.ref l) (V.ref p_1) H2_1 λx H'=>∃ k,x=V.bl k/\if k=true then A1 [some (V.ref pv),some (V.ref p),some (V.ref d),some (V.int (i:Int)),some (V.ref l),some (V.int wy),some pr,none,none] H' else C1 [some (V.ref pv),some (V.ref p),some (V.ref d),some (V.int (i:Int)),some (V.ref l),some (V.int wy),some pr,none,none] H' else C1 [some (V.ref pv),some (V.ref p),some (V.ref d),some (V.int (i:Int)),some (V.ref l),some (V.int wy),some pr,none,none] H2):=by
  intro g
  refine JA (λc=>?_) (λc=>kC _ (λ_ _ e=>e) (λz=>c z.1) g)
  intro p1 H4 hp1 s4 e4
  refine⟨_,1,l,p1,rfl,rfl,ZbY ((s2.trans s4) _ _ e1) e4,by decide,_,rfl,?_⟩
  rw [Yi,htl]
  refine JA (λc2=>?_) (λc2=>kC _ s4 (λz=>c2 (YJ z.2)) g)
  have c3:=of_decide_eq_true c2
  exact kA _ s4 (by omega)
 refine JA (λc=>?_) (λc=>kE (λz=>c z.1))
 refine⟨n.2,.inl (s12 _ _ hd),JA (λc2=>kA _ (λ_ _ e=>e) (by omega)) (λc2=>kE (λz=>c2 (by omega)))⟩
end
section
variable {w w0 v0:Str}{body Jh:TS}{D:Ends}{Z:St}{H:Hp}{pt:Addr}{r:List V}{j:Nat}
def Zta{Q:Bool->Hp->Prop}(h0:Z[j]?=some (some (.ref pt)))(ht:H pt=some (.tup (.str w0 :: r)))(q:Q (decide (w0=w)) H):JF (JT rEq (JT Zdr (Zis j) (tC (V.int 0))) (tC (V.str w))) Z H Q:=by
 refine⟨_,h0,pt,_,0,.str w0,rfl,rfl,ht,(by show atI _ ((0:Nat):Int)=_; exact ZY rfl),rfl,decide (w0=w),?_,q⟩
 show V.bl (decide (V.str w0=V.str w))=_
 by_cases c:w0=w
 ·rw [c,YJ rfl,YJ rfl]
 ·rw [YC c,YC (λz=>c (by injection z))]
def ZF(h0:Z[j]?=some (some (.ref pt)))(ht:H pt=some (.tup (.str w0 :: r)))(hne:w0 ≠ w)(h:Jh D Z H):Znj (ZoS (JF (JT rEq (JT Zdr (Zis j) (tC (V.int 0))) (tC (V.str w)))) body Zgp) Jh D Z H:=by
 refine Zq λB hB=>Jr λA hA C hC=>Zta h0 ht ?_
 rw [YC hne,if_neg (by decide),hC,hB]
 exact h
def Zcf(h0:Z[j]?=some (some (.ref pt)))(ht:H pt=some (.tup (.str w0 :: r)))(he:w0=w)(h:∀ B:St->Hp->Prop,B=Jh D->body { D with nx:=B } Z H):Znj (ZoS (JF (JT rEq (JT Zdr (Zis j) (tC (V.int 0))) (tC (V.str w)))) body Zgp) Jh D Z H:=by
 refine Zq λB hB=>Jr λA hA C hC=>Zta h0 ht ?_
 rw [YJ he,if_pos rfl,hA]
 exact h B hB
def Zr2{Q:Bool->Hp->Prop}(h0:Z[j]?=some (some (.ref pt)))(ht:H pt=some (.tup (.str w0 :: r)))(q:Q (decide (w0=w\/w0=v0)) H):tOr (JF (JT rEq (JT Zdr (Zis j) (tC (V.int 0))) (tC (V.str w)))) (JF (JT rEq (JT Zdr (Zis j) (tC (V.int 0))) (tC (V.str v0)))) Z H Q:=by
 refine Zta (Q:=λk H'=>if k=true then Q true H' else JF (JT rEq (JT Zdr (Zis j) (tC (V.int 0))) (tC (V.str v0))) Z H' Q) h0 ht ?_
 by_cases c:w0=w
 ·rw [YJ (.inl c)] at q
  rw [YJ c,if_pos rfl]
  exact q
 ·rw [YC c,if_neg (by decide)]
  refine Zta h0 ht ?_
  by_cases c2:w0=v0
  ·rw [YJ (.inr c2)] at q
   rw [YJ c2]
   exact q
  ·rw [YC (λz=>z.elim c c2)] at q
   rw [YC c2]
   exact q
def Zei(h0:Z[j]?=some (some (.ref pt)))(ht:H pt=some (.tup (.str w0 :: r)))(hne:¬ (w0=w\/w0=v0))(h:Jh D Z H):Znj (ZoS (tOr (JF (JT rEq (JT Zdr (Zis j) (tC (V.int 0))) (tC (V.str w)))) (JF (JT rEq (JT Zdr (Zis j) (tC (V.int 0))) (tC (V.str v0))))) body Zgp) Jh D Z H:=by
 refine Zq λB hB=>Jr λA hA C hC=>Zr2 h0 ht ?_
 rw [YC hne,if_neg (by decide),hC,hB]
 exact h
def ZiK(h0:Z[j]?=some (some (.ref pt)))(ht:H pt=some (.tup (.str w0 :: r)))(he:w0=w\/w0=v0)(h:∀ B:St->Hp->Prop,B=Jh D->body { D with nx:=B } Z H):Znj (ZoS (tOr (JF (JT rEq (JT Zdr (Zis j) (tC (V.int 0))) (tC (V.str w)))) (JF (JT rEq (JT Zdr (Zis j) (tC (V.int 0))) (tC (V.str v0))))) body Zgp) Jh D Z H:=by
 refine Zq λB hB=>Jr λA hA C hC=>Zr2 h0 ht ?_
 rw [YJ he,if_pos rfl,hA]
 exact h B hB
end
section
variable {P:Program}{w:World}{K:PySem.W.Frag}{mg:Str->Option Value}{base:Heap}{f:Addr}{fd:FuncData}{CT CNP CS:Addr}
def ZkN:Sp:=λvs H Q _=>∃ (x:V) (p d:Addr) (rx:List V) (dd:Deed) (n:JZ) (i:Nat),vs=[x,.ref p,.ref d]/\Zhd H x dd/\H p=some (.lst rx)/\ZS H rx n.1/\H d=some (.dK n.2)/\ZeD i n/\i < 23/\ZgK i n dd /\
 ∀ t p' d' rx' H',H t=none->H p'=none->H d'=none->Zn H H'->H' t=some (.tup [.ref p',.ref d'])->H' p'=some (.lst rx')->ZS H' rx' (done dd n).1->H' d'=some (.dK (done dd n).2)->Q (.ref t) H'
def Zrb(F:Fun K "_law_done" "_law_done" ZbB f fd)(Jg:mg "list"=none)(ZbS:mg "dict"=none)(ZB:mg "len"=none)(ZX:Fn P w K mg base Zx 2 "_law_low" ["_law_top","_law_bottom"] Zc8):FnOk P w K mg base Zx 3 f fd ["_law_deed","_law_roads","_law_homes"] ZkN:=by
 refine JP F Zbe λcdv A outer s H vs Q E hr h=>?_
 obtain⟨x,p,d,rx,dd,n,i,rfl,hx,hp,hR,hd,hN,hi,hO,q⟩:=h
 refine⟨_,(Zd (Zw 1 Zbe.nd (ZfL rfl Jg (Zl (Zf 1) Zb)))
   (Zd (Zw 2 Zbe.nd (ZfS rfl ZbS (Zl (Zf 2) Zb)))
   (Zd (Ja (t_w (J3 (JX (Zr (Zf 0) Zc) ZN) (ZdD (JX (Zr (Zf 0) Zc) ZN)))) (Zk (Ze4 (ZdE hr) (Zf 2) (Zr (Zf 0) Zc) (Zr (Zf 0) Zc))) ZG)
   (Zd (Ja (JX (Zr (Zf 0) Zc) ZN) (Zk (ZR (Zpq (Zf 2) (Zr (Zf 0) Zc)))) ZG)
   (Zd (Ja (JX (Zr (Zf 0) Zc) ZN) (Zk (Zj9 (Jv (Zl (Zr (ZT (Zf 1) (JS (Zr (Zf 0) Zc) Zc)) Zc) (Zl (Zr (Zf 0) Zc) Zb))) (ZlW (Zf 1) (JS (Zr (Zf 0) Zc) Zc)))) ZG)
   (Zd (Ja (JX (Zr (Zf 0) Zc) ZN) (Zk (ZR (Zim (Zf 1) (Zl (Jv (Zl (Zr (Zf 0) Zc) (Zl (Zr (Zf 0) Zc) Zb))) Zb)))) ZG)
   (Zd (Ja (JX (Zr (Zf 0) Zc) ZN) (Zd (Zj9 (ZT (Zf 1) (JS (Zr (Zf 0) Zc) Zc)) (Zum (n:=2) (Zlm (Jq 3 Zbe.nd) (Zlm (Jq 4 Zbe.nd) ZsP))))
   (Zd (Zw 5 Zbe.nd (Zr (Zf 0) Zc))
   (Zd (Zw 6 Zbe.nd (JB ZX hr (Zl (JS (ZbW (Zr (Zf 4) Zc) (Zr (Zf 5) Zc)) (ZbW (Zr (Zf 5) Zc) (Zr (Zf 4) Zc))) (Zl (ZbW (Zr (Zf 4) Zc) (Zr (Zf 5) Zc)) Zb))))
   (Zd (Zj9 (Jv (Zl (Jd (JE rfl ZB (Zl (Zf 1) Zb)) Zc) (Zl (Zf 6) Zb))) (ZlW (Zf 1) (JS (Zr (Zf 0) Zc) Zc)))
   (Zk (ZR (Zim (Zf 1) (Zl (Jv (Zl (Zf 3) (Zl (Zf 5) Zb))) Zb)))))))) ZG)
   (Zk (Zu (Jv (Zl (Zf 1) (Zl (Zf 2) Zb)))))))))))),?_⟩
 rw [show Zv ["_law_deed","_law_roads","_law_homes","_law_to","_law_whole_here","_law_part","_law_rest"] [x,.ref p,.ref d]=[some (x),some (.ref p),some (.ref d),none,none,none,none] from rfl]
 refine Zq λB hB=>?_
 walk_at "rd"
 simp only [Zkh]
 walk_at "rd"
 refine⟨rx,.inl (.of hp),λp1 H1 hp1 s1 e1=>?_⟩
 subst hB
 try dsimp only
 refine Zq λB hB=>?_
 walk_at "rd"
 simp only [ZfN]
 walk_at "rd"
 refine⟨n.2,.inl (s1 _ _ hd),λd1 H2 hd1 s2 e2=>?_⟩
 have s12:=s1.trans s2
 have e12:=s2 _ _ e1
 have hR2:=hR.same s12
 have hx2:Zhd H2 x dd:=hx.keep λb ys e=>s12 _ _ e
 have hd0:H d1=none:=s1.free hd1
 have npd:p1 ≠ d1:=Zo e1 hd1
 subst hB
 try dsimp only
 have nd:∀ {c:Addr}{o:HO},H c=some o->c ≠ d1:=λe=>Zo e hd0
 have np:∀ {c:Addr}{o:HO},H c=some o->c ≠ p1:=λe=>Zo e hp1
 have fin:∀ H3 rx',Zn H H3->H3 p1=some (.lst rx')->ZS H3 rx' (done dd n).1->H3 d1=some (.dK (done dd n).2)->∀ t H4,H3 t=none->Zn H3 H4->H4 t=some (.tup [.ref p1,.ref d1])->Q (.ref t) H4:=λH3 rx' s3 g1 g2 g3 t H4 ht s4 e4 =>
  q t p1 d1 rx' H4 (s3.free ht) hp1 hd0 (s3.trans s4) e4 (s4 _ _ g1) (g2.same s4) (s4 _ _ g3)
 have hkl:=hN.2.2.1
 have hrl:=hR.1
 cases dd with
 | come z k =>
  obtain⟨pt,rfl,ht⟩:=hx2
  refine ZiK rfl ht (.inl rfl) λB hB=>?_
  walk_at "rd"
  refine⟨_,ht,_,rfl,_,ht,_,rfl,n.2,e2,Sum.inr z,rfl,by omega,?_⟩
  subst hB
  try dsimp only
  have S3:Zn H (upd H2 d1 (.dK (Jt n.2 (Sum.inr z) (.int (k:Int))))):=ZE hd0 s12
  have ht':upd H2 d1 (.dK (Jt n.2 (Sum.inr z) (.int (k:Int)))) pt=some (.tup [.str "come",.str z,.int (k:Int)]):=by rw [Zj (JJ ht e2 (by intro z; cases z))]; exact ht
  refine ZF rfl ht' (by decide +kernel) (ZF rfl ht' (by decide +kernel) (ZF rfl ht' (by decide +kernel) (ZF rfl ht' (by decide +kernel) ?_)))
  walk_at "rd"
  exact fin _ rx S3 (by rw [Zj npd]; exact e12) (hR.same S3) Zi
 | go z =>
  obtain⟨pt,rfl,ht⟩:=hx2
  refine Zei rfl ht (by decide +kernel) (Zcf rfl ht rfl λB hB=>?_)
  obtain⟨v,ev⟩:=Option.isSome_iff_exists.mp hO
  walk_at "rd"
  refine⟨.inl ⟨n.2,.inl e2⟩,_,ht,_,rfl,n.2,e2,Sum.inr z,rfl,⟨v,ev⟩,?_⟩
  subst hB
  try dsimp only
  have S3:Zn H (upd H2 d1 (.dK (Zfi n.2 (Sum.inr z)))):=ZE hd0 s12
  have ht':upd H2 d1 (.dK (Zfi n.2 (Sum.inr z))) pt=some (.tup [.str "go",.str z]):=by rw [Zj (JJ ht e2 (by intro z; cases z))]; exact ht
  refine ZF rfl ht' (by decide +kernel) (ZF rfl ht' (by decide +kernel) (ZF rfl ht' (by decide +kernel) ?_))
  walk_at "rd"
  exact fin _ rx S3 (by rw [Zj npd]; exact e12) (hR.same S3) Zi
 | move z k =>
  obtain⟨pt,rfl,ht⟩:=hx2
  refine ZiK rfl ht (.inr rfl) λB hB=>?_
  walk_at "rd"
  refine⟨_,ht,_,rfl,_,ht,_,rfl,n.2,e2,Sum.inr z,rfl,by omega,?_⟩
  subst hB
  try dsimp only
  have S3:Zn H (upd H2 d1 (.dK (Jt n.2 (Sum.inr z) (.int (k:Int))))):=ZE hd0 s12
  have ht':upd H2 d1 (.dK (Jt n.2 (Sum.inr z) (.int (k:Int)))) pt=some (.tup [.str "move",.str z,.int (k:Int)]):=by rw [Zj (JJ ht e2 (by intro z; cases z))]; exact ht
  refine ZF rfl ht' (by decide +kernel) (ZF rfl ht' (by decide +kernel) (ZF rfl ht' (by decide +kernel) (ZF rfl ht' (by decide +kernel) ?_)))
  walk_at "rd"
  exact fin _ rx S3 (by rw [Zj npd]; exact e12) (hR.same S3) Zi
 | reprice j t =>
  obtain⟨pt,y,rfl,ht,hy⟩:=hx2
  refine Zei rfl ht (by decide +kernel) (ZF rfl ht (by decide +kernel) (Zcf rfl ht rfl λB hB=>?_))
  obtain⟨hj,_,_⟩:=hO
  have hrj:=Yc hj
  have hxj:j < rx.length:=by omega
  obtain⟨rp,ry,erx,hrp,hry⟩:=hR2.2 j _ _ (Yc hxj) hrj
  have hat:atI rx ((j:Int) + 1 - 1)=some (.ref rp):=by
   rw [show (j:Int) + 1 - 1=(j:Int) by omega,<- erx]
   exact ZY (Yc hxj)
  walk_at "rd"
  refine⟨_,ht,_,rfl,_,rfl,_,e12,_,hat,rp,rfl,_,hrp,_,rfl,_,ht,_,rfl,λt5 H5 ht5 s5 e5=>?_⟩
  refine⟨_,s5 _ _ ht,_,rfl,_,rfl,_,s5 _ _ e12,j,?_,?_⟩
  ·rw [show (j:Int) + 1 - 1=(j:Int) by omega]
   exact ZiZ hxj
  subst hB
  try dsimp only
  have s15:=s12.trans s5
  have e15:=s5 _ _ e12
  have S3:Zn H (upd H5 p1 (.lst (rx.set j (.ref t5)))):=ZE hp1 s15
  have nt:∀ b ys,H5 b=some (.tup ys)->upd H5 p1 (.lst (rx.set j (.ref t5))) b=some (.tup ys):=λb ys e=>by rw [Zj (JJ e e15 (by intro z; cases z))]; exact e
  refine ZF rfl (nt _ _ (s5 _ _ ht)) (by decide +kernel) (ZF rfl (nt _ _ (s5 _ _ ht)) (by decide +kernel) ?_)
  walk_at "rd"
  refine fin _ (rx.set j (.ref t5)) S3 Zi ?_ (by rw [Zj (Ne.symm npd)]; exact s5 _ _ e2)
  show ZS _ _ (Zjx n.1 j t)
  rw [Zf9 hrj]
  exact ((hR2.same s5).keep nt).set (Jy.keep ⟨t5,y,rfl,e5,hy.same s5⟩ nt)
 | build to t =>
  obtain⟨pt,y,rfl,ht,hy⟩:=hx2
  refine Zei rfl ht (by decide +kernel) (ZF rfl ht (by decide +kernel) (ZF rfl ht (by decide +kernel) (Zcf rfl ht rfl λB hB=>?_)))
  walk_at "rd"
  refine⟨⟨_,e12⟩,_,ht,_,rfl,_,ht,_,rfl,λt5 H5 ht5 s5 e5=>⟨_,s5 _ _ e12,by rw [hrl]; have:=hN.1.2.1; omega,?_⟩⟩
  subst hB
  try dsimp only
  have s15:=s12.trans s5
  have e15:=s5 _ _ e12
  have S3:Zn H (upd H5 p1 (.lst (rx ++ [.ref t5]))):=ZE hp1 s15
  have nt:∀ b ys,H5 b=some (.tup ys)->upd H5 p1 (.lst (rx ++ [.ref t5])) b=some (.tup ys):=λb ys e=>by rw [Zj (JJ e e15 (by intro z; cases z))]; exact e
  refine ZF rfl (nt _ _ (s5 _ _ ht)) (by decide +kernel) ?_
  walk_at "rd"
  refine fin _ (rx ++ [.ref t5]) S3 Zi ?_ (by rw [Zj (Ne.symm npd)]; exact s5 _ _ e2)
  exact ((hR2.same s5).keep nt).snoc (Jy.keep ⟨t5,y,rfl,e5,hy.same s5⟩ nt)
 | cut j t =>
  obtain⟨pt,y,rfl,ht,hy⟩:=hx2
  obtain⟨r,hrj,z1,_,_,_,_⟩:=hO
  refine Zei rfl ht (by decide +kernel) (ZF rfl ht (by decide +kernel) (ZF rfl ht (by decide +kernel) (ZF rfl ht (by decide +kernel) (Zcf rfl ht rfl λB hB=>?_))))
  have hj:=(Yf.mp hrj).1
  have hxj:j < rx.length:=by omega
  obtain⟨rp,ry,erx,hrp,hry⟩:=hR2.2 j _ _ (Yc hxj) hrj
  have hat:atI rx ((j:Int) + 1 - 1)=some (.ref rp):=by
   rw [show (j:Int) + 1 - 1=(j:Int) by omega,<- erx]
   exact ZY (Yc hxj)
  refine Zq λB2 hB2=>?_
  walk_at "rd"
  refine⟨_,ht,_,rfl,_,rfl,_,e12,_,hat,rp,rfl,_,hrp,rfl,_,_,rfl,_,_,rfl,rfl,?_⟩
  subst hB2
  try dsimp only
  refine Zq λB2 hB2=>?_
  walk_at "rd"
  refine⟨_,ht,_,rfl,?_⟩
  obtain⟨wp,rfl,hwp⟩:=hry
  obtain⟨yp,rfl,hyp⟩:=hy
  have zr:=(hN.1.2.2 r (Yz hrj)).1
  subst hB2
  try dsimp only
  refine Zq λB2 hB2=>?_
  walk_at "rd"
  refine⟨_,hwp,_,rfl,_,hyp,_,rfl,_,rfl,_,rfl,?_⟩
  have hdd:0 < (r.2.den:Int) * (t.den:Int):=Int.mul_pos (by have:=r.2.den_pos; omega) (by have:=t.den_pos; omega)
  refine⟨ZdT zr.1 (Jf z1) (by decide),_,hyp,_,rfl,_,hwp,_,rfl,_,rfl,_,rfl,ZdT z1.1 (Jf zr) (by decide),_,hwp,_,rfl,_,hyp,_,rfl,_,rfl,_,rfl,ZdT (Jf zr) (Jf z1) (by decide),?_⟩
  refine⟨_,_,rfl,Big.of (Za0 (Jf zr) (Jf z1)) (by decide),hdd,λrv H5 s5 hrv=>?_⟩
  rw [<- Zfs] at hrv
  subst hB2
  try dsimp only
  refine Zq λB2 hB2=>?_
  walk_at "rd"
  refine⟨_,.inl (s5 _ _ e12),λt6 H6 ht6 s6 e6=>⟨_,(s5.trans s6) _ _ ht,_,rfl,_,rfl,_,(s5.trans s6) _ _ e12,j,?_,?_⟩⟩
  ·rw [show (j:Int) + 1 - 1=(j:Int) by omega]
   exact ZiZ hxj
  have s26:=s5.trans s6
  have e16:=s26 _ _ e12
  have nt:∀ b ys,H6 b=some (.tup ys)->upd H6 p1 (.lst (rx.set j (.ref t6))) b=some (.tup ys):=λb ys e=>by rw [Zj (JJ e e16 (by intro z; cases z))]; exact e
  have S3:Zn H (upd H6 p1 (.lst (rx.set j (.ref t6)))):=ZE hp1 (s12.trans s26)
  have hRs:ZS (upd H6 p1 (.lst (rx.set j (.ref t6)))) (rx.set j (.ref t6)) (n.1.set j (n.1.length + 1,r.2 - t)):=((hR2.same s26).keep nt).set (Jy.keep ⟨t6,rv,rfl,by rw [e6,hrl]; rfl,hrv.same s6⟩ nt)
  have hyq:Jn (upd H6 p1 (.lst (rx.set j (.ref t6)))) (.ref yp) t:=⟨yp,rfl,nt _ _ (s26 _ _ hyp)⟩
  have htq:=nt _ _ (s26 _ _ ht)
  have hdq:upd H6 p1 (.lst (rx.set j (.ref t6))) d1=some (.dK n.2):=by rw [Zj (Ne.symm npd)]; exact s26 _ _ e2
  have e17:upd H6 p1 (.lst (rx.set j (.ref t6))) p1=some (.lst (rx.set j (.ref t6))):=Zi
  generalize upd H6 p1 (.lst (rx.set j (.ref t6)))=H7 at S3 hRs hyq htq hdq e17 ⊢
  subst hB2
  try dsimp only
  walk_at "rd"
  refine⟨⟨_,e17⟩,λt8 H8 ht8 s8 e8=>⟨_,s8 _ _ e17,by rw [List.length_set,hrl]; have:=hN.1.2.1; omega,?_⟩⟩
  subst hB
  try dsimp only
  have e18:=s8 _ _ e17
  have S4:Zn H (upd H8 p1 (.lst (rx.set j (.ref t6) ++ [.ref t8]))):=ZE hp1 (S3.trans s8)
  have nt2:∀ b ys,H8 b=some (.tup ys)->upd H8 p1 (.lst (rx.set j (.ref t6) ++ [.ref t8])) b=some (.tup ys):=λb ys e=>by rw [Zj (JJ e e18 (by intro z; cases z))]; exact e
  walk_at "rd"
  refine fin _ (rx.set j (.ref t6) ++ [.ref t8]) S4 Zi ?_ (by rw [Zj (Ne.symm npd)]; exact s8 _ _ hdq)
  show ZS _ _ (Zks n.1 j t)
  rw [Ze8 hrj,List.set_append_left _ _ hj]
  exact ((hRs.same s8).keep nt2).snoc (Jy.keep ⟨t8,_,rfl,e8,hyq.same s8⟩ nt2)
end
def Zu5(n:JZ):Deed->V
 | .build _ _=>.int ((n.1.length:Int) + 1)
 | .cut _ _=>.int ((n.1.length:Int) + 1)
 | _=>.non
def ZpU{a b:Addr}(ha:H a=some (.dK kvs))(hb:H b=some (.dK kvs))(hv:HV i kvs):EqP H (.ref a) (.ref b) 2 :=
 .dct (n:=0) (.inl ha) (.inl hb) rfl (λj x y h1 h2=>by
  rw [h1] at h2
  cases h2
  obtain⟨_,_,k,_,rfl,_⟩:=hv.2.2 x (Yz h1)
  have z:=EqD.flat (H:=H) (x:=.int (k:Int)) (y:=.int (k:Int)) rfl rfl
  rw [ZcT rfl] at z
  exact⟨rfl,z⟩) hv.1
section
variable {P:Program}{w:World}{K:PySem.W.Frag}{mg:Str->Option Value}{base:Heap}{f:Addr}{fd:FuncData}{CT CNP CS:Addr}
def Zpx(CS CT:Addr):Sp:=λvs H Q _=>∃ (ex:List Addr) (a ps:Addr) (x:V) (n:JZ) (past:List JZ) (dd:Deed) (i:Nat),vs=[.ref a,x]/\ZM ex CS CT H a ps n.1 n.2 past/\past.length < 900/\Zhd H x dd/\ZeD i n/\i < 23/\ZgK i n dd /\
 ∀ H',Jx a ps H H'->ZM ex CS CT H' a ps (done dd n).1 (done dd n).2 (past ++ [n])->Q (Zu5 n dd) H'
def Zr4(F:Fun K "_law_do" "_law_do" ZcQ f fd)(Zl4:Mth P w K mg base Zx 3 CS "come" ["self","name","k"] (ZmP CS CT))(ZtL:Mth P w K mg base Zx 3 CS "go" ["self","name"] (Zsk CS CT))(ZkD:Mth P w K mg base Zx 3 CS "move" ["self","name","k"] (Zmw CS CT))(ZeE:Mth P w K mg base Zx 9 CS "reprice" ["self","k","price"] (Zfx CS CT))
  (ZhX:Mth P w K mg base Zx 9 CS "build" ["self","to","price"] (ZiM CS CT)) (Zqv:Mth P w K mg base Zx 9 CS "cut" ["self","k","price"] (Zpe CS CT)):FnOk P w K mg base Zx 10 f fd ["_law_shire","_law_deed"] (Zpx CS CT):=by
 refine JP F Zk5 λcdv A outer s H vs Q E hr h=>?_
 obtain⟨ex,a,ps,x,n,past,dd,i,rfl,hS,hpl,hx,hN,hi,hO,q⟩:=h
 obtain⟨dx,tr,ds,pv,h1,_⟩:=id hS
 refine⟨_,(Zd (Ja (JX (Zr (Zf 1) Zc) ZN) (Zk (Zu (Jc Zl4 hr (by decide) (Zf 0) (Zl (Zr (Zf 1) Zc) (Zl (Zr (Zf 1) Zc) Zb))))) ZG)
   (Zd (Ja (JX (Zr (Zf 1) Zc) ZN) (Zk (Zu (Jc ZtL hr (by decide) (Zf 0) (Zl (Zr (Zf 1) Zc) Zb)))) ZG)
   (Zd (Ja (JX (Zr (Zf 1) Zc) ZN) (Zk (Zu (Jc ZkD hr (by decide) (Zf 0) (Zl (Zr (Zf 1) Zc) (Zl (Zr (Zf 1) Zc) Zb))))) ZG)
   (Zd (Ja (JX (Zr (Zf 1) Zc) ZN) (Zk (Zu (Jc ZeE hr (by decide) (Zf 0) (Zl (Zr (Zf 1) Zc) (Zl (Zr (Zf 1) Zc) Zb))))) ZG)
   (Zd (Ja (JX (Zr (Zf 1) Zc) ZN) (Zk (Zu (Jc ZhX hr (by decide) (Zf 0) (Zl (Zr (Zf 1) Zc) (Zl (Zr (Zf 1) Zc) Zb))))) ZG)
   (Zk (Zu (Jc Zqv hr (by decide) (Zf 0) (Zl (Zr (Zf 1) Zc) (Zl (Zr (Zf 1) Zc) Zb)))))))))),?_⟩
 rw [show Zv ["_law_shire","_law_deed"] [.ref a,x]=[some (.ref a),some (x)] from rfl]
 have hH:=hN.2
 have hT:=hN.1.1
 have hz:=hN.1.2.2
 have hl6:=hN.2.2.1
 have hlr:=hN.1.2.1
 have hnn:∀ r∈n.1,0<=r.2.num:=λr hr=>(hz r hr).2
 have hok:=ZkT hi hN hO
 cases dd with
 | come z k =>
  obtain⟨pt,rfl,ht⟩:=hx
  refine Zcf rfl ht rfl λB hB=>?_
  walk_at "rd"
  obtain⟨⟨j,sN,hj,rfl⟩,hk,hlen⟩:=hO
  refine⟨dx,_,h1,rfl,_,ht,_,rfl,_,ht,_,rfl,ex,a,ps,n.1,n.2,past,_,_,rfl,hS,by omega,by omega,Zih j sN,Zn1 hH hj sN,⟨by omega,by omega⟩,q⟩
 | go z =>
  obtain⟨pt,rfl,ht⟩:=hx
  refine ZF rfl ht (by decide +kernel) (Zcf rfl ht rfl λB hB=>?_)
  walk_at "rd"
  exact⟨dx,_,h1,rfl,_,ht,_,rfl,ex,a,ps,n.1,n.2,past,_,rfl,hS,by omega,(Zf8 hH hO).2,hO,q⟩
 | move z k =>
  obtain⟨pt,rfl,ht⟩:=hx
  refine ZF rfl ht (by decide +kernel) (ZF rfl ht (by decide +kernel) (Zcf rfl ht rfl λB hB=>?_))
  walk_at "rd"
  exact⟨dx,_,h1,rfl,_,ht,_,rfl,_,ht,_,rfl,ex,a,ps,n.1,n.2,past,_,_,rfl,hS,by omega,by omega,(Zf8 hH hO.1).2,hO.1,⟨by omega,by have:=hO.2; omega⟩,q⟩
 | reprice j t =>
  obtain⟨pt,y,rfl,ht,hy⟩:=hx
  refine ZF rfl ht (by decide +kernel) (ZF rfl ht (by decide +kernel) (ZF rfl ht (by decide +kernel) (Zcf rfl ht rfl λB hB=>?_)))
  walk_at "rd"
  exact⟨dx,_,h1,rfl,_,ht,_,rfl,_,ht,_,rfl,ex,a,ps,n.1,n.2,past,j,y,t,rfl,hS,by omega,hy,hO.2.2,hO.1,by omega,hok.1.1,λr hr=>(hok.1.2.2 r hr).2,q⟩
 | build to t =>
  obtain⟨pt,y,rfl,ht,hy⟩:=hx
  refine ZF rfl ht (by decide +kernel) (ZF rfl ht (by decide +kernel) (ZF rfl ht (by decide +kernel) (ZF rfl ht (by decide +kernel) (Zcf rfl ht rfl λB hB=>?_))))
  walk_at "rd"
  exact⟨dx,_,h1,rfl,_,ht,_,rfl,_,ht,_,rfl,ex,a,ps,n.1,n.2,past,to,y,t,rfl,hS,by omega,hy,hO.2.2,hO.1,by omega,hok.1.1,λr hr=>(hok.1.2.2 r hr).2,q⟩
 | cut j t =>
  obtain⟨pt,y,rfl,ht,hy⟩:=hx
  refine ZF rfl ht (by decide +kernel) (ZF rfl ht (by decide +kernel) (ZF rfl ht (by decide +kernel) (ZF rfl ht (by decide +kernel) (ZF rfl ht (by decide +kernel) ?_))))
  obtain⟨r,hrj,z1,z2,z3,z4,z5⟩:=hO
  obtain⟨_,_,_,hto⟩:=id hT
  have hr1:=(hto j r hrj).1
  walk_at "rd"
  refine⟨dx,_,h1,rfl,_,ht,_,rfl,_,ht,_,rfl,ex,a,ps,n.1,n.2,past,j,y,t,r,rfl,hS,by omega,hy,z2,hrj,by omega,(hz r (Yz hrj)).1.mono (by decide),z1.mono (by decide),z3,Zfc hT hr1 t,λu hu=>?_,hok.1.1,λu hu=>(hok.1.2.2 u hu).2,q⟩
  rcases Yp.mp hu with g | g
  ·exact hnn u g
  ·rw [Yu.mp g]; exact z2
def Zhh(CS CT:Addr):Sp:=λvs H Q _=>∃ (ex:List Addr) (a ps p d:Addr) (rx:List V) (n:JZ) (past:List JZ) (i:Nat),vs=[.ref a,.ref p,.ref d]/\ZM ex CS CT H a ps n.1 n.2 past/\H p=some (.lst rx)/\ZS H rx n.1/\H d=some (.dK n.2)/\HV i n.2/\∀ H',Zn H H'->Q (.bl true) H'
def ZmE(F:Fun K "_law_stands" "_law_stands" Zbh f fd)(Zm:mg "isinstance"=none)(ZB:mg "len"=none)(ZbS:mg "dict"=none)(Zi1:mg "Tree"=some (.ref CT))(oc_Tree:OwnCls K CT)(Zky:Mth P w K mg base Zx 1 CS "tree" ["self"] (Zjk CS CT))(Zit:Mth P w K mg base Zx 1 CS "homes" ["self"] (Zhm CS CT))
  (Zbt:Mth P w K mg base Zx 1 CT "roads" ["self"] (ZcB CT)) (ZbQ:Mth P w K mg base Zx 1 CT "many" ["self"] (Zdg CT)):FnOk P w K mg base Zx 2 f fd ["_law_shire","_law_roads","_law_homes"] (Zhh CS CT):=by
 refine JP F Zcp λcdv A outer s H vs Q E hr h=>?_
 obtain⟨ex,a,ps,p,d,rx,n,past,i,rfl,hS,hp,hR,hd,hH,q⟩:=h
 obtain⟨dx,tr,ds,pv,h1,_⟩:=id hS
 refine⟨_,(Zd (Zw 3 Zcp.nd (ZbT Zky hr (by decide) (Zf 0)))
   (Zd (Ja (t_w (J3 (JO (JD (ZqZ rfl Zm (Zl (Zf 3) (Zl (ZmY rfl Zi1) Zb))))) (J3 (Zf4 hr (ZbT Zbt hr (by decide) (Zf 3)) (Zf 1)) (ZdD (Zjm (ZbT ZbQ hr (by decide) (Zf 3)) (Jd (JE rfl ZB (Zl (Zf 1) Zb)) Zc)))))) (Zk (Zu Zh5)) ZG)
   (Zd (Zw 4 Zcp.nd (ZbT Zit hr (by decide) (Zf 0)))
   (Zk (Zu (Zgt (Zc6 rfl Zm (Zl (Zf 4) (Zl (Zm5 rfl ZbS rfl) Zb))) (Zhw (Zt5 hr (Zf 4) (Zf 2))))))))),?_⟩
 rw [show Zv ["_law_shire","_law_roads","_law_homes","_law_tree","_law_told"] [.ref a,.ref p,.ref d]=[some (.ref a),some (.ref p),some (.ref d),none,none] from rfl]
 refine Zq λB hB=>?_
 walk_at "rd"
 refine⟨dx,_,h1,rfl,ex,a,ps,n.1,n.2,past,rfl,hS,λtv hT=>?_⟩
 have hT1:=hT.same Ju
 obtain⟨tb,dt,la,wa,ls,ws,rfl,t1,_⟩:=id hT1
 subst hB
 try dsimp only
 refine Zq λB hB=>?_
 refine Jr λA1 hA1 C1 hC1=>?_
 walk_at "rd"
 refine⟨⟨_,_,t1⟩,oc_Tree,_,_,t1,rfl,.ref tb,n.1,rfl,hT1,λpr H1 ls1 hpr s1 e1 hR1=>?_⟩
 refine⟨true,3,pr,p,rfl,rfl,Zho e1 (s1 _ _ hp) hR1 (hR.same s1),by decide,_,rfl,?_⟩
 rw [if_neg (by decide)]
 refine⟨_,_,s1 _ _ t1,rfl,.ref tb,n.1,rfl,hT1.same s1,_,.inl (s1 _ _ hp),rfl,?_⟩
 rw [hR.1,if_neg (λz=>z rfl)]
 subst hC1
 refine Zcz ?_
 subst hB
 try dsimp only
 walk_at "rd"
 refine⟨dx,_,s1 _ _ h1,rfl,ex,a,ps,n.1,n.2,past,rfl,hS.same s1,λd2 H2 hd2 s2 e2=>?_⟩
 have hk:Zdl H2 (.ref d2)=some "dict":=by
  unfold Zdl
  dsimp only
  rw [e2]
 refine⟨_,hk,by decide,?_⟩
 rw [if_pos (by decide)]
 exact⟨⟨_,rfl⟩,2,ZpU e2 ((s1.trans s2) _ _ hd) hH,by decide,q _ (s1.trans s2)⟩
end
def Zm2{ns:List Int}(h:∀ n∈ns,Zm8 n)(k:Nat)(hk:k < 100):Zm8 (cellOf ns k):=by
 unfold cellOf
 rw [List.getD_eq_getElem?_getD]
 cases e:ns[k]? with
 | some n=>exact h n (Yz e)
 | none =>
  show Zm8 (2 * (k:Int) + 1)
  exact ZhK (n:=1048576) (Yq (m:=2 ^ 20) (by omega) (V1 (by decide) (by decide)))
def ZmA(H:Hp)(v:V)(n:JZ):Prop:=∃ t p d rx,v=.ref t/\H t=some (.tup [.ref p,.ref d])/\H p=some (.lst rx)/\ZS H rx n.1/\H d=some (.dK n.2)
theorem ZmA.same{H H':Hp}{v:V}{n:JZ}(h:ZmA H v n)(s:Zn H H'):ZmA H' v n:=let ⟨t,p,d,rx,e,h1,h2,h3,h4⟩:=h; ⟨t,p,d,rx,e,s _ _ h1,s _ _ h2,h3.same s,s _ _ h4⟩
def Zo9{a ps l:Addr}{o:HO}(hl:l∈ex):Zn (off ex a ps H) (off ex a ps (upd H l o)):=λb u e=>by
 obtain⟨g1,g2,g3,g4⟩:=ZaT.mp e
 exact ZaT.mpr ⟨g1,g2,g3,by rw [Zj (λz=>g3 (by rw [z]; exact hl))]; exact g4⟩
theorem ZM.updx{CS CT:Addr}{a ps l:Addr}{past:List JZ}{ys:List V}(h:ZM ex CS CT H a ps rs kvs past)(hl:l∈ex):ZM ex CS CT (upd H l (.lst ys)) a ps rs kvs past:=by
 obtain⟨dx,tr,ds,pv,h1,h2,h3,h4,h5,h6,h7⟩:=h
 have so:Zn (off ex a ps H) (off ex a ps (upd H l (.lst ys))):=Zo9 hl
 have na:a ≠ l:=λz=>by obtain⟨zs,q⟩:=h6 l hl; rw [<- z,h1] at q; cases q
 have np:ps ≠ l:=λz=>h7 (z ▸ hl)
 refine⟨dx,tr,ds,pv,by rw [Zj na]; exact h1,by rw [Zj np]; exact h2,h3.same so,so _ _ h4,h5.mono λv n q=>q.same so,λm hm=>?_,h7⟩
 by_cases c:m=l
 ·rw [c]; exact⟨_,Zi⟩
 ·obtain⟨zs,q⟩:=h6 m hm
  exact⟨zs,by rw [Zj c]; exact q⟩
def Zkt(qs:List Rat)(i:Nat):Rat:=(qs.take i).foldl (· + ·) 0
variable {qs:List Rat}
def Zhk(h:qs[i]?=some q):Zkt qs (i + 1)=Zkt qs i + q:=by
 unfold Zkt
 rw [YL,h,List.foldl_append]
 rfl
def ZeO(H:Hp)(xs:List V)(qs:List Rat):Prop:=xs.length=qs.length/\∀ (i:Nat) x q,xs[i]?=some x->qs[i]?=some q->Jn H x q
theorem Zpb:ZeO H [] []:=⟨rfl,λi x q h _=>by simp at h⟩
def ZfQ(h:n ≠ 0):JN n 0:=⟨Nat.two_pow_pos n,Nat.one_lt_two_pow h⟩
def JN.add{n m k:Nat}{p q:Rat}(hp:JN n p)(hq:JN m q)(h:n + m + 1<=k):JN k (p + q):=by
 rw [Zfw]
 refine JN.mono (JN.of (n:=n + m + 1) (Zfp p q) (ZfG (Za0 hp.1 (Jf hq)) (Za0 hq.1 (Jf hp)) (by omega) (by omega)) (Zbc (Za0 (Jf hp) (Jf hq)) (by omega))) h
def ZjV(a b:Nat):Nat:=a / Nat.gcd a b * b
def Zq2{a b:Nat}(ha:0 < a):∃ c d,a=Nat.gcd a b * c/\b=Nat.gcd a b * d/\ZjV a b=Nat.gcd a b * c * d:=by
 have hg:0 < Nat.gcd a b:=Nat.gcd_pos_of_pos_left _ ha
 obtain⟨c,hc⟩:=VV a b
 obtain⟨d,hd⟩:=Nat.gcd_dvd_right a b
 refine⟨c,d,hc,hd,?_⟩
 unfold ZjV
 have e:a / Nat.gcd a b=c:=Nat.div_eq_of_eq_mul_right hg hc
 rw [e]
 conv=>lhs; rw [hd]
 rw [<- Nat.mul_assoc,Nat.mul_comm c]
def Zll{a b:Nat}(ha:0 < a):a ∣ ZjV a b:=by
 obtain⟨c,d,h1,h2,h3⟩:=Zq2 (b:=b) ha
 rw [h3]
 conv=>lhs; rw [h1]
 exact Nat.dvd_mul_right _ _
theorem Zkn{a b:Nat}(ha:0 < a):b ∣ ZjV a b:=by unfold ZjV; exact Nat.dvd_mul_left _ _
def Zjs{a b:Nat}(ha:0 < a)(hb:0 < b):0 < ZjV a b:=Nat.mul_pos (Nat.div_pos (Nat.le_of_dvd ha (VV a b)) (Nat.gcd_pos_of_pos_left _ ha)) hb
def ZiL(qs:List Rat)(i:Nat):Nat:=(qs.take i).foldl (λb q=>ZjV b q.den) 1
def Zev(h:qs[i]?=some q):ZiL qs (i + 1)=ZjV (ZiL qs i) q.den:=by
 unfold ZiL
 rw [YL,h,List.foldl_append]
 rfl
def Zgf(hz:∀ (i:Nat) q,qs[i]?=some q->JN n q):∀ i,i<=qs.length->0 < ZiL qs i/\ZiL qs i<=2 ^ (n * i)/\∀ (j:Nat) q,j < i->qs[j]?=some q->q.den ∣ ZiL qs i
 | 0,_=>⟨Nat.one_pos,Nat.one_le_two_pow,λj q h=>absurd h (VJ j)⟩
 | i + 1,h=>by
  obtain⟨h1,h2,h3⟩:=Zgf hz i (Yt h)
  have hq:=Yc h
  rw [Zev hq]
  refine⟨Zjs h1 qs[i].den_pos,?_,λj q hj hq2=>?_⟩
  ·unfold ZjV
   refine Yj (Nat.mul_le_mul (Yj (Nat.div_le_self _ _) h2) (Yt (hz i _ hq).2)) ?_
   rw [<- Nat.pow_add,Nat.mul_succ]
   exact Yd _
  ·by_cases c:j=i
   ·subst c
    rw [hq] at hq2
    cases hq2
    exact Zkn h1
   ·exact Nat.dvd_trans (h3 j q (by omega) hq2) (Zll h1)
def Zs4(qs:List Rat):Prop:=(∀ (i:Nat) q,qs[i]?=some q->JN 4000 q)/\∀ i,i<=qs.length->ZiL qs i<=2 ^ 4000
def ZqO(hz:∀ (i:Nat) q,qs[i]?=some q->JN n q)(hn:n * qs.length<=4000):Zs4 qs :=
 ⟨λi q h=>(hz i q h).mono (Yj (Nat.le_mul_of_pos_right _ (YN (YA _) (Yf.mp h).1)) hn),λi hi=>Yj (Zgf hz i hi).2.1 (V1 (by decide) (Yj (Nat.mul_le_mul_left _ hi) hn))⟩
def ZrZ(B:Nat)(q:Rat):Int:=q.num * ((B:Int) / (q.den:Int))
def Zqf{B:Nat}(hB:0 < B)(h:q.den ∣ B):Rat.divInt (ZrZ B q) (B:Int)=q:=by
 obtain⟨c,rfl⟩:=h
 have hd:=q.den_pos
 have hc:(c:Int) ≠ 0:=by
  intro z
  have:c=0:=by omega
  rw [this] at hB
  simp at hB
 unfold ZrZ
 rw [Int.natCast_mul,Int.mul_ediv_cancel_left _ (by omega),Rat.divInt_mul_right hc]
 exact Va q
def Zos{a b c:Int}(h:c ≠ 0):Rat.divInt a c + Rat.divInt b c=Rat.divInt (a + b) c:=by
 rw [Rat.divInt_add_divInt _ _ h h,<- Int.add_mul,Rat.divInt_mul_right h]
def ZiT{B:Nat}(hB:0 < B)(hd:∀ (j:Nat) q,qs[j]?=some q->q.den ∣ B):∀ i,i<=qs.length->Zkt qs i=Rat.divInt (((qs.take i).map (ZrZ B)).sum) (B:Int)
 | 0,_=>by
  show (0:Rat)=Rat.divInt 0 (B:Int)
  rw [Rat.zero_divInt]
 | i + 1,h=>by
  have hq:=Yc (show i < qs.length from h)
  rw [Zhk hq,ZiT hB hd i (Yt h),YL,hq,YQ,List.sum_append]
  conv=>lhs; rw [<- Zqf hB (hd i _ hq)]
  rw [Zos (by omega)]
  simp
def Zmn:Sp:=λvs H Q _=>∃ a b:Nat,vs=[.int a,.int b]/\0 < a/\0 < b/\a<=2 ^ 4000/\b<=2 ^ 4000/\Q (.int (ZjV a b:Nat)) H
def Zha(K:PySem.W.Frag):Sp:=λvs H Q _=>∃ (a:Addr) (xs:List V) (qs:List Rat),vs=[.ref a]/\JY K H a xs/\ZeO H xs qs/\Zs4 qs/\Q (.int (ZiL qs qs.length:Nat)) H
def ZmC:Sp:=λvs H Q _=>∃ (x:V) (q:Rat) (B:Nat),vs=[x,.int B]/\Jn H x q/\JN 4000 q/\B<=2 ^ 4000/\Q (.int (ZrZ B q)) H
def Zgw(K:PySem.W.Frag):Sp:=λvs H Q _=>∃ (a:Addr) (xs:List V) (qs:List Rat),vs=[.ref a]/\JY K H a xs/\ZeO H xs qs/\Zs4 qs/\qs.length<=1000/\∀ r H',Zn H H'->Jn H' r (Zkt qs qs.length)->Q r H'
def Zg9{a n:Nat}(h:a<=2 ^ n):((a:Nat):Int).natAbs < 2 ^ (n + 1):=by
 rw [Int.natAbs_natCast,Nat.pow_succ]
 have:=Nat.two_pow_pos n
 omega
def ZsV(F:Fun K "least_multiple" "least_multiple" Zax f fd)(Zad:Fn P w K mg base Zx 1 "greatest_divisor" ["one","other"] Zc5):FnOk P w K mg base Zx 2 f fd ["one","other"] Zmn:=by
 refine JP F ZdL λcdv A outer s H vs Q E hr h=>?_
 obtain⟨a,b,rfl,ha,hb,za,zb,q⟩:=h
 refine⟨_,(Zk (Zu (ZbW (Zdk (Zf 0) (JB Zad hr (Zl (Zf 0) (Zl (Zf 1) Zb)))) (Zf 1)))),?_⟩
 rw [show Zv ["one","other"] [.int a,.int b]=[some (.int a),some (.int b)] from rfl]
 walk_at "rd"
 simp only [Zc5]
 walk_at "rd"
 have eg:Int.gcd (a:Int) (b:Int)=Nat.gcd a b:=rfl
 have hg:0 < Nat.gcd a b:=Nat.gcd_pos_of_pos_left _ ha
 have hga:Nat.gcd a b<=a:=Nat.le_of_dvd ha (VV a b)
 have ef:(a:Int).fdiv (Int.gcd (a:Int) (b:Int):Int)=((a / Nat.gcd a b:Nat):Int):=by
  rw [eg,VY _ (by omega)]
  rfl
 refine⟨by rw [eg]; omega,?_,?_,?_⟩
 ·rw [eg]
  exact ZbC (Zbc (Zg9 (Yj hga za)) (by decide)) (by decide)
 ·rw [ef]
  exact ZdT (Zg9 (Yj (Nat.div_le_self _ _) za)) (Zg9 zb) (by decide)
 ·rw [ef,<- Int.natCast_mul]
  exact q
def ZuK{a:Addr}{g:TG}{tb:TS}{D:Ends}{Z:St}{te:TE}(hv:∀ R:V->Hp->Prop,R (.ref a) H->te Z H R)(hS:JY K H a xs)(Pv:Nat->St->Hp->Prop)(h0:Pv 0 Z H)(hl:∀ i Z H,i<=xs.length->Pv i Z H->JY K H a xs)
  (hs:∀ i x Z H,xs[i]?=some x->Pv i Z H->g x Z H λZ2 H2=>tb { D with nx:=Pv (i + 1),ct:=Pv (i + 1),bk:=D.nx } Z2 H2) (hd:∀ Z H,Pv xs.length Z H->D.nx Z H):Zqy (ZjS K te) g tb D Z H :=
 hv _ ⟨a,rfl,⟨xs,hS⟩,Zi0 Pv h0 hl hs hd⟩
def Pcb(a:Addr)(qs:List Rat)(H0:Hp)(i:Nat)(Z:St)(H:Hp):Prop:=H=H0/\∃ o,Z=[some (.ref a),some (.int (ZiL qs i:Nat)),o]
def Zmm(F:Fun K "common_bottom" "common_bottom" ZaH f fd)(Zbu:Fn P w K mg base Zx 2 "least_multiple" ["one","other"] Zmn):FnOk P w K mg base Zx 3 f fd ["some"] (Zha K):=by
 refine JP F Za8 λcdv A outer s H vs Q E hr h=>?_
 obtain⟨a,xs,qs,rfl,hS,hR,hz,q⟩:=h
 refine⟨_,(Zd (Zw 1 Za8.nd Zc)
   (Zd (ZdW YD (Zdu (Zf 0)) (Jq 2 Za8.nd) (Zk (Zw 1 Za8.nd (JB Zbu hr (Zl (Zf 1) (Zl (Zr (Zf 2) Zc) Zb))))))
   (Zk (Zu (Zf 1))))),?_⟩
 rw [show Zv ["some","bottom","one"] [.ref a]=[some (.ref a),none,none] from rfl]
 walk_at "rd"
 refine ZuK (xs:=xs) (λR h=>by first | exact⟨_,rfl,h⟩ | (walk_at "rd"; exact h)) hS (Pcb a qs H) ⟨rfl,_,rfl⟩ (λi Z H' _ h=>by rw [h.1]; exact hS) (λi x Z H' hx h=>?_) (λZ H' h=>?_)
 ·obtain⟨rfl,o,rfl⟩:=h
  have hi:i < qs.length:=by rw [<- hR.1]; exact (Yf.mp hx).1
  have hq:=Yc hi
  obtain⟨p,rfl,hp⟩:=hR.2 _ _ _ hx hq
  obtain⟨h1,_,_⟩:=Zgf hz.1 i (Yt hi)
  have h2:=hz.2 i (Yt hi)
  walk_at "rd"
  simp only [Zmn]
  walk_at "rd"
  refine⟨_,hp,_,rfl,ZiL qs i,rfl,qs[i].den,rfl,h1,qs[i].den_pos,h2,Yt (hz.1 i _ hq).2,rfl,some (.ref p),by rw [Zev hq]⟩
 ·obtain⟨rfl,o,rfl⟩:=h
  rw [hR.1]
  walk_at "rd"
  exact q
def Zr6(F:Fun K "top_over" "top_over" ZbG f fd):FnOk P w K mg base Zx 1 f fd ["one","bottom"] ZmC:=by
 refine JP F ZhH λcdv A outer s H vs Q E hr h=>?_
 obtain⟨x,t,B,rfl,⟨p,rfl,hp⟩,z,zB,q⟩:=h
 refine⟨_,(Zk (Zu (ZbW (Zr (Zf 0) Zc) (Zdk (Zf 1) (Zr (Zf 0) Zc))))),?_⟩
 rw [show Zv ["one","bottom"] [.ref p,.int B]=[some (.ref p),some (.int B)] from rfl]
 walk_at "rd"
 simp only [hp]
 walk_at "rd"
 have hd:=t.den_pos
 have ef:(B:Int).fdiv (t.den:Int)=(B:Int) / (t.den:Int):=VY _ (by omega)
 have en:(B:Int) / (t.den:Int)=((B / t.den:Nat):Int):=rfl
 refine⟨by omega,ZbC (Zbc (Jf z) (by decide)) (by decide),?_,?_⟩
 ·rw [ef,en]
  exact ZdT z.1 (Zg9 (Yj (Nat.div_le_self _ _) zB)) (by decide)
 ·rw [ef]
  exact q
def Zna(F:Fun K "total_of" "total_of" ZbF f fd)(Zqo:mg "sum"=none)(ZbV:Fn P w K mg base Zx 3 "common_bottom" ["some"] (Zha K))(ZdV:Fn P w K mg base Zx 1 "top_over" ["one","bottom"] ZmC)
  (ZdZ:Fn P w K mg base Zx 2 "ratio" ["top","bottom"] Zcy):FnOk P w K mg base Zx 4 f fd ["some"] (Zgw K):=by
 refine JP F ZeB λcdv A outer s H vs Q E hr h=>?_
 obtain⟨a,xs,qs,rfl,hS,hR,hz,hlen,q⟩:=h
 refine⟨_,(Zd (Zw 1 ZeB.nd (JB ZbV hr (Zl (Zf 0) Zb)))
   (Zk (Zu (JB ZdZ hr (Zl (Zs1 rfl Zqo (Zl (ZiU (Ztt ["one"] [1] ["bottom"]) (Zdu (Zf 0)) (by exact λs H fp=>(Jq 0 (show List.Nodup (["one","bottom"]:List Str) from by decide +kernel))) (by exact λs H fp=>(JB ZdV hr (Zl (Zf 0) (Zl (Zf 1) Zb))))) Zb)) (Zl (Zf 1) Zb)))))),?_⟩
 rw [show Zv ["some","bottom"] [.ref a]=[some (.ref a),none] from rfl]
 refine Zq λR0 hR0=>?_
 walk_at "rd"
 refine⟨a,xs,qs,rfl,hS,hR,hz,?_⟩
 obtain⟨b1,b2,b3⟩:=Zgf hz.1 qs.length (Yd _)
 have b4:=hz.2 _ (Yd _)
 have b5:∀ (j:Nat) t,qs[j]?=some t->t.den ∣ ZiL qs qs.length:=λj t h=>b3 j t (Yf.mp h).1 h
 generalize ZiL qs qs.length=B at b1 b2 b3 b4 b5
 subst hR0
 try dsimp only
 walk_at "rd"
 simp only [ZgA,ZjS]
 walk_at "rd"
 refine⟨⟨_,hS⟩,?_⟩
 try rw [show JU [some (V.ref a),some (V.int (B:Int))] [1]=[some (V.int (B:Int))] from rfl]
 unfold Zrj
 refine ZiW (xs:=xs) (λacc i ys H'=>Zn H H'/\H' acc=some (.lst ys)/\ys=((qs.take i).map (ZrZ B)).map V.int/\i<=qs.length)
  (λacc H2 hn sm e=>⟨sm,e,rfl,YA _⟩) (λacc i ys H2 hn2 ⟨sm,e,ey,hi⟩=>⟨e,?_,sm.seq hS⟩) (λacc i y ys H2 os hn2 hi hP ol=>?_) (λacc ys H2 hn2 hP=>?_)
 ·rw [ey,Yi,Yi,Y6]
  omega
 ·obtain⟨sm,e,ey,_⟩:=hP
  obtain⟨o,rfl⟩:∃ o,os=[o]:=by match os,ol with | [o],_=>exact⟨o,rfl⟩
  have hil:i < qs.length:=by rw [<- hR.1]; exact (Yf.mp hi).1
  have hq:=Yc hil
  walk_at "rd"
  refine⟨[some y],rfl,rfl,?_⟩
  simp only [ZpS]
  walk_at "rd"
  simp only [ZmC]
  walk_at "rd"
  refine⟨qs[i],B,rfl,(hR.2 _ _ _ hi hq).same sm,hz.1 i _ hq,b4,e,ZE hn2 sm,Zi,?_,hil⟩
  rw [ey,YL,hq,YQ,YQ]
  rfl
 ·obtain⟨sm,e,ey,_⟩:=hP
  rw [hR.1,YO] at ey
  rw [ey] at e
  walk_at "rd"
  refine⟨_,e,?_⟩
  simp only [Zcy]
  walk_at "rd"
  refine⟨Big.of (Zg9 b4) (by decide),by omega,λr H' hs v=>q r H' (sm.trans hs) ?_⟩
  rw [ZiT b1 b5 _ (Yd _),YO]
  exact v
def Zpm:Sp:=λvs H Q _=>∃ (a:Addr) (xs:List V) (rs:List (Nat × Rat)) (k:Nat) (w:List Nat),vs=[.ref a,.int k]/\H a=some (.lst xs)/\ZS H xs rs/\WayR rs k w/\w.length<=1000/\∀ p H',H p=none->Zn H H'->H' p=some (.lst (JG w))->Q (.ref p) H'
def Pw(H0:Hp)(a p:Addr)(rs:List (Nat × Rat))(w0:List Nat)(Z:St)(H:Hp):Prop:=∃ (k:Nat) (pre w:List Nat),Z=[some (.ref a),some (.int k),some (.ref p)]/\Zn H0 H/\H p=some (.lst (JG pre))/\WayR rs k w/\w0=pre ++ w
def ZsI(F:Fun K "_law_way" "_law_way" Zcc f fd):FnOk P w K mg base Zx 1 f fd ["_law_roads","_law_k"] Zpm:=by
 refine JP F ZdK λcdv A outer s H vs Q E hr h=>?_
 obtain⟨a,xs,rs,k,w0,rfl,ha,hR,hw0,hwl,q⟩:=h
 refine⟨_,(Zd (Zw 2 ZdK.nd (Jz Zb))
   (Zd (Zgj YD (Zjm (Zf 1) Zc) (Zd (ZR (Zim (Zf 2) (Zl (Zf 1) Zb)))
   (Zk (Zw 1 ZdK.nd (Zr (ZT (Zf 0) (JS (Zf 1) Zc)) Zc)))))
   (Zk (Zu (Zf 2))))),?_⟩
 rw [show Zv ["_law_roads","_law_k","_law_way_here"] [.ref a,.int k]=[some (.ref a),some (.int k),none] from rfl]
 walk_at "rd"
 intro p H1 hp s1 e1
 refine ZfP (Pw H a p rs w0) (λZ _=>wayM rs (Zn9 Z 1).toNat) ⟨k,[],w0,rfl,s1,e1,hw0,rfl⟩ ?_
 rintro Z H2 ⟨k,pre,w,rfl,s2,e2,hw,hw1⟩
 walk_at "rd"
 have hap:a ≠ p:=λz=>by rw [z,hp] at ha; cases ha
 refine JA (λhc=>?_) (λhc=>?_)
 ·cases hw with
  | nil=>exact absurd rfl hc
  | @cons k r w h hw' =>
   have hkl:k < rs.length:=(Yf.mp h).1
   have hkx:k < xs.length:=by rw [hR.1]; exact hkl
   obtain⟨pr,y,ex,hpr,hy⟩:=hR.2 k _ r (Yc hkx) h
   have hrp:pr ≠ p:=λz=>by rw [z,hp] at hpr; cases hpr
   have hlen:(JG pre).length < 1000000:=by
    have:=congrArg List.length hw1
    simp [JG] at this ⊢
    omega
   refine⟨λZ' H'=>Z'=[some (.ref a),some (.int r.1),some (.ref p)]/\Pw H a p rs w0 Z' H',λZ' H' ⟨e,hP⟩=>⟨_,?_,rfl,hP⟩,⟨_,e2⟩,_,e2,hlen,xs,by rw [Zj hap]; exact s2 _ _ ha,xs[k],?_,pr,ex,_,by rw [Zj hrp]; exact s2 _ _ hpr,_,rfl,rfl,?_⟩
   ·subst e
    show wayM rs ((r.1:Nat):Int).toNat < wayM rs (((k + 1:Nat)):Int).toNat
    rw [Vb,Vb,ZfU hw',ZfU (.cons h hw')]
    simp
   ·rw [show (((k + 1:Nat)):Int) - 1=(k:Int) by omega]
    exact ZY (Yc hkx)
   ·exact⟨r.1,pre ++ [k + 1],w,rfl,ZE hp s2,by rw [Zi]; simp [JG],hw',by simp [hw1]⟩
 ·have hk0:k=0:=by omega
  subst hk0
  have e:=hw.zero
  subst e
  rw [Vk] at hw1
  subst hw1
  exact q p H2 hp s2 e2
def Zmj(kvs:List (Je × V))(n:Nat):Prop:=∀ kv∈kvs,∃ (z:Str) (h:Nat),kv=(Sum.inr z,.int (h:Int))/\h<=n
def Zmj.put{kvs:List (Je × V)}(h:Zmj kvs n){z:Str}{k:Nat}(hk:k<=n):Zmj (Jt kvs (Sum.inr z) (.int (k:Int))) n:=by
 unfold Jt
 split
 ·intro kv hkv
  obtain⟨kv',h1,rfl⟩:=Yk.mp hkv
  split
  ·rename_i e
   exact⟨z,k,by rw [e],hk⟩
  ·exact h _ h1
 ·intro kv hkv
  rcases Yp.mp hkv with h1 | h1
  ·exact h _ h1
  ·rw [Yu.mp h1]
   exact⟨z,k,rfl,hk⟩
def Ze3(kvs:List (Je × V))(ss:List Str)(hs:List Nat)(n:Nat):Prop:=ss.length=hs.length/\∀ (i:Nat) z h,ss[i]?=some z->hs[i]?=some h->Jm kvs (Sum.inr z)=some (.int (h:Int))/\h<=n
def J1(rs:List (Nat × Rat))(hs:List Nat)(k:Nat):Prop:=∃ h∈hs,∃ w,WayR rs h w/\k∈w
def Zgl{H H':Hp}{a:Addr}{u:HO}(h:Rd H a u)(s:Zn H H'):Rd H' a u:=h.elim (λe=>.inl (s _ _ e)) λ⟨o,e⟩=>.inr ⟨o,s _ _ e⟩
theorem Zg3{hs:List Nat}{i h:Nat}{w:List Nat}(hh:hs[i]?=some h)(hw:WayR rs h w)(k:Nat):J1 rs (hs.take (i + 1)) k ↔ J1 rs (hs.take i) k\/k∈w:=by
 unfold J1
 rw [YL,hh]
 constructor
 ·rintro⟨h',hm,w',hw',hk⟩
  rcases Yp.mp hm with hm | hm
  ·exact .inl ⟨h',hm,w',hw',hk⟩
  ·have e:h'=h:=by simpa using hm
   subst e
   rw [hw.uniq hw'] at hk
   exact .inr hk
 ·rintro (⟨h',hm,w',hw',hk⟩ | hk)
  ·exact⟨h',VD _ hm,w',hw',hk⟩
  ·exact⟨h,List.mem_append_right _ (by simp),w,hw,hk⟩
def Zg6(C:Addr):Sp:=λvs H Q _=>∃ (x:V) (rs:List (Nat × Rat)) (d g:Addr) (kvs:List (Je × V)) (ss:List Str) (hs:List Nat),vs=[x,.ref d,.ref g]/\ZO C H x rs/\Rd H d (.dK kvs)/\H g=some (.lst (ss.map V.str))/\Ze3 kvs ss hs rs.length/\rs.length<=40/\ss.length < 50/\Jj rs /\
 ∀ p H' (ks:List Nat),H p=none->Zn H H'->H' p=some (.lst (JG ks))->ks.Pairwise (· < ·)->(∀ k,k∈ks ↔ J1 rs hs k)->Q (.ref p) H'
def Pnd(H0:Hp)(x:V)(d g l:Addr)(rs:List (Nat × Rat))(hs:List Nat)(i:Nat)(Z:St)(H:Hp):Prop:=∃ (o:Option V) (acc:List Nat),Z=[some x,some (.ref d),some (.ref g),some (.ref l),o]/\Zn H0 H/\H l=some (.lst (JG acc))/\acc.length<=40 * i/\∀ k,k∈acc ↔ J1 rs (hs.take i) k
def ZlS(F:Fun K "needed" "needed" ZcU f fd)(Zbv:mg "sorted"=none)(Zgg:mg "set"=none)(Zq1:Mth P w K mg base Zx 3 CT "way" ["self","k"] (λvs H Q _=>ZkS CT CNP vs H Q E0)):FnOk P w K mg base Zx 4 f fd ["tree","homes","group"] (Zg6 CT):=by
 refine JP F ZeC λcdv A outer s H vs Q E hr h=>?_
 obtain⟨x,rs,d,g,kvs,ss,hs,rfl,hT,hd,hg,hH,hrl,hsl,hO,q⟩:=h
 refine⟨_,(Zd (Zw 3 ZeC.nd (Jz Zb))
   (Zd (ZdW YD (Zdu (Zf 2)) (Jq 4 ZeC.nd) (Zk (ZR (ZtG (Zf 3) (Zl (Jc Zq1 hr (by decide) (Zf 0) (Zl (Zlz (ZdE hr) (Zf 1) (Zf 4)) Zb)) Zb)))))
   (Zk (Zu (Zmt rfl Zbv rfl Zgg (Zl (Zf 3) Zb)))))),?_⟩
 rw [show Zv ["tree","homes","group","roads","name"] [x,.ref d,.ref g]=[some (x),some (.ref d),some (.ref g),none,none] from rfl]
 walk_at "rd"
 simp only [Zb7]
 walk_at "rd"
 intro l H1 hl s1 e1
 refine ZcV (Pnd H x d g l rs hs) ⟨_,[],rfl,s1,e1,Nat.zero_le _,λk=>⟨(λz=>by cases z),(λ⟨h,hm,_⟩=>by simp at hm)⟩⟩ (λi Z H' _ ⟨_,_,_,sm,_⟩=>.of (sm _ _ hg)) (λi y Z H' hi hP=>?_) (λZ H' hP=>?_)
 ·obtain⟨o,acc,rfl,sm,e2,hal,hm⟩:=hP
  rw [Yh] at hi
  obtain⟨z,hz,rfl⟩:∃ z,ss[i]?=some z/\y=V.str z:=by cases h:ss[i]? with | none=>rw [h] at hi; cases hi | some z=>rw [h] at hi; cases hi; exact⟨z,rfl,rfl⟩
  have hi':i < ss.length:=(Yf.mp hz).1
  have hih:i < hs.length:=by rw [<- hH.1]; exact hi'
  have hh:=Yc hih
  obtain⟨hv,hle⟩:=hH.2 i z _ hz hh
  obtain⟨w0,hw0,hwl0⟩:=ZfO hO hle
  walk_at "rd"
  obtain⟨xa,dx,la,wa,ls,ws,rfl,h1,_⟩:=id (hT.same sm)
  refine⟨⟨_,e2⟩,xa,rfl,dx,_,h1,rfl,kvs,Zgl hd sm,.inr z,rfl,_,hv,.ref xa,rs,_,rfl,hT.same sm,λp H2 k' w1 ek hp s2 e3 hw1 hwl1=>?_,λzz=>absurd ⟨by omega,by omega⟩ zz⟩
  have ek':hs[i]=k':=by omega
  subst ek'
  have ew:=hw0.uniq hw1
  subst ew
  refine⟨p,rfl,_,s2 _ _ e2,_,e3,?_,_,acc ++ w1,rfl,ZE hl (sm.trans s2),by rw [Zi]; simp [JG],by simp; omega,λk=>?_⟩
  ·exact Nat.le_trans (show _<=10000 by simp [JG]; omega) (by decide)
  ·rw [Zg3 hh hw0 k,Yp,hm k]
 ·obtain⟨o,acc,rfl,sm,e2,hal,hm⟩:=hP
  walk_at "rd"
  have hss:ss.length=hs.length:=hH.1
  rw [Yi,hss,YO] at hm
  have hbd:∀ k∈acc,1<=k/\k<=rs.length:=λk hk=>by
   obtain⟨h,_,w0,hw,hk2⟩:=(hm k).mp hk
   exact hw.mem k hk2
  refine⟨acc.map Int.ofNat,by rw [e2]; simp [JG],by simp at hal ⊢; omega,λk hk=>?_,λp H2 ks hp s2 e3 hpw hmem=>?_⟩
  ·obtain⟨k',hk',rfl⟩:=Yk.mp hk
   have:=hbd k' hk'
   show 0<=(k':Int)/\(k':Int) < 60
   omega
  ·have hnat:∀ k∈ks,0<=k:=λk hk=>by
    obtain⟨k',_,rfl⟩:=Yk.mp ((hmem k).mp hk)
    exact Int.natCast_nonneg k'
   have eks:(ks.map Int.toNat).map Int.ofNat=ks:=by
    rw [Y7]
    conv=>rhs; rw [<- List.map_id ks]
    exact VE λk hk=>Int.toNat_of_nonneg (hnat k hk)
   refine q p H2 (ks.map Int.toNat) (sm.free hp) (sm.trans s2) ?_ ?_ λk=>?_
   ·rw [e3]
    conv=>lhs; rw [<- eks]
    simp [JG]
   ·rw [VG]
    exact hpw.imp_of_mem λha hb h=>by have:=hnat _ ha; have:=hnat _ hb; omega
   ·rw [<- hm k]
    constructor
    ·intro h
     obtain⟨k',hk',rfl⟩:=Yk.mp h
     obtain⟨k2,hk2,e⟩:=Yk.mp ((hmem k').mp hk')
     have:k'.toNat=k2:=by rw [<- e]; rfl
     rw [this]
     exact hk2
    ·intro h
     exact Yk.mpr ⟨(k:Int),(hmem _).mpr (Yk.mpr ⟨k,h,rfl⟩),rfl⟩
def ZQ(rs:List (Nat × Rat))(k:Nat):Rat:=((rs[k - 1]?).map (·.2)).getD 0
def Zob(rs:List (Nat × Rat))(ks:List Nat):Rat:=Zkt (ks.map (ZQ rs)) ks.length
theorem ZeO.keep{H H':Hp}(h:ZeO H xs qs)(s:∀ b ys,H b=some (.tup ys)->H' b=some (.tup ys)):ZeO H' xs qs:=⟨h.1,λi x q h1 h2=>(h.2 i x q h1 h2).keep s⟩
theorem ZeO.snoc(h:ZeO H xs qs)(hx:Jn H x q):ZeO H (xs ++ [x]) (qs ++ [q]):=⟨by simp [h.1],λi y r h1 h2=>by
 by_cases c:i < xs.length
 ·rw [YK c] at h1
  rw [YK (by rw [<- h.1]; exact c)] at h2
  exact h.2 i y r h1 h2
 ·have hi:i=xs.length:=by have:=(List.getElem?_eq_some_iff.mp h1).1; simp at this; omega
  subst hi
  rw [YI (Yd _)] at h1
  rw [h.1,YI (Yd _)] at h2
  simp at h1 h2
  subst h1
  subst h2
  exact hx⟩
theorem ZmK(hn:qs.length=n)(h:∀ (i:Nat) q,qs[i]?=some q->JN 110 q):∀ i,i<=n->JN (111 * i + 1) (Zkt qs i):=by
 intro i
 induction i with
 | zero=>intro _; exact ZfQ (by decide)
 | succ i ih =>
  intro hi
  have e:=Yc (show i < qs.length by omega)
  rw [Zhk e]
  exact (ih (by omega)).add (h i _ e) (by omega)
def ZrE{ks:List Nat}(h:ks.Pairwise (· < ·))(hb:∀ k∈ks,1<=k/\k<=n):ks.length<=n:=by
 have hs:ks ⊆ List.range' 1 n:=λk hk=>by
  obtain⟨h1,h2⟩:=hb k hk
  exact List.mem_range'_1.mpr ⟨h1,by omega⟩
 have hn:ks.Nodup:=h.imp λh e=>by rw [e] at h; exact YR _ h
 have:=Vq hn hs
 simpa using this
def ZdP(C:Addr):Sp:=λvs H Q _=>∃ (x:V) (rs:List (Nat × Rat)) (d g:Addr) (kvs:List (Je × V)) (ss:List Str) (hs:List Nat),vs=[x,.ref d,.ref g]/\ZO C H x rs/\Rd H d (.dK kvs)/\H g=some (.lst (ss.map V.str))/\Ze3 kvs ss hs rs.length/\rs.length<=36/\ss.length < 50/\Jj rs/\(∀ r∈rs,JN 110 r.2) /\
 ∀ r H' (ks:List Nat),Zn H H'->ks.Pairwise (· < ·)->(∀ k,k∈ks ↔ J1 rs hs k)->Jn H' r (Zob rs ks)->JN 4000 (Zob rs ks)->Q r H'
def Zp7(F:Fun K "cost" "cost" Zfz f fd)(ZbE:Fn P w K mg base Zx 4 "total_of" ["some"] (Zgw K))(Zgd:Fn P w K mg base Zx 4 "needed" ["tree","homes","group"] (Zg6 CT))
  (ZdI:Mth P w K mg base Zx 4 CT "price" ["self","k"] (λvs H Q _=>Zfd CT CNP vs H Q E0)):FnOk P w K mg base Zx 5 f fd ["tree","homes","group"] (ZdP CT):=by
 refine JP F ZpK λcdv A outer s H vs Q E hr h=>?_
 obtain⟨x,rs,d,g,kvs,ss,hs,rfl,hT,hd,hg,hH,hrl,hsl,hO,hz,q⟩:=h
 refine⟨_,(Zk (Zu (JB ZbE hr (Zl (ZiU (Ztt ["k"] [0] ["tree"]) (Zdu (JB Zgd hr (Zl (Zf 0) (Zl (Zf 1) (Zl (Zf 2) Zb))))) (by exact λs H fp=>(Jq 0 (show List.Nodup (["k","tree"]:List Str) from by decide +kernel))) (by exact λs H fp=>(Jc ZdI hr (by decide) (Zf 1) (Zl (Zf 0) Zb)))) Zb)))),?_⟩
 rw [show Zv ["tree","homes","group"] [x,.ref d,.ref g]=[some (x),some (.ref d),some (.ref g)] from rfl]
 walk_at "rd"
 simp only [ZgA,ZjS,cxK]
 walk_at "rd"
 refine⟨x,rs,d,g,kvs,ss,hs,rfl,hT,hd,hg,hH,by omega,hsl,hO,λp H1 ks hp s1 e1 hpw hmem=>⟨p,rfl,⟨_,.of e1⟩,?_⟩⟩
 try rw [show JU [some x,some (V.ref d),some (V.ref g)] [0]=[some x] from rfl]
 have hbd:∀ k∈ks,1<=k/\k<=rs.length:=λk hk=>by
  obtain⟨h,_,w0,hw,hk2⟩:=(hmem k).mp hk
  exact hw.mem k hk2
 have hkl:=ZrE hpw hbd
 unfold Zrj
 refine ZiW (xs:=JG ks) (λacc i ys H'=>Zn H1 H'/\H' acc=some (.lst ys)/\ZeO H' ys ((ks.take i).map (ZQ rs))/\i<=ks.length)
  (λacc H2 hn sm e=>⟨sm,e,by simpa using Zpb,Nat.zero_le _⟩) (λacc i ys H2 hn ⟨sm,e,hR,hi⟩=>⟨e,by rw [hR.1]; simp; omega,.of (sm _ _ e1)⟩) (λacc i y ys H2 os hn hi hP ol=>?_) (λacc ys H2 hn hP=>?_)
 ·obtain⟨sm,e,hR,_⟩:=hP
  obtain⟨o,rfl⟩:∃ o,os=[o]:=by match os,ol with | [o],_=>exact⟨o,rfl⟩
  have hil:i < ks.length:=by have:=(List.getElem?_eq_some_iff.mp hi).1; simpa [JG] using this
  have hk:=Yc hil
  have hy:y=V.int (ks[i]:Int):=by
   unfold JG at hi
   rw [Yh,hk] at hi
   cases hi
   rfl
  subst hy
  obtain⟨k1,k2⟩:=hbd _ (Yx hil)
  have hT2:=hT.same (s1.trans sm)
  obtain⟨xa,dx,la,wa,ls,ws,rfl,h1,_⟩:=id hT2
  walk_at "rd"
  refine⟨[some (.int (ks[i]:Int))],rfl,rfl,?_⟩
  simp only [ZpS]
  walk_at "rd"
  refine⟨dx,_,h1,rfl,.ref xa,rs,_,rfl,hT2,λk' r y ek hr2 hy=>⟨e,ZE hn sm,Zi,?_,hil⟩,λzz=>absurd ⟨by omega,by omega⟩ zz⟩
  have ek':ks[i] - 1=k':=by omega
  have kp:∀ b zs,H2 b=some (.tup zs)->upd H2 acc (.lst (ys ++ [y])) b=some (.tup zs):=λb zs e'=>by rw [Zj (JJ e' e (by intro z; cases z))]; exact e'
  have hpr:ZQ rs ks[i]=r.2:=by unfold ZQ; rw [ek',hr2]; rfl
  rw [YL,hk,YQ]
  refine (hR.keep kp).snoc ?_
  show Jn _ y (ZQ rs ks[i])
  rw [hpr]
  exact hy.keep kp
 ·obtain⟨sm,e,hR,_⟩:=hP
  have hnl:(JG ks).length=ks.length:=by simp [JG]
  rw [hnl,YO] at hR
  have hq:∀ (i:Nat) q,(ks.map (ZQ rs))[i]?=some q->JN 110 q:=λi q hq=>by
   rw [Yh] at hq
   cases hk:ks[i]? with
   | none=>rw [hk] at hq; cases hq
   | some k =>
    rw [hk] at hq
    cases hq
    obtain⟨k1,k2⟩:=hbd k (Yz hk)
    have hlt:k - 1 < rs.length:=by omega
    show JN 110 (ZQ rs k)
    unfold ZQ
    rw [Yc hlt]
    exact hz _ (Yx hlt)
  have hps:∀ i,i<=ks.length->JN (111 * i + 1) (Zkt (ks.map (ZQ rs)) i):=ZmK (by simp) hq
  refine⟨acc,ys,ks.map (ZQ rs),rfl,.of e,hR,ZqO hq (by rw [Yi]; omega),by rw [Yi]; omega,λr H' s3 v=>?_⟩
  rw [Yi] at v
  exact q r H' ks (s1.trans (sm.trans s3)) hpw hmem v ((hps _ (Yd _)).mono (by omega))
def Zh7{hs:List Nat}(h:J1 rs hs k):1<=k/\k<=rs.length:=by
 obtain⟨_,_,_,hw,hk⟩:=h
 exact hw.mem k hk
def Jp(qs:List Rat):Rat:=qs.foldl (· + ·) 0
def ZgP(qs:List Rat):∀ a:Rat,qs.foldl (· + ·) a=a + qs.foldl (· + ·) 0:=by
 induction qs with
 | nil=>intro a; exact (Rat.add_zero a).symm
 | cons q qs ih =>
  intro a
  show qs.foldl (· + ·) (a + q)=a + qs.foldl (· + ·) (0 + q)
  rw [ih (a + q),ih (0 + q),Rat.zero_add,Rat.add_assoc]
def ZaM(q:Rat)(qs:List Rat):Jp (q :: qs)=q + Jp qs:=by
 show qs.foldl (· + ·) (0 + q)=_
 rw [Rat.zero_add,ZgP]
 rfl
section
variable {P:Program}{w:World}{K:PySem.W.Frag}{mg:Str->Option Value}{base:Heap}{f:Addr}{fd:FuncData}{CT CS CNN:Addr}
def ZuQ(kvs:Kvs)(zs:List Str)(H:Hp)(a g:Addr):Nat->L2.St->Hp->Prop:=λi Z H'=>(∃ o,Z=[some (V.ref a),some (V.ref g),o])/\Zn H H'/\∀ j z,j < i->zs[j]?=some z->Jw z/\(Jm kvs (Sum.inr z)).isSome=true
def Zb5(CS CT CNN:Addr):Sp:=λvs H Q E=>∃ ex a ps rs kvs past g,∃ zs:List Str,vs=[.ref a,.ref g]/\ZM ex CS CT H a ps rs kvs past/\H g=some (.lst (zs.map V.str))/\zs.length < 50/\(∀ z∈zs,Ziu z) /\
 (¬ (zs.Nodup/\∀ z∈zs,Jw z/\(Jm kvs (Sum.inr z)).isSome=true)->∀ H',Zn H H'->E (.ref CNN) none H') /\
 (zs.Nodup->(∀ z∈zs,Jw z/\(Jm kvs (Sum.inr z)).isSome=true)->∀ H' x d,Zn H H'->ZO CT H' x rs->Rd H' d (.dK kvs)->ZdP CT [x,.ref d,.ref g] H' Q E0)
def Zl7(F:FunD K "cost_of" "Shire.cost_of" Zal .none f fd)(ZB:mg "len"=none)(Zgg:mg "set"=none)(ZbA:mg "NoName"=some (.ref CNN))(ec_NoName:ZkV K CNN)(Ze:Cls K CS)(Zs:ZJ K CS "land")(Zp:ZJ K CS "places")(Zfy:Fn P w K mg base Zx 5 "cost" ["tree","homes","group"] (ZdP CT))(ZaE:Mth P w K mg base (CX1 P w) 2 CS "look_village" ["self","name"] (Zeu CS CT CNN)):FnOk P w K mg base (CX1 P w) 6 f fd ["self","names"] (Zb5 CS CT CNN):=by
 refine okX F Zcv (λvs H Q E h=>?_) (λcdv A outer s H vs Q E hr h=>?_)
 ·obtain⟨ex,a,ps,rs,kvs,past,g,zs,rfl,_⟩:=h; rfl
 obtain⟨ex,a,ps,rs,kvs,past,g,zs,rfl,hS,hg,hl,hz,q1,q2⟩:=h
 refine⟨_,(Zd (ZdW PassesOwn.leaving (Zdu (Zf 1)) (Jq 2 Zcv.nd) (Zk (ZR (Zp8 Zb1 ZaE hr (by decide) (Zf 0) (Zl (Zf 2) Zb)))))
   (Zd (Ja (Zjm (Zo0 rfl ZB rfl Zgg (Zl (Zf 1) Zb)) (JE rfl ZB (Zl (Zf 1) Zb))) (Zk (Zem Zb1 ZbA ec_NoName rfl (Zl ZN Zb))) ZG)
   (Zk (Zu (JB Zfy hr (Zl (ZV (Zf 0)) (Zl (ZV (Zf 0)) (Zl (Zf 1) Zb)))))))),?_⟩
 rw [show Zv ["self","names","name"] [.ref a,.ref g]=[some (.ref a),some (.ref g),none] from rfl]
 walk_at "rd"
 simp only [Zb7]
 walk_at "rd"
 refine ZcV (ZuQ kvs zs H a g) ⟨⟨_,rfl⟩,λ_ _ e=>e,λj y hj=>absurd hj (VJ _)⟩ (λi Z H' _ hP=>.of (hP.2.1 _ _ hg)) (λi y Z H' hi hP=>?_) (λZ H' hP=>?_)
 ·obtain⟨⟨o,rfl⟩,s1,hj⟩:=hP
  walk_at "rd"
  rw [Yh] at hi
  obtain⟨z,hi2,rfl⟩:=Y9.mp hi
  have hm:=Yz hi2
  obtain⟨dx,tr,ds,pv,h1,h2,h3,h4,h5,hx,hpx⟩:=id (hS.same s1)
  refine⟨dx,_,h1,rfl,ex,a,ps,rs,kvs,past,z,rfl,hS.same s1,hz z hm,λc1 c2 H2 s2=>⟨⟨_,rfl⟩,s1.trans s2,λj y j1 j2=>?_⟩,λc H2 s2=>q1 (λy=>c (y.2 z hm)) H2 (s1.trans s2)⟩
  by_cases hji:j < i
  ·exact hj j y hji j2
  ·have:j=i:=by omega
   subst this
   rw [hi2] at j2
   cases j2
   exact⟨c1,c2⟩
 ·obtain⟨⟨o,rfl⟩,s1,hj⟩:=hP
  have hall:∀ z∈zs,Jw z/\(Jm kvs (Sum.inr z)).isSome=true:=λz hm=>let ⟨j,e⟩:=List.getElem?_of_mem hm; hj j z (by simpa using (List.getElem?_eq_some_iff.mp e).1) e
  obtain⟨dx,tr,ds,pv,h1,h2,h3,h4,h5,hx,hpx⟩:=id (hS.same s1)
  have hg1:=s1 _ _ hg
  walk_at "rd"
  refine⟨g,zs,rfl,hg1,by omega,λc hc=>⟨_,.inl hg1,rfl,?_⟩⟩
  rw [Yi]
  by_cases hn:zs.Nodup
  ·rw [if_neg (by rw [hc.mpr hn]; simp)]
   exact⟨CS,dx,_,h1,Ze,Zs,tr,rfl,CS,dx,_,h1,Ze,Zp,.ref ds,rfl,q2 hn hall H' tr ds s1 (h3.same Ju) (.inl (Ju _ _ h4))⟩
  ·rw [if_pos (by intro e; injection e with e; exact hn (hc.mp (by omega)))]
   exact q1 (λy=>hn y.1) H' s1
def ZjD(F:Fun K "cost_of_all" "cost_of_all" ZaV f fd)(Jg:mg "list"=none)(Zfy:Fn P w K mg base Zx 5 "cost" ["tree","homes","group"] (ZdP CT)):FnOk P w K mg base Zx 6 f fd ["tree","homes"] (λvs H Q E=>∃ (x:V) (d:Addr) (kvs:List (Je × V)),vs=[x,.ref d]/\Rd H d (.dK kvs)/\∀ g H',H g=none->Zn H H'->H' g=some (.lst (kvs.map λkv=>kV kv.1))->ZdP CT [x,.ref d,.ref g] H' Q E):=by
 refine JP F Zff λcdv A outer s H vs Q E hr h=>?_
 obtain⟨x,d,kvs,rfl,hd,q⟩:=h
 refine⟨_,(Zk (Zu (JB Zfy hr (Zl (Zf 0) (Zl (Zf 1) (Zl (Zp4 rfl Jg (Zl (Zf 1) Zb)) Zb)))))),?_⟩
 rw [show Zv ["tree","homes"] [x,.ref d]=[some (x),some (.ref d)] from rfl]
 walk_at "rd"
 exact⟨d,kvs,rfl,hd,λg H' hg s e=>q g H' hg s e⟩
end
section
variable {P:Program}{w:World}{K:PySem.W.Frag}{mg:Str->Option Value}{base:Heap}{f:Addr}{fd:FuncData}{CT CS CTM:Addr}{spA spB:Sp}
def ZiO{x qual:Str}{st:Stmt}{ps:List Str}(_:Fun K x qual st f fd):FnOk P w K mg base Zx 1 f fd ps (λ_ _ _ _=>False):=⟨λ_ _ _ _ h=>h.elim,λ_ _ _ _ _ _ _ _ _ _ _ _ _ h=>h.elim⟩
def Zjh(CTM:Addr):Sp:=λvs H Q E=>∃ (d:Addr) (kvs:List (Je × V)),vs=[.ref d]/\Rd H d (.dK kvs)/\(kvs.length<=6->Q .non H)/\(6 < kvs.length->∀ H',Zn H H'->E (.ref CTM) none H')
def Zoh{tk:Tok}(F:FunD K "look_villages" "look_villages" Zam .none f fd)(ZB:mg "len"=none)(g_MOST_FOR_THIRD:mg "MOST_FOR_THIRD"=some (.int 6 tk))(Zcd:mg "TooMany"=some (.ref CTM))(ec_TooMany:ZkV K CTM):FnOk P w K mg base (CX1 P w) 1 f fd ["homes"] (Zjh CTM):=by
 refine okX F Zea (λvs H Q E h=>?_) (λcdv A outer s H vs Q E hr h=>?_)
 ·obtain⟨d,kvs,rfl,_⟩:=h; rfl
 obtain⟨d,kvs,rfl,hd,q1,q2⟩:=h
 refine⟨_,(Zk (Ja (ZpB (Zls rfl ZB (Zl (Zf 0) Zb)) (Zft rfl g_MOST_FOR_THIRD)) (Zk (Zem Zb1 Zcd ec_TooMany rfl (Zl (ZrU (Zft rfl g_MOST_FOR_THIRD)) Zb))) ZG)),?_⟩
 rw [show Zv ["homes"] [.ref d]=[some (.ref d)] from rfl]
 walk_at "rd"
 refine⟨_,hd,?_⟩
 by_cases c:kvs.length<=6
 ·rw [if_neg (by omega)]; exact q1 c
 ·rw [if_pos (by omega)]; exact λz=>q2 (by omega) H λ_ _ z=>z
def Zg8(CTM:Addr):Sp:=λvs H _ E=>∃ (x:V) (d:Addr) (kvs:List (Je × V)),vs=[x,.ref d]/\Rd H d (.dK kvs)/\6 < kvs.length/\∀ H',Zn H H'->E (.ref CTM) none H'
def ZlA(F:FunD K "third" "third" Zcs .none f fd)(ZbR:Fn P w K mg base (CX1 P w) 1 "look_villages" ["homes"] (Zjh CTM)):FnOk P w K mg base (CX1 P w) 2 f fd ["tree","homes"] (Zg8 CTM):=by
 refine okX F Zow (λvs H Q E h=>?_) (λcdv A outer s H vs Q E hr h=>?_)
 ·obtain⟨x,d,kvs,rfl,_⟩:=h; rfl
 obtain⟨x,d,kvs,rfl,hd,h6,q⟩:=h
 refine⟨_,(Zd (ZR (ZnM Zb1 ZbR hr (by decide) rfl (Zl (Zf 1) Zb)))
   Zlu),?_⟩
 rw [show Zv ["tree","homes","bottom","told","name","share"] [x,.ref d]=[some (x),some (.ref d),none,none,none,none] from rfl]
 walk_at "rd"
 exact⟨d,kvs,rfl,hd,λc=>by omega,λ_=>q⟩
def ZdR(CS CT CTM:Addr):Sp:=λvs H _ E=>∃ ex a ps rs kvs past,vs=[.ref a,.str "third"]/\ZM ex CS CT H a ps rs kvs past/\6 < kvs.length/\∀ H',Zn H H'->E (.ref CTM) none H'
def ZjB(F:FunD K "shares" "Shire.shares" Zap .none f fd)(Ze:Cls K CS)(Zs:ZJ K CS "land")(Zp:ZJ K CS "places")(Zcl:Fn P w K mg base Zx 1 "even_shares" ["tree","homes"] spA)(Zes:Fn P w K mg base Zx 1 "evenest" ["tree","homes"] spB)(Zik:Fn P w K mg base (CX1 P w) 2 "third" ["tree","homes"] (Zg8 CTM)):FnOk P w K mg base (CX1 P w) 3 f fd ["self","rule"] (ZdR CS CT CTM):=by
 refine okX F ZeJ (λvs H Q E h=>?_) (λcdv A outer s H vs Q E hr h=>?_)
 ·obtain⟨ex,a,ps,rs,kvs,past,rfl,_⟩:=h; rfl
 obtain⟨ex,a,ps,rs,kvs,past,rfl,hS,h6,q⟩:=h
 obtain⟨dx,tr,ds,pv,h1,h2,h3,h4,h5,hx,hpx⟩:=id hS
 refine⟨_,(Zd (Ja (JX (Zf 1) ZN) (Zk (Zu (JB Zcl hr (Zl (ZV (Zf 0)) (Zl (ZV (Zf 0)) Zb))))) ZG)
   (Zd (Ja (JX (Zf 1) ZN) (Zk (Zu (JB Zes hr (Zl (ZV (Zf 0)) (Zl (ZV (Zf 0)) Zb))))) ZG)
   (Zk (Zu (ZnM Zb1 Zik hr (by decide) rfl (Zl (ZV (Zf 0)) (Zl (ZV (Zf 0)) Zb))))))),?_⟩
 rw [show Zv ["self","rule"] [.ref a,.str "third"]=[some (.ref a),some (.str "third")] from rfl]
 walk_at "rd"
 rw [if_neg (by decide),if_neg (by decide)]
 exact⟨CS,dx,_,h1,Ze,Zs,tr,rfl,CS,dx,_,h1,Ze,Zp,.ref ds,rfl,tr,ds,kvs,rfl,.inl (Ju _ _ h4),h6,q⟩
end
def ZjF(CT:Addr):Sp:=λvs H Q E=>∃ (x:V) (d:Addr) (kvs:List (Je × V)),vs=[x,.ref d]/\Rd H d (.dK kvs)/\∀ g H',H g=none->Zn H H'->H' g=some (.lst (kvs.map λkv=>kV kv.1))->ZdP CT [x,.ref d,.ref g] H' Q E
def ZjR{x y:V}{q r:Rat}(hx:Jn H x q)(hy:Jn H y r)(hne:q ≠ r):∃ p c,x=.ref p/\y=.ref c/\EqD H x y false 1:=by
 obtain⟨p,rfl,hp⟩:=hx
 obtain⟨c,rfl,hc⟩:=hy
 refine⟨p,c,rfl,rfl,?_⟩
 have h:=EqD.tup (e:=λj=>if j=0 then q.num == r.num else (q.den:Int) == (r.den:Int)) (n:=0) hp hc λj x y h1 h2=>by
  match j,h1,h2 with
  | 0,h1,h2=>cases h1; cases h2; have z:=EqD.flat (H:=H) (x:=.int q.num) (y:=.int r.num) rfl rfl; exact z
  | 1,h1,h2=>cases h1; cases h2; have z:=EqD.flat (H:=H) (x:=.int (q.den:Int)) (y:=.int (r.den:Int)) rfl rfl; exact z
 have e:(((List.range 2).all λj=>if j=0 then q.num == r.num else (q.den:Int) == (r.den:Int)))=false:=by
  rw [Bool.eq_false_iff]
  intro h
  simp [List.range_succ] at h
  exact hne (Rat.ext h.1 (by omega))
 have e2:(List.range (min [V.int q.num,V.int (q.den:Int)].length [V.int r.num,V.int (r.den:Int)].length)).all (λj=>if j=0 then q.num == r.num else (q.den:Int) == (r.den:Int))=false:=e
 rw [e2] at h
 exact h
abbrev ZiS(svs kvs:List (Je × V)):Prop:=svs.length=kvs.length/\∀ k∈svs.map (·.1),k∈kvs.map (·.1)
def Zqq(H:Hp)(CT:Addr)(x:V)(d sd:Addr)(kvs svs:List (Je × V)):Prop:=Rd H d (.dK kvs)/\Rd H sd (.dK svs)/\kvs.length<=30/\svs.length<=30/\(¬ ZiS svs kvs\/(ZiS svs kvs/\∃ (rs:List (Nat × Rat)) (ss:List Str) (hs:List Nat) (qs:List Rat),kvs.map (·.1)=ss.map Sum.inr/\ZO CT H x rs/\Ze3 kvs ss hs rs.length/\rs.length<=36/\Jj rs/\(∀ r∈rs,JN 110 r.2)/\ZeO H (svs.map (·.2)) qs/\Zs4 qs /\
 ∀ ks:List Nat,ks.Pairwise (· < ·)->(∀ k,k∈ks ↔ J1 rs hs k)->Zkt qs qs.length ≠ Zob rs ks))
def Zds(CT CNS:Addr):Sp:=λvs H _ E=>∃ (x:V) (d sd:Addr) (kvs svs:List (Je × V)),vs=[x,.ref d,.ref sd]/\Zqq H CT x d sd kvs svs/\∀ H',Zn H H'->E (.ref CNS) none H'
section
variable {P:Program}{w:World}{K:PySem.W.Frag}{mg:Str->Option Value}{base:Heap}{f pt:Addr}{fd:FuncData}{CT CS CNS:Addr}
def Zkz(F:FunD K "look_sharing" "look_sharing" Zao .none f fd)(Zbd:mg "NoSharing"=some (.ref CNS))(ec_NoSharing:ZkV K CNS)(Zgg:mg "set"=none)(Jg:mg "list"=none)(ZbE:Fn P w K mg base Zx 4 "total_of" ["some"] (Zgw K))(Zco:Fn P w K mg base Zx 6 "cost_of_all" ["tree","homes"] (ZjF CT)):FnOk P w K mg base (CX1 P w) 7 f fd ["tree","homes","sharing"] (Zds CT CNS):=by
 refine okX F Zek (λvs H Q E h=>?_) (λcdv A outer s H vs Q E hr h=>?_)
 ·obtain⟨x,d,sd,kvs,svs,rfl,_⟩:=h; rfl
 obtain⟨x,d,sd,kvs,svs,rfl,⟨hd,hsd,hkl,hsl,hb⟩,q⟩:=h
 refine⟨_,(Zd (Ja (ZqR (Nat.lt_of_succ_lt (ZdE hr)) rfl Zgg (Zl (Zf 2) Zb) (Zl (Zf 1) Zb)) (Zk (Zem Zb1 Zbd ec_NoSharing rfl (Zl ZN Zb))) ZG)
   (Zk (Ja (Zf4 hr (JB ZbE hr (Zl (Zj1 rfl Jg (Zf 2)) Zb)) (JB Zco hr (Zl (Zf 0) (Zl (Zf 1) Zb)))) (Zk (Zem Zb1 Zbd ec_NoSharing rfl (Zl ZN Zb))) ZG))),?_⟩
 rw [show Zv ["tree","homes","sharing"] [x,.ref d,.ref sd]=[some (x),some (.ref d),some (.ref sd)] from rfl]
 refine Zq λR0 hR0=>?_
 refine Jr λA0 hA0 C0 hC0=>?_
 simp only [ZmJ,tB]
 walk_at "rd"
 refine⟨svs,hsd,hsl,kvs,hd,hkl,λr hr=>?_⟩
 rcases hb with hb | ⟨hb,rs,ss,hs,qs,hks,hT,hH,hrl,hok,hsz,hRv,hlc,hne⟩
 ·have hrf:r=false:=by
   cases r with
   | false=>rfl
   | true=>exact absurd (hr.mp rfl) hb
  rw [hrf,if_pos (by decide)]
  subst hA0
  walk_at "rd"
  exact q H λ_ _ z=>z
 ·rw [hr.mpr hb,if_neg (by decide)]
  subst hC0
  walk_at "rd"
  subst hR0
  try dsimp only
  refine Jr λA0 hA0 C0 hC0=>?_
  walk_at "rd"
  simp only [Zpd]
  walk_at "rd"
  have hkv:(kvs.map λkv=>kV kv.1)=ss.map V.str:=by
   have:=congrArg (List.map kV) hks
   rw [Y7,Y7] at this
   exact this
  have hl:ss.length=kvs.length:=by have:=congrArg List.length hks; simpa using this.symm
  have hql:qs.length=svs.length:=by have:=hRv.1; simpa using this.symm
  refine⟨svs,hsd,λl H1 hl1 s1 e1=>?_⟩
  refine⟨l,svs.map (·.2),qs,rfl,.of e1,⟨hRv.1,λi y t e2 e3=>(hRv.2 i y t e2 e3).same s1⟩,hlc,by omega,λr1 H2 s2 v1=>?_⟩
  have s12:=s1.trans s2
  refine⟨x,d,kvs,rfl,Zgl hd s12,λg H3 hg s3 e3=>?_⟩
  rw [hkv] at e3
  have s13:=s12.trans s3
  refine⟨x,rs,d,g,kvs,ss,hs,rfl,hT.same s13,Zgl hd s13,e3,hH,hrl,by omega,hok,hsz,λr2 H4 ks s4 hpw hmem v2 _=>?_⟩
  obtain⟨p1,p2,rfl,rfl,he⟩:=ZjR (v1.same (s3.trans s4)) v2 (hne ks hpw hmem)
  refine⟨false,1,p1,p2,rfl,rfl,he,by decide,_,rfl,?_⟩
  rw [if_pos (by decide)]
  subst hA0
  walk_at "rd"
  exact q H4 (s13.trans s4)
def ZiD(F:FunD K "judged" "judged" Zbw .none f fd)(Zb4:Fn P w K mg base (CX1 P w) 7 "look_sharing" ["tree","homes","sharing"] (Zds CT CNS)):FnOk P w K mg base (CX1 P w) 8 f fd ["tree","homes","sharing"] (Zds CT CNS):=by
 refine okX F ZmO (λvs H Q E h=>?_) (λcdv A outer s H vs Q E hr h=>?_)
 ·obtain⟨x,d,sd,kvs,svs,rfl,_⟩:=h; rfl
 obtain⟨x,d,sd,kvs,svs,rfl,hN,q⟩:=h
 refine⟨_,(Zd (ZR (ZnM Zb1 Zb4 hr (by decide) rfl (Zl (Zf 0) (Zl (Zf 1) (Zl (Zf 2) Zb)))))
   Zlu),?_⟩
 rw [show Zv ["tree","homes","sharing","name","left","table","road","payers","amount"] [x,.ref d,.ref sd]=[some (x),some (.ref d),some (.ref sd),none,none,none,none,none,none] from rfl]
 walk_at "rd"
 exact⟨x,d,sd,kvs,svs,rfl,hN,q⟩
def ZdH(CS CT CNS:Addr):Sp:=λvs H _ E=>∃ ex a ps rs kvs past sd,∃ svs:List (Je × V),vs=[.ref a,.ref sd]/\ZM ex CS CT H a ps rs kvs past/\(∀ x d,ZO CT H x rs->Rd H d (.dK kvs)->Zqq H CT x d sd kvs svs)/\∀ H',Zn H H'->E (.ref CNS) none H'
def Zjt(F:FunD K "judge" "Shire.judge" Zav .none f fd)(Ze:Cls K CS)(Zs:ZJ K CS "land")(Zp:ZJ K CS "places")(ZfX:Fn P w K mg base (CX1 P w) 8 "judged" ["tree","homes","sharing"] (Zds CT CNS)):FnOk P w K mg base (CX1 P w) 9 f fd ["self","sharing"] (ZdH CS CT CNS):=by
 refine okX F Zfk (λvs H Q E h=>?_) (λcdv A outer s H vs Q E hr h=>?_)
 ·obtain⟨ex,a,ps,rs,kvs,past,sd,svs,rfl,_⟩:=h; rfl
 obtain⟨ex,a,ps,rs,kvs,past,sd,svs,rfl,hS,hN,q⟩:=h
 obtain⟨dx,tr,ds,pv,h1,h2,h3,h4,h5,hx,hpx⟩:=id hS
 refine⟨_,(Zk (Zu (ZnM Zb1 ZfX hr (by decide) rfl (Zl (ZV (Zf 0)) (Zl (ZV (Zf 0)) (Zl (Zf 1) Zb)))))),?_⟩
 rw [show Zv ["self","sharing"] [.ref a,.ref sd]=[some (.ref a),some (.ref sd)] from rfl]
 walk_at "rd"
 have e4:Rd H ds (.dK kvs):=.inl (Ju _ _ h4)
 exact⟨CS,dx,_,h1,Ze,Zs,tr,rfl,CS,dx,_,h1,Ze,Zp,.ref ds,rfl,tr,ds,sd,kvs,svs,rfl,hN tr ds (h3.same Ju) e4,q⟩
end
def isT:Value->Bool
 | .bool b=>b
 | _=>false
def ZiG:∀ {bs:List Bool}{its:List Value},ZD (bs.map V.bl) its->its=bs.map Value.bool
 | [],its,h=>by cases h; rfl
 | b :: bs,its,h=>by
  cases h with
  | cons h1 h2 =>
   cases h1
   rw [ZiG h2]
   rfl
section
variable {X:Cx}{t:TA}
def ZkF:V->List V->Hp->VK->Prop:=λx vs H Q=>∃ (l:Addr) (bs:List Bool),x=.ref l/\vs=[.bl true]/\H l=some (.lst (bs.map V.bl))/\Q (.int (bs.countP id:Nat)) H
def ZmH:MtM X "list.count" ZkF:=by
 intro pins s Z H x vs v us Q I rx rv h
 obtain⟨l,bs,rfl,rfl,hH,q⟩:=h
 cases rx
 obtain⟨u,rfl,ru⟩:=rv.one
 cases ru
 obtain⟨z,its,n,r,hl,e⟩:=I.lstM hH
 have ei:=ZiG r
 subst ei
 refine call_meets F.slot_list_count ⟨_,e,rfl⟩ F.entry_list_count (F.args_list_count_2 _ _) (SeqAt.list_countAt l _ n none #[] _ isT) ⟨e,λy hy=>?_,?_⟩
 ·have hy':y∈bs.map Value.bool:=by simpa using hy
  obtain⟨b,_,rfl⟩:=Yk.mp hy'
  have:=ZkI (A:=X.A.in1) (s:=s) (y:=.bl b) (x:=.bl true) (u:=.bool b) (v:=.bool true) rfl rfl rfl rfl
  rw [show isT (Value.bool b)=eqV (V.bl b) (V.bl true) by cases b <;> rfl]
  exact this
 ·refine⟨.int _,H,I.tok _,⟨_,rfl⟩,?_⟩
  rw [show List.countP isT (List.map Value.bool bs).toArray.toList=List.countP id bs by
   rw [List.toList_toArray,List.countP_map]
   rfl]
  exact q
def Zmh:V->List V->Hp->VK->Prop:=λx vs H Q=>∃ (l:Addr) (bs:List Bool) (j:Nat),x=.ref l/\vs=[.bl true]/\H l=some (.lst (bs.map V.bl))/\j < 1000/\bs[j]?=some true/\(∀ m,m < j->bs[m]?=some false)/\Q (.int (j:Int)) H
def Zmb:MtM X "list.index" Zmh:=by
 intro pins s Z H x vs v us Q I rx rv h
 obtain⟨l,bs,j,rfl,rfl,hH,hj,h1,h2,q⟩:=h
 cases rx
 obtain⟨u,rfl,ru⟩:=rv.one
 cases ru
 obtain⟨z,its,n,r,hl,e⟩:=I.lstM hH
 have ei:=ZiG r
 subst ei
 have hjl:j < bs.length:=(Yf.mp h1).1
 refine call_meets F.slot_list_index ⟨_,e,rfl⟩ F.entry_list_index (F.args_list_index_2 _ _) (SeqAt.list_indexAt l _ n none #[] _ isT j (by simpa using hjl) (by omega) ?_ ?_) ⟨e,λy hy=>?_,?_⟩
 ·have:=(Yf.mp h1).2
  simp [isT,this]
 ·intro m hm hlt
  have hml:m < bs.length:=by omega
  have:=(Yf.mp (h2 m hlt)).2
  simp [isT,this]
 ·have hy':y∈bs.map Value.bool:=by simpa using hy
  obtain⟨b,_,rfl⟩:=Yk.mp hy'
  have:=ZkI (A:=X.A.in1) (s:=s) (y:=.bl b) (x:=.bl true) (u:=.bool b) (v:=.bool true) rfl rfl rfl rfl
  rw [show isT (Value.bool b)=eqV (V.bl b) (V.bl true) by cases b <;> rfl]
  exact this
 ·exact⟨.int _,H,I.tok _,⟨_,rfl⟩,q⟩
def Znl{o e:Expr}{to:TE}{apos cpos:Pos}(ho:QE X o to)(ha:QA X [e] t)(hbase:attributeBase o "count" X.env (eval o X.env)=eval o X.env:=by rfl)(hline:(apos.endLine == cpos.line)=true:=by rfl)(hp:ZA e=true:=by rfl) :
  QE X (.Call (.Attribute o "count" apos) [e] [] cpos) (tLm ZkF to t) :=
 ⟨Zq4 PySem.F.slot_list_count PySem.F.type_list_count ZmH ho.h ha.h hbase (by rw [ZC hp]; rfl) hline (ZC hp) rfl⟩
def Zn0{o e:Expr}{to:TE}{apos cpos:Pos}(ho:QE X o to)(ha:QA X [e] t)(hbase:attributeBase o "index" X.env (eval o X.env)=eval o X.env:=by rfl)(hline:(apos.endLine == cpos.line)=true:=by rfl)(hp:ZA e=true:=by rfl) :
  QE X (.Call (.Attribute o "index" apos) [e] [] cpos) (tLm Zmh to t) :=
 ⟨Zq4 PySem.F.slot_list_index PySem.F.type_list_index Zmb ho.h ha.h hbase (by rw [ZC hp]; rfl) hline (ZC hp) rfl⟩
end
section
variable {X:Cx}{E:XK}{j k:Nat}{x:Str}{ps:List Str}{sp:Sp}{p pos:Pos}{e:Expr}{es:List Expr}{t:TA}{C:Addr}
def Zs6{c:Expr}{a b:List Stmt}{tc:TT}{t u:TSX}(hc:QT X.nox c tc)(ha:QSX X a t)(hb:QSX X b u):QSX X [.If c a b pos] (λD EX Z H=>tc Z H λd H1=>if d=true then t D EX Z H1 else u D EX Z H1):=⟨Zi8 (by
 intro pins s Z H D EX I h
 refine wpAny_If (Yo (hc.h pins s Z H _ (I.wish _) h) (λd s1 ⟨H1,I1,q1⟩=>?_) λ_ _ z=>z.elim)
 cases d with
 | true=>rw [if_pos rfl] at q1; exact ha.h pins s1 Z H1 D EX I1.unwish q1
 | false=>rw [if_neg (by decide)] at q1; exact hb.h pins s1 Z H1 D EX I1.unwish q1)⟩
end
def Ztj(E:XK)(C:Addr)(H:Hp):Prop:=∀ H',Zn H H'->E (.ref C) none H'
structure WordR(K:PySem.W.Frag)(CNN CTM CNS CNP CSE C:Addr)(j:Nat):Prop where
 xk:ExcK K C
 k0:kitOne K (.ref C) (.ref CNN)=some (decide (j=0))
 k1:kitOne K (.ref C) (.ref CTM)=some (decide (j=1))
 k2:kitOne K (.ref C) (.ref CNS)=some (decide (j=2))
 np:kitOne K (.ref C) (.ref CNP)=some false
 se:exmOne K (.ref C) (.ref CSE)=some true
 lt:j < 3
def ZuN{j:Nat}(h:j < 3):List.countP id [decide (j=0),decide (j=1),decide (j=2)]=1:=by
 match j,h with
 | 0,_=>rfl
 | 1,_=>rfl
 | 2,_=>rfl
def Zur{j:Nat}(h:j < 3):[decide (j=0),decide (j=1),decide (j=2)][j]?=some true/\∀ m,m < j->[decide (j=0),decide (j=1),decide (j=2)][m]?=some false:=by
 refine⟨?_,λm hm=>?_⟩
 ·match j,h with
  | 0,_=>rfl
  | 1,_=>rfl
  | 2,_=>rfl
 ·match j,h,m,hm with
  | 1,_,0,_=>rfl
  | 2,_,0,_=>rfl
  | 2,_,1,_=>rfl
def ZrC(j:Nat):Str:=match j with
 | 0=>"name"
 | 1=>"many"
 | _=>"sharing"
section
variable {P:Program}{w:World}{K:PySem.W.Frag}{mg:Str->Option Value}{base:Heap}{f:Addr}{fd:FuncData}{CT CS CNN CTM CNS CNP CSE:Addr}
def Zhe(K:PySem.W.Frag)(CS CT CNN CTM CNS CNP CSE:Addr):Sp:=λvs H Q _=>∃ (ex:List Addr) (a ps:Addr) (n:JZ) (past:List JZ) (what:Str) (x:V) (C:Addr) (j:Nat),vs=[.ref a,.str what,x]/\ZM ex CS CT H a ps n.1 n.2 past/\WordR K CNN CTM CNS CNP CSE C j /\
 ((what="cost"/\∀ Q' E',Ztj E' C H->Zb5 CS CT CNN [.ref a,x] H Q' E')\/(what="third"/\∀ Q' E',Ztj E' C H->ZdR CS CT CTM [.ref a,.str "third"] H Q' E')\/(what="judge"/\∀ Q' E',Ztj E' C H->ZdH CS CT CNS [.ref a,x] H Q' E'))/\∀ H',Zn H H'->Q (.str (ZrC j)) H'
def ZmU(F:Fun K "_law_refusal" "_law_refusal" Za5 f fd)(Zm:mg "isinstance"=none)(ZcA:mg "ShareError"=some (.ref CSE))(ZbA:mg "NoName"=some (.ref CNN))(Zcd:mg "TooMany"=some (.ref CTM))(Zbd:mg "NoSharing"=some (.ref CNS))(ZeV:mg "NoPlace"=some (.ref CNP))(ZcN:Mth P w K mg base (CX1 P w) 6 CS "cost_of" ["self","names"] (Zb5 CS CT CNN))(ZgC:Mth P w K mg base (CX1 P w) 3 CS "shares" ["self","rule"] (ZdR CS CT CTM))(Zhz:Mth P w K mg base (CX1 P w) 9 CS "judge" ["self","sharing"] (ZdH CS CT CNS)) :
  FnOk P w K mg base Zx 10 f fd ["_law_shire","_law_what","_law_thing"] (Zhe K CS CT CNN CTM CNS CNP CSE):=by
 refine JP F Zb2 λcdv A outer s H vs Q E hr h=>?_
 obtain⟨ex,a,ps,n,past,what,x,C,j,rfl,hS,wc,hw,q⟩:=h
 obtain⟨dx,tr,ds,pv,h1,h2,h3,h4,h5,hx,hpx⟩:=id hS
 have hj:=wc.lt
 refine⟨_,(Zd (Zt7 3 Zeg Zb2.nd ZcA (Zs6 (JX (Zf 1) ZN) (Zip (ZlF Zeg ZcN hr (by decide) (Zf 0) (Zl (Zf 2) Zb))) (Zs6 (JX (Zf 1) ZN) (Zip (ZlF Zeg ZgC hr (by decide) (Zf 0) (Zl ZN Zb))) (Zip (ZlF Zeg Zhz hr (by decide) (Zf 0) (Zl (Zf 2) Zb))))) (by exact λea=>(Zd (Zw 4 Zb2.nd (Jz (Zl (ZgE rfl Zm (Zl (Zf 3) (Zl (ZmY rfl ZbA) Zb))) (Zl (ZgE rfl Zm (Zl (Zf 3) (Zl (ZmY rfl Zcd) Zb))) (Zl (ZgE rfl Zm (Zl (Zf 3) (Zl (ZmY rfl Zbd) Zb))) Zb)))))
   (Zd (Ja (t_w (J3 (Zjm (Znl (Zf 4) (Zl Zh5 Zb)) Zc) (ZdD (JD (ZgE rfl Zm (Zl (Zf 3) (Zl (ZmY rfl ZeV) Zb))))))) (Zk (Zu ZN)) ZG)
   (Zk (Zu (ZT (Jz (Zl ZN (Zl ZN (Zl ZN Zb)))) (Zn0 (Zf 4) (Zl Zh5 Zb)))))))))
   (Zk (Zu ZN))),?_⟩
 rw [show Zv ["_law_shire","_law_what","_law_thing","e","_law_kinds"] [.ref a,.str what,x]=[some (.ref a),some (.str what),some (x),none,none] from rfl]
 rcases hw with ⟨rfl,h⟩ | ⟨rfl,h⟩ | ⟨rfl,h⟩
 all_goals
  walk_at "rd"
  try rw [if_neg (by decide)]
  try rw [if_pos (by decide)]
  try rw [if_neg (by decide)]
  refine⟨dx,_,h1,rfl,h _ _ λH' s'=>⟨C,rfl,wc.se,λea hn=>?_⟩⟩
  walk_at "rd"
  refine⟨ea,C,_,_,_,rfl,Zi,wc.xk,rfl,wc.k0,?_⟩
  walk_at "rd"
  refine⟨ea,C,_,_,_,rfl,Zi,wc.xk,rfl,wc.k1,?_⟩
  walk_at "rd"
  refine⟨ea,C,_,_,_,rfl,Zi,wc.xk,rfl,wc.k2,?_⟩
  walk_at "rd"
  intro p H2 hp s2 e2
  refine⟨⟨_,e2⟩,p,[decide (j=0),decide (j=1),decide (j=2)],rfl,rfl,e2,rfl,?_⟩
  rw [ZuN hj,if_neg (λz=>z rfl)]
  refine⟨ea,C,_,_,_,rfl,s2 _ _ Zi,wc.xk,rfl,wc.np,_,rfl,?_⟩
  rw [if_neg (by decide)]
  intro p4 H4 hp4 s4 e4
  refine⟨⟨_,s4 _ _ e2⟩,p,[decide (j=0),decide (j=1),decide (j=2)],j,rfl,rfl,s4 _ _ e2,by omega,(Zur hj).1,(Zur hj).2,_,_,rfl,e4,?_⟩
  have q':=q H4 (s'.trans ((ZH hn _).trans (s2.trans s4)))
  match j,hj with
  | 0,_=>exact⟨_,rfl,q'⟩
  | 1,_=>exact⟨_,rfl,q'⟩
  | 2,_=>exact⟨_,rfl,q'⟩
end
def Zgq(qs ps:List Rat):Jp (qs ++ ps)=Jp qs + Jp ps:=by
 unfold Jp
 rw [List.foldl_append,ZgP]
def ZeW{qs ps:List Rat}(h:qs.Perm ps):Jp qs=Jp ps:=by
 induction h with
 | nil=>rfl
 | cons x _ ih=>rw [ZaM,ZaM,ih]
 | swap x y l=>rw [ZaM,ZaM,ZaM,ZaM,<- Rat.add_assoc,<- Rat.add_assoc,Rat.add_comm x y]
 | trans _ _ ih1 ih2=>exact ih1.trans ih2
def Ze6{ks:List Nat}:Zob rs ks=Jp (ks.map (ZQ rs)):=by
 unfold Zob Zkt Jp
 rw [List.take_of_length_le (by simp)]
def JQ(pv:Nat->V)(acc:List Nat):List (Je × V):=acc.map λk:Nat=>(Sum.inl (k:Int),pv k)
def ZmW{pv:Nat->V}{acc:List Nat}:Jm (JQ pv acc) (Sum.inl (k:Int))=if k∈acc then some (pv k) else none:=by
 induction acc with
 | nil=>rfl
 | cons a acc ih =>
  by_cases c:a=k
  ·subst c
   unfold JQ
   rw [Ys,Zdv rfl]
   simp
  ·unfold JQ at ih ⊢
   rw [Ys,Zdo (λz=>c (by injection z with z; omega)),ih]
   simp [Ne.symm c]
def Znr{pv:Nat->V}{acc:List Nat}(h:k ∉ acc):Jt (JQ pv acc) (Sum.inl (k:Int)) (pv k)=JQ pv (acc ++ [k]):=by
 rw [ZiP _ (by rw [ZmW,if_neg h])]
 unfold JQ
 rw [YQ]
 rfl
def Zl9{pv:Nat->V}{acc:List Nat}(h:k∈acc):Jt (JQ pv acc) (Sum.inl (k:Int)) (pv k)=JQ pv acc:=by
 unfold Jt
 split
 ·rw [show (JQ pv acc).map (λkv=>if kv.1=Sum.inl (k:Int) then (kv.1,pv k) else kv)=(JQ pv acc).map id from VE λkv hkv=>?_,List.map_id]
  unfold JQ at hkv
  obtain⟨j,_,rfl⟩:=Yk.mp hkv
  show (if _ then _ else _)=_
  split
  ·rename_i e
   injection e with e
   rw [show j=k by omega]
   rfl
  ·rfl
 ·rename_i c
  exact absurd (List.any_eq_true.mpr ⟨(Sum.inl (k:Int),pv k),List.mem_map.mpr ⟨k,h,rfl⟩,by simp⟩) c
def ZeH{acc:List Nat}(h:acc.Nodup)(hb:∀ k∈acc,1<=k/\k<=n):acc.length<=n:=by
 have hs:acc ⊆ List.range' 1 n:=λk hk=>by
  obtain⟨h1,h2⟩:=hb k hk
  exact List.mem_range'_1.mpr ⟨h1,by omega⟩
 have:=Vq h hs
 simpa using this
def ZfJ(hz:∀ r∈rs,JN 98 r.2)(k:Nat):JN 98 (ZQ rs k):=by
 unfold ZQ
 cases h:rs[k - 1]? with
 | none=>exact ZfQ (by decide)
 | some r=>exact hz r (Yz h)
def Zc7(hz:∀ r∈rs,JN 98 r.2):∀ acc:List Nat,JN (99 * acc.length + 1) (Jp (acc.map (ZQ rs)))
 | []=>ZfQ (by decide)
 | k :: acc=>by
  rw [Ys,ZaM,Vd]
  exact (ZfJ hz k).add (Zc7 hz acc) (by omega)
def Zi2:Sp:=λvs H Q _=>∃ (p d g:Addr) (xs:List V) (rs:List (Nat × Rat)) (kvs:List (Je × V)) (ss:List Str) (hs:List Nat),vs=[.ref p,.ref d,.ref g]/\H p=some (.lst xs)/\ZS H xs rs/\Rd H d (.dK kvs)/\H g=some (.lst (ss.map V.str))/\Ze3 kvs ss hs rs.length/\rs.length<=30/\ss.length < 50/\Jj rs/\(∀ r∈rs,JN 98 r.2) /\
 ∀ r H' (acc:List Nat),Zn H H'->acc.Nodup->(∀ k,k∈acc ↔ J1 rs hs k)->Jn H' r (Jp (acc.map (ZQ rs)))->Q r H'
def Zrg(F:Fun K "_law_same" "_law_same" ZbD f fd)(Zm:mg "isinstance"=none)(Zcr:mg "tuple"=none)(ZB:mg "len"=none)(Zch:Fn P w K mg base Zx 1 "_law_whole" ["_law_found"] Zba) :
  FnOk P w K mg base Zx 2 f fd ["_law_found","_law_due"] Zl8:=by
 refine JP F ZiB λcdv A outer s H vs Q E hr h=>?_
 obtain⟨x,y,t,rfl,hx,hy,q⟩:=h
 obtain⟨p,c,rfl,rfl,hd⟩:=Zlg hx hy
 obtain⟨p',e,hp⟩:=hx
 cases e
 refine⟨_,(Zd (Ja (t_w (J3 (JO (JD (Zc6 rfl Zm (Zl (Zf 0) (Zl (Zm5 rfl Zcr rfl) Zb))))) (ZdD (Zjm (JE rfl ZB (Zl (Zf 0) Zb)) Zc)))) (Zk (Zu Zh5)) ZG)
   (Zk (Zu (Zgt (JB Zch hr (Zl (Zr (Zf 0) Zc) Zb)) (Zgt (JB Zch hr (Zl (Zr (Zf 0) Zc) Zb)) (Zhw (ZrY hr (Zf 0) (Zf 1)))))))),?_⟩
 rw [show Zv ["_law_found","_law_due"] [.ref p,.ref c]=[some (.ref p),some (.ref c)] from rfl]
 refine Zq λB hB=>?_
 refine Jr λA hA C hC=>?_
 walk_at "rd"
 simp only [Zgu hp,hp]
 walk_at "rd"
 rw [if_neg (by decide)]
 subst hC
 walk_at "rd"
 subst hB
 try dsimp only
 walk_at "rd"
 simp only [hp,Zba,Zsb]
 walk_at "rd"
 refine⟨ZcC _,?_⟩
 rw [if_pos (by simp [isW])]
 refine⟨ZcC _,?_⟩
 rw [if_pos (by simp [isW])]
 exact⟨true,1,hd,by decide,q⟩
def Plc(H0:Hp)(p d g kd:Addr)(pv:Nat->V)(Pm:Nat->Prop)(Z:St)(H:Hp):Prop:=∃ (o1 o2:Option V) (acc:List Nat),Z=[some (.ref p),some (.ref d),some (.ref g),some (.ref kd),o1,o2,none,none]/\Zn H0 H/\H kd=some (.dK (JQ pv acc))/\acc.Nodup/\(∀ k,k∈acc ↔ Pm k)
def Plq(H0:Hp)(p d g kd:Addr)(ob:Obj)(pv:Nat->V)(rs:List (Nat × Rat))(acc:List Nat)(i:Nat)(Z:L2.St)(H:Hp):Prop:=∃ (o1 o2 o3:Option V) (r:V),Z=[some (.ref p),some (.ref d),some (.ref g),some (.ref kd),o1,o2,some r,o3]/\Zn H0 H/\H kd=some (.frz ob (.dK (JQ pv acc)))/\Jn H r (Jp ((acc.take i).map (ZQ rs)))
def ZoA(F:Fun K "_law_cost" "_law_cost" ZbO f fd)(ZeA:Fn P w K mg base Zx 1 "_law_way" ["_law_roads","_law_k"] Zpm)(ZX:Fn P w K mg base Zx 2 "_law_low" ["_law_top","_law_bottom"] Zc8):FnOk P w K mg base Zx 4 f fd ["_law_roads","_law_homes","_law_names"] Zi2:=by
 refine JP F ZaU λcdv A outer s H vs Q E hr h=>?_
 obtain⟨p,d,g,xs,rs,kvs,ss,hs,rfl,hp,hR,hd,hg,hH,hrl,hsl,hO,hz,q⟩:=h
 refine⟨_,(Zd (Zw 3 ZaU.nd Zhs)
   (Zd (ZdW YD (Zdu (Zf 2)) (Jq 4 ZaU.nd) (Zk (ZdW YD (Zdu (JB ZeA hr (Zl (Zf 0) (Zl (Zlz (ZdE hr) (Zf 1) (Zf 4)) Zb)))) (Jq 5 ZaU.nd) (Zk (Ze4 (ZdE hr) (Zf 3) (Zf 5) (Zr (ZT (Zf 0) (JS (Zf 5) Zc)) Zc))))))
   (Zd (Zw 6 ZaU.nd (Jv (Zl Zc (Zl Zc Zb))))
   (Zt3 3 (Zd (ZdW YD (Zrv (Zf 3)) (Jq 5 ZaU.nd) (Zd (Zw 7 ZaU.nd (Zlz (ZdE hr) (Zf 3) (Zf 5)))
   (Zk (Zw 6 ZaU.nd (JB ZX hr (Zl (Jd (ZbW (Zr (Zf 6) Zc) (Zr (Zf 7) Zc)) (ZbW (Zr (Zf 7) Zc) (Zr (Zf 6) Zc))) (Zl (ZbW (Zr (Zf 6) Zc) (Zr (Zf 7) Zc)) Zb)))))))
   (Zk (Zu (Zf 6)))))))),?_⟩
 rw [show Zv ["_law_roads","_law_homes","_law_names","_law_roped","_law_name_here","_law_road","_law_total","_law_price"] [.ref p,.ref d,.ref g]=[some (.ref p),some (.ref d),some (.ref g),none,none,none,none,none] from rfl]
 obtain⟨pv,hpv⟩:∃ pv:Nat->V,∀ k,1<=k->k<=rs.length->∃ pr t,xs[k - 1]?=some (.ref pr)/\H pr=some (.tup [t,pv k])/\Jn H (pv k) (ZQ rs k):=by
  refine Classical.axiomOfChoice (r:=λ(k:Nat) (y:V)=>1<=k->k<=rs.length->∃ pr t,xs[k - 1]?=some (.ref pr)/\H pr=some (.tup [t,y])/\Jn H y (ZQ rs k)) λk=>?_
  by_cases c:1<=k/\k<=rs.length
  ·have hlt:k - 1 < rs.length:=by omega
   have hltx:k - 1 < xs.length:=by rw [hR.1]; exact hlt
   obtain⟨pr,yr,exr,hpr,hyr⟩:=hR.2 (k - 1) _ _ (Yc hltx) (Yc hlt)
   have hpa:ZQ rs k=rs[k - 1].2:=by unfold ZQ; rw [List.getElem?_eq_getElem hlt]; rfl
   exact⟨yr,λ_ _=>⟨pr,_,by rw [<- exr]; exact Yc hltx,hpr,by rw [hpa]; exact hyr⟩⟩
  ·exact⟨.non,λh1 h2=>absurd ⟨h1,h2⟩ c⟩
 walk_at "rd"
 intro kd H1 hkd s1 e1
 simp only [Zb7]
 walk_at "rd"
 refine ZcV (λi=>Plc H p d g kd pv (J1 rs (hs.take i))) ⟨_,_,[],rfl,s1,e1,List.nodup_nil,λk=>⟨(λz=>by cases z),(λ⟨h,hm,_⟩=>by simp at hm)⟩⟩ (λi Z H' _ ⟨_,_,_,_,sm,_⟩=>.of (sm _ _ hg)) (λi y Z H' hi hP=>?_) (λZ H' hP=>?_)
 ·obtain⟨o1,o2,acc,rfl,sm,e3,hnd,hm⟩:=hP
  rw [Yh] at hi
  obtain⟨z,hz',rfl⟩:∃ z,ss[i]?=some z/\y=V.str z:=by cases h:ss[i]? with | none=>rw [h] at hi; cases hi | some z=>rw [h] at hi; cases hi; exact⟨z,rfl,rfl⟩
  have hi':i < ss.length:=(Yf.mp hz').1
  have hih:i < hs.length:=by rw [<- hH.1]; exact hi'
  have hh:=Yc hih
  obtain⟨hvl,hle⟩:=hH.2 i z _ hz' hh
  obtain⟨w0,hw0,hwl0⟩:=ZfO hO hle
  walk_at "rd"
  rw [Zb7]
  walk_at "rd"
  refine⟨kvs,Zgl hd sm,.inr z,rfl,_,hvl,p,xs,rs,hs[i],w0,rfl,sm _ _ hp,hR.same sm,hw0,by omega,λpw H4 hpw s4 e4=>?_⟩
  have hpk:pw ≠ kd:=λzz=>by rw [zz,e3] at hpw; cases hpw
  refine ZcV (λj Z H5=>Plc H p d g kd pv (λk=>J1 rs (hs.take i) k\/k∈w0.take j) Z H5/\H5 pw=some (.lst (JG w0))) ⟨⟨_,_,acc,rfl,sm.trans s4,s4 _ _ e3,hnd,λk=>by rw [hm k]; simp⟩,e4⟩ (λj Z H5 _ hP=>.of hP.2) (λj y Z H5 hj hP=>?_) (λZ H5 hP=>?_)
  ·obtain⟨⟨q1,q2,acc5,rfl,s5,e5,hnd5,hm5⟩,e6⟩:=hP
   have hjl:j < w0.length:=by have:=(List.getElem?_eq_some_iff.mp hj).1; simpa [JG] using this
   have hk:=Yc hjl
   have hy:y=V.int (w0[j]:Int):=by
    unfold JG at hj
    rw [Yh,hk] at hj
    cases hj
    rfl
   subst hy
   have tk:∀ k,k∈w0.take (j + 1) ↔ k∈w0.take j\/k=w0[j]:=λk=>by rw [List.take_add_one,hk,List.mem_append]; simp
   have hbd:∀ k∈acc5,1<=k/\k<=rs.length:=λk hk=>by
    rcases (hm5 k).mp hk with h | h
    ·exact Zh7 h
    ·exact hw0.mem k (List.mem_of_mem_take h)
   have hal:=ZeH hnd5 hbd
   obtain⟨b1,b2⟩:=hw0.mem w0[j] (Yx _)
   obtain⟨pr,tt,px,ph,pq⟩:=hpv w0[j] b1 b2
   walk_at "rd"
   refine⟨xs,s5 _ _ hp,.ref pr,by rw [show ((w0[j]:Nat):Int) - 1=((w0[j] - 1:Nat):Int) by omega]; exact ZY px,pr,rfl,_,s5 _ _ ph,pv w0[j],rfl,_,e5,.inl (w0[j]:Int),rfl,by unfold JQ; rw [List.length_map]; omega,?_⟩
   by_cases c:w0[j]∈acc5
   ·rw [Zl9 c]
    refine⟨⟨_,_,acc5,rfl,ZE hkd s5,Zi,hnd5,λk=>?_⟩,by rw [Zj hpk]; exact e6⟩
    show k∈acc5 ↔ (J1 rs (hs.take i) k\/k∈w0.take (j + 1))
    rw [tk k,hm5 k]
    constructor
    ·rintro (h | h)
     ·exact .inl h
     ·exact .inr (.inl h)
    ·rintro (h | h | h)
     ·exact .inl h
     ·exact .inr h
     ·subst h; exact (hm5 _).mp c
   ·rw [Znr c]
    refine⟨⟨_,_,acc5 ++ [w0[j]],rfl,ZE hkd s5,Zi,?_,λk=>?_⟩,by rw [Zj hpk]; exact e6⟩
    ·exact List.nodup_append.mpr ⟨hnd5,by simp,λx hx y hy=>by rw [List.mem_singleton.mp hy]; intro e; exact c (e ▸ hx)⟩
    ·show k∈acc5 ++ [w0[j]] ↔ (J1 rs (hs.take i) k\/k∈w0.take (j + 1))
     rw [Yp,Yu,tk k,hm5 k,or_assoc]
  ·obtain⟨⟨q1,q2,acc5,rfl,s5,e5,hnd5,hm5⟩,e6⟩:=hP
   refine⟨_,_,acc5,rfl,s5,e5,hnd5,λk=>?_⟩
   rw [hm5 k,Zg3 hh hw0 k,show (JG w0).length=w0.length by simp [JG],List.take_length]
 ·obtain⟨o1,o2,acc,rfl,sm,e3,hnd,hm⟩:=hP
  rw [Yi,hH.1,YO] at hm
  have hbd:∀ k∈acc,1<=k/\k<=rs.length:=λk hk=>Zh7 ((hm k).mp hk)
  have hal:=ZeH hnd hbd
  walk_at "rd"
  intro pt H2 hpt s2 e2
  refine⟨kd,_,rfl,s2 _ _ e3,λob=>?_⟩
  have hkt:pt ≠ kd:=λzz=>by rw [zz,e3] at hpt; cases hpt
  have sm2:Zn H (upd H2 kd (.frz ob (.dK (JQ pv acc)))):=ZE hkd (sm.trans s2)
  walk_at "rd"
  rw [ZmG]
  walk_at "rd"
  refine Zo6 (o:=ob) (kvs:=JQ pv acc) (Plq H p d g kd ob pv rs acc) ⟨_,_,_,_,rfl,sm2,Zi,⟨pt,rfl,by rw [Zj hkt]; exact e2⟩⟩ (λi Z H' _ ⟨_,_,_,_,_,_,e,_⟩=>e) (λi kv Z H' hi hP=>?_) (λZ H' hP=>?_)
  ·obtain⟨o1,o2,o3,r,rfl,s5,e5,v5⟩:=hP
   unfold JQ at hi
   rw [Yh] at hi
   obtain⟨k',hk',rfl⟩:=Y9.mp hi
   obtain⟨b1,b2⟩:=hbd k' (Yz hk')
   obtain⟨pr,tt,px,ph,pq⟩:=hpv k' b1 b2
   obtain⟨ar,rfl,har⟩:=id v5
   obtain⟨ap,eap,hap⟩:=pq.same s5
   have hil:i < acc.length:=(Yf.mp hk').1
   have z1:JN 3000 (Jp ((acc.take i).map (ZQ rs))):=(Zc7 hz (acc.take i)).mono (by rw [Y6]; omega)
   have z2:JN 3000 (ZQ rs k'):=(ZfJ hz k').mono (by decide)
   have hpd:=(Jp ((acc.take i).map (ZQ rs))).den_pos
   have htd:=(ZQ rs k').den_pos
   walk_at "rd"
   refine⟨_,.inr ⟨ob,e5⟩,.inl (k':Int),rfl,pv k',by rw [ZmW,if_pos (Yz hk')],_,har,_,rfl,ap,eap,_,hap,_,rfl,_,rfl,_,rfl,ZdT z1.1 (Jf z2) (by decide),ap,eap,_,hap,_,rfl,_,har,_,rfl,_,rfl,_,rfl,ZdT z2.1 (Jf z1) (by decide),?_⟩
   refine⟨_,har,_,rfl,ap,eap,_,hap,_,rfl,_,rfl,_,rfl,ZdT (Jf z1) (Jf z2) (by decide),_,_,rfl,Big.of (Za0 (Jf z1) (Jf z2)) (by decide),Int.mul_pos (by omega) (by omega),λr H6 s6 v6=>⟨_,_,_,r,rfl,s5.trans s6,s6 _ _ e5,?_⟩⟩
   rw [List.take_succ_eq_append_getElem hil,YQ,Zgq,<- (show k'=acc[i] by rw [Yc hil] at hk'; injection hk' with hk'; exact hk'.symm)]
   rw [show Jp ([k'].map (ZQ rs))=ZQ rs k' by unfold Jp; simp [Rat.zero_add],Zfw]
   exact v6
  ·obtain⟨o1,o2,o3,r,rfl,s5,e5,v5⟩:=hP
   walk_at "rd"
   refine q r H' acc s5 hnd hm ?_
   unfold JQ at v5
   rw [Yi,YO] at v5
   exact v5
def Znu:∀ j:Fin 23,∀ s:Fin 3,Zdm ((j:Nat):Int) (100 + ((s:Nat):Int)) ≠ "zzzzzzzz"/\Zdm ((j:Nat):Int) (100 + ((s:Nat):Int)) ≠ "qqqqqqqq":=by decide +kernel
structure Twn(n:JZ)(ss:List Str)(hf:Str->Nat):Prop where
 keys:n.2.map (·.1)=ss.map Sum.inr
 nd:ss.Nodup
 few:ss.length<=8
 ok:∀ z∈ss,Jw z/\(Jm n.2 (Sum.inr z)).isSome=true
 odd:∀ z,(Jm n.2 (Sum.inr z)).isSome=true->z ≠ "zzzzzzzz"/\z ≠ "qqqqqqqq"
 hat:∀ gs:List Str,(∀ z∈gs,z∈ss)->Ze3 n.2 gs (gs.map hf) n.1.length
def ZrX{n:JZ}(h:HV i n.2)(hm:Zqk n):∃ ss hf,Twn n ss hf:=by
 refine⟨n.2.map λkv=>(match kv.1 with | Sum.inr z=>z | Sum.inl _=>Str.empty),λz=>(match Jm n.2 (Sum.inr z) with | some (.int h)=>h.toNat | _=>0),?_⟩
 have hk:n.2.map (·.1)=(n.2.map λkv=>(match kv.1 with | Sum.inr z=>z | Sum.inl _=>Str.empty)).map Sum.inr:=by
  rw [Y7]
  refine VE λkv hkv=>?_
  obtain⟨j,s,k,_,rfl,_⟩:=h.2.2 kv hkv
  rfl
 have nm:∀ z,(Jm n.2 (Sum.inr z)).isSome=true->∃ (j:Fin 23) (s:Fin 3),z=Zdm ((j:Nat):Int) (100 + ((s:Nat):Int)):=λz hz=>by
  obtain⟨v,ev⟩:=Option.isSome_iff_exists.mp hz
  obtain⟨j,s,k,_,e,_⟩:=h.2.2 _ (Zez ev)
  injection e with e _
  injection e with e
  exact⟨j,s,e⟩
 have is:∀ z∈(n.2.map λkv=>(match kv.1 with | Sum.inr z=>z | Sum.inl _=>Str.empty)),(Jm n.2 (Sum.inr z)).isSome=true:=λz hz=>by
  obtain⟨kv,hkv,rfl⟩:=Yk.mp hz
  obtain⟨j,s,k,_,rfl,_⟩:=h.2.2 kv hkv
  rw [<- ZcS]
  exact List.any_eq_true.mpr ⟨_,hkv,by simp⟩
 refine⟨hk,?_,by rw [List.length_map]; exact h.2.1,λz hz=>⟨?_,is z hz⟩,λz hz=>?_,λgs hg=>⟨by simp,λi z x h1 h2=>?_⟩⟩
 ·have:=h.1
  rw [hk] at this
  exact List.Pairwise.imp (λ{_ _} h e=>h (by rw [e])) (VG.mp this)
 ·obtain⟨j,s,rfl⟩:=nm z (is z hz)
  exact Zih j s
 ·obtain⟨j,s,rfl⟩:=nm z hz
  exact Znu j s
 ·rw [Yh,h1] at h2
  cases h2
  obtain⟨v,ev⟩:=Option.isSome_iff_exists.mp (is z (hg z (Yz h1)))
  obtain⟨x,rfl,hx⟩:=hm _ (Zez ev)
  dsimp only at ev ⊢
  rw [ev]
  exact⟨by simp,by simpa using hx⟩
theorem Zjz:¬ Jw "A":=by
 intro h
 have:=h.2.2 65 (by decide +kernel)
 omega
theorem ZjL:¬ Jw "":=by
 intro h
 have:=h.1
 exact absurd this (by decide +kernel)
def ZiX{z:Str}(h:Jw z):Ziu z:=⟨by have:=h.2.1; omega,λd hd=>by have:=h.2.2 d hd; omega⟩
theorem ZtO:Ziu "A":=by unfold Ziu; decide +kernel
theorem Zt6:Ziu "":=by unfold Ziu; decide +kernel
theorem ZtX:Ziu "zzzzzzzz":=by unfold Ziu; decide +kernel
theorem ZtB:Ziu "qqqqqqqq":=by unfold Ziu; decide +kernel
def ZhI{CS CT CNN:Addr}{a ps g:Addr}{n:JZ}{past:List JZ}{ss gs:List Str}{hf:Str->Nat}{Q:VK}{E:XK}(T:Twn n ss hf)(hN:ZeD i n)(hl:n.1.length<=30)(hS:ZM ex CS CT H a ps n.1 n.2 past)(hg:H g=some (.lst (gs.map V.str)))(hgn:gs.Nodup)(hgs:∀ z∈gs,z∈ss)
  (q:∀ r H' (ks:List Nat),Zn H H'->ks.Pairwise (· < ·)->(∀ k,k∈ks ↔ J1 n.1 (gs.map hf) k)->Jn H' r (Zob n.1 ks)->JN 4000 (Zob n.1 ks)->Q r H'):Zb5 CS CT CNN [.ref a,.ref g] H Q E:=by
 have hle:gs.length<=8:=Yj (Vq hgn hgs) T.few
 exact⟨ex,a,ps,n.1,n.2,past,g,gs,rfl,hS,hg,by omega,λz hz=>ZiX (T.ok z (hgs z hz)).1,λc=>absurd ⟨hgn,λz hz=>T.ok z (hgs z hz)⟩ c,λ_ _ H' x d s1 hT hd=>⟨x,n.1,d,g,n.2,gs,gs.map hf,rfl,hT,hd,s1 _ _ hg,T.hat gs hgs,by omega,by omega,hN.1.1,λr hr=>(hN.1.2.2 r hr).1.mono (by decide),λr H2 ks s2 h1 h2 h3 h4=>q r H2 ks (s1.trans s2) h1 h2 h3 h4⟩⟩
theorem ZfD{CS CT CNN:Addr}{a ps g:Addr}{n:JZ}{past:List JZ}{gs:List Str}{Q:VK}{E:XK}(hS:ZM ex CS CT H a ps n.1 n.2 past)(hg:H g=some (.lst (gs.map V.str)))(hl:gs.length < 50)(ha:∀ z∈gs,Ziu z)(hb:¬ (gs.Nodup/\∀ z∈gs,Jw z/\(Jm n.2 (Sum.inr z)).isSome=true))(h:Ztj E CNN H):Zb5 CS CT CNN [.ref a,.ref g] H Q E :=
 ⟨ex,a,ps,n.1,n.2,past,g,gs,rfl,hS,hg,hl,ha,λ_=>h,λh1 h2=>absurd ⟨h1,h2⟩ hb⟩
def Zl6{cp:St}{tt:TT}{te:TE}{H1:Hp}{Q:VK}{ts:List Str}(r:Nat->Bool)(hn:n=ts.length)(hl:n < 1000)(ht:∀ z,z < n->∀ H' (k:Bool->Hp->Prop),Zn H1 H'->(∀ H2,Zn H' H2->k (r z) H2)->tt (some (V.int (z:Int)) :: cp) H' k)
  (he:∀ (z:Nat) x,ts[z]?=some x->∀ H' (k:V->Hp->Prop),Zn H1 H'->k (.str x) H'->te (some (V.int (z:Int)) :: cp) H' k)
  (q:∀ p H',H1 p=none->Zn H1 H'->H' p=some (.lst ((((List.range n).filter r).map λj=>ts.getD j Str.empty).map V.str))->Q (.ref p) H'):Zh1 1 cp (Itr 0 n) (Zdb 0) tt te H1 Q:=by
 refine Zi6 (λacc i ys H'=>Zn H1 H'/\H' acc=some (.lst ys)/\ys=(((List.range i).filter r).map λj=>ts.getD j Str.empty).map V.str/\i<=n)
  (λacc H2 hn sm e=>⟨sm,e,by simp,Nat.zero_le _⟩) (λacc i ys H2 ⟨sm,e,e2,hi⟩=>⟨e,?_⟩) (λacc i ys H2 os hn2 hi hP ol=>?_) (λacc ys H2 hn hP=>?_)
 ·rw [e2,Yi,Yi]
  exact YN (List.length_filter_le _ _) (by rw [List.length_range]; omega)
 ·obtain⟨sm,e,e2,_⟩:=hP
  obtain⟨o',rfl⟩:∃ o',os=[o']:=by match os,ol with | [o'],_=>exact⟨o',rfl⟩
  rw [Int.zero_add]
  refine⟨[some (V.int (i:Int))],rfl,rfl,ht i hi H2 _ sm λH3 s3=>?_⟩
  replace sm:=sm.trans s3
  replace e:=s3 _ _ e
  have tk:(List.range (i + 1)).filter r=(List.range i).filter r ++ (if r i=true then [i] else []):=by
   rw [List.range_succ,List.filter_append]
   congr 1
   by_cases c:r i=true
   ·rw [List.filter_cons_of_pos c,if_pos c]; rfl
   ·rw [List.filter_cons_of_neg c,if_neg c]; rfl
  have hit:i < ts.length:=by omega
  refine JA (λc=>he i ts[i] (Yc hit) H3 _ sm ⟨e,ZE hn2 sm,Zi,?_,hi⟩) (λc=>⟨sm,e,?_,hi⟩)
  ·rw [tk,if_pos c,e2,YQ,YQ]
   simp [List.getD_eq_getElem?_getD,List.getElem?_eq_getElem hit]
  ·rw [tk,if_neg c,Vk,e2]
 ·obtain⟨sm,e,e2,_⟩:=hP
  subst e2
  exact q acc H2 hn sm e
def ZU(v:Int)(ts:List Str):List Str:=((List.range ts.length).filter λk:Nat=>decide (0 < v.fdiv ((k:Int) + 1) % 3)).map λj=>ts.getD j Str.empty
def ZnR{v:Int}{ts:List Str}{z:Str}(h:z∈ZU v ts):z∈ts:=by
 unfold ZU at h
 obtain⟨j,hj,rfl⟩:=Yk.mp h
 have hl:=YH.mp (Ve.mp hj).1
 rw [List.getD_eq_getElem?_getD,Yc hl]
 exact Yx _
variable {ss:List Str}
def Zok{a b:Addr}(ha:H a=some (.lst (ss.map V.str)))(hb:H b=some (.lst (ss.map V.str))):EqD H (.ref a) (.ref b) true 1:=by
 have h:=EqD.lst (e:=λ_=>true) (n:=0) ha hb rfl λj x y h1 h2=>by
  rw [h1] at h2
  cases h2
  obtain⟨z,_,rfl⟩:=Yk.mp (Yz h1)
  have z:=EqD.flat (H:=H) (x:=.str z) (y:=.str z) rfl rfl
  rw [ZcT rfl] at z
  exact z
 rw [ZdC λ_ _=>rfl] at h
 exact h
def Zup:Zpy xs none (some 1)=xs.take 1:=by
 unfold Zpy HT.sIx
 cases xs with
 | nil=>rfl
 | cons x xs =>
  simp
  try omega
def ZuL{j:Int}(h:j < xs.length)(h0:0<=j):Zpy xs (some j) none=xs.drop j.toNat:=by
 unfold Zpy
 have e1:HT.sIx xs.length 0 (some j)=j.toNat:=by simp only [HT.sIx]; split <;> omega
 have e2:HT.sIx xs.length xs.length none=xs.length:=by simp [HT.sIx]
 rw [e1,e2]
 exact List.take_of_length_le (by rw [List.length_drop]; omega)
theorem Zpl{ts:List Str}(h:ts.Nodup){j i:Nat}{z:Str}(h1:ts[j]?=some z)(h2:ts[i]?=some z):j=i:=by
 obtain⟨l1,e1⟩:=Yf.mp h1
 obtain⟨l2,e2⟩:=Yf.mp h2
 rcases Nat.lt_trichotomy j i with c | c | c
 ·exact absurd (e1.trans e2.symm) (List.pairwise_iff_getElem.mp h j i l1 l2 c)
 ·exact c
 ·exact absurd (e2.trans e1.symm) (List.pairwise_iff_getElem.mp h i j l2 l1 c)
def Zj0{v:Int}{ts:List Str}(h:ts.Nodup):(ZU v ts).Nodup:=by
 unfold ZU
 refine VG.mpr (List.Pairwise.imp_of_mem (R:=(· ≠ ·)) (λ{a b} ha hb hne e=>hne ?_) (List.Pairwise.filter _ List.nodup_range))
 have la:=YH.mp (Ve.mp ha).1
 have lb:=YH.mp (Ve.mp hb).1
 rw [List.getD_eq_getElem?_getD,List.getD_eq_getElem?_getD,Yc la,Yc lb] at e
 exact Zpl h (List.getElem?_eq_getElem la) (by rw [List.getElem?_eq_getElem lb]; exact congrArg some (by simpa using e.symm))
def ShV(H:Hp)(svs:List (Je × V))(ss:List Str)(qf:Str->Rat):Prop:=svs.length=ss.length/\∀ (i:Nat) z,ss[i]?=some z->∃ v,svs[i]?=some (Sum.inr z,v)/\Jn H v (qf z)
variable {svs:List (Je × V)}
theorem ShV.keep{H H':Hp}{qf:Str->Rat}(h:ShV H svs ss qf)(s:∀ b ys,H b=some (.tup ys)->H' b=some (.tup ys)):ShV H' svs ss qf:=⟨h.1,λi z e=>let ⟨v,e1,r⟩:=h.2 i z e; ⟨v,e1,r.keep s⟩⟩
theorem ShV.keys{qf:Str->Rat}(h:ShV H svs ss qf):svs.map (·.1)=ss.map Sum.inr:=by
 refine Vu λi=>?_
 rw [Yh,Yh]
 cases e:ss[i]? with
 | none=>rw [YS (by rw [h.1]; exact List.getElem?_eq_none_iff.mp e)]; rfl
 | some z=>obtain⟨v,e1,_⟩:=h.2 i z e; rw [e1]; rfl
def ZkU:∀ {svs:List (Je × V)}{i:Nat}{k:Je}{v:V},svs[i]?=some (k,v)->(svs.map (·.1)).Nodup->Jm svs k=some v
 | [],i,k,v,h,_=>by cases h
 | kv :: svs,0,k,v,h,_=>by cases h; exact Zdv rfl
 | kv :: svs,i + 1,k,v,h,hn=>by
  rw [Ys,VL] at hn
  have hm:(k,v)∈svs:=Yz h
  rw [Zdo (λe=>hn.1 (Yk.mpr ⟨_,hm,e.symm⟩))]
  exact ZkU h hn.2
def Zla(h:ss.Nodup):(ss.map (Sum.inr:Str->Je)).Nodup:=List.Pairwise.map _ (λ_ _ hne e=>hne (by injection e)) h
def ShV.val{qf:Str->Rat}(h:ShV H svs ss qf)(hn:ss.Nodup):∀ z∈ss,∃ v,Jm svs (Sum.inr z)=some v/\Jn H v (qf z):=λz hz=>by
 obtain⟨i,hi,e⟩:=List.getElem_of_mem hz
 obtain⟨v,e1,r⟩:=h.2 i z (by rw [Yc hi,e])
 exact⟨v,ZkU e1 (by rw [h.keys]; exact Zla hn),r⟩
def Zj3{k:Je}{v:V}(h:k ∉ svs.map (·.1)):Jt svs k v=svs ++ [(k,v)]:=by
 unfold Jt
 rw [if_neg]
 intro c
 obtain⟨kv,h1,h2⟩:=List.any_eq_true.mp c
 exact h (List.mem_map.mpr ⟨kv,h1,by simpa using h2⟩)
theorem ShV.snoc{qf:Str->Rat}{z:Str}{v:V}(h:ShV H svs ss qf)(hz:z ∉ ss)(r:Jn H v (qf z)):ShV H (Jt svs (Sum.inr z) v) (ss ++ [z]) qf:=by
 rw [Zj3 (by rw [h.keys]; intro c; obtain⟨y,hy,e⟩:=Yk.mp c; injection e with e; exact hz (e ▸ hy))]
 refine⟨by simp [h.1],λi y e=>?_⟩
 by_cases c:i < ss.length
 ·rw [YK c] at e
  rw [YK (by rw [h.1]; exact c)]
  exact h.2 i y e
 ·have hi:i=ss.length:=by have:=(List.getElem?_eq_some_iff.mp e).1; simp at this; omega
  subst hi
  rw [YI (Yd _)] at e
  rw [<- h.1,YI (Yd _)]
  simp at e
  subst e
  exact⟨v,by simp,r⟩
def ShV.put{qf qg:Str->Rat}{z:Str}{v:V}(h:ShV H svs ss qf)(hz:z∈ss)(r:Jn H v (qg z))(hq:∀ y,y ≠ z->qg y=qf y):ShV H (Jt svs (Sum.inr z) v) ss qg:=by
 have hk:(svs.any λkv=>decide (kv.1=(Sum.inr z:Je)))=true:=by
  have:(Sum.inr z:Je)∈svs.map (·.1):=by rw [h.keys]; exact Yk.mpr ⟨z,hz,rfl⟩
  obtain⟨kv,h1,h2⟩:=Yk.mp this
  exact List.any_eq_true.mpr ⟨kv,h1,by simpa using h2⟩
 unfold Jt
 rw [if_pos (by simpa using hk)]
 refine⟨by rw [Yi]; exact h.1,λi y e=>?_⟩
 obtain⟨u,e1,r1⟩:=h.2 i y e
 rw [Yh,e1]
 by_cases c:y=z
 ·subst c
  exact⟨v,by simp,r⟩
 ·exact⟨u,by simp [c],by rw [hq y c]; exact r1⟩
section
variable {P:Program}{w:World}{K:PySem.W.Frag}{mg:Str->Option Value}{base:Heap}{f:Addr}{fd:FuncData}{CT CS CNN CTM CNS CNP CSE:Addr}
def ZiJ(CS CT:Addr):Sp:=λvs H Q _=>∃ (ex:List Addr) (a ps p d:Addr) (rx:List V) (n:JZ) (past:List JZ) (i:Nat) (v:Int),vs=[.ref a,.ref p,.ref d,.int v]/\ZM ex CS CT H a ps n.1 n.2 past/\H p=some (.lst rx)/\ZS H rx n.1/\H d=some (.dK n.2)/\ZeD i n/\Zqk n/\0<=v/\v < 99989/\n.1.length<=30/\∀ H',Zn H H'->Q (.bl true) H'
def Zml{hf:Str->Nat}{ts ss:List Str}(h:ts.Perm ss):J1 rs (ss.map hf) k ↔ J1 rs (ts.map hf) k:=by
 unfold J1
 constructor
 ·rintro⟨x,hx,r⟩
  exact⟨x,(h.map hf).mem_iff.mpr hx,r⟩
 ·rintro⟨x,hx,r⟩
  exact⟨x,(h.map hf).mem_iff.mp hx,r⟩
def ZnK{a b B:Nat}(ha:0 < a)(h1:a ∣ B)(h2:b ∣ B):ZjV a b ∣ B:=by
 have:ZjV a b=Nat.lcm a b:=by
  unfold ZjV Nat.lcm
  rw [Nat.mul_comm a b,Nat.mul_div_assoc _ (VV a b),Nat.mul_comm]
 rw [this]
 exact Nat.lcm_dvd h1 h2
def Zjj{B:Nat}(h:∀ (i:Nat) q,qs[i]?=some q->q.den ∣ B):∀ i,i<=qs.length->ZiL qs i ∣ B/\0 < ZiL qs i
 | 0,_=>⟨Nat.one_dvd _,Nat.one_pos⟩
 | i + 1,hi=>by
  have hq:=Yc (show i < qs.length from hi)
  obtain⟨h1,h2⟩:=Zjj h i (Yt hi)
  rw [Zev hq]
  exact⟨ZnK h2 h1 (h i _ hq),Zjs h2 (qs[i]).den_pos⟩
theorem ZoQ{U:Nat}(h0:0 < U)(hU:U<=2 ^ 4000)(h:∀ (i:Nat) q,qs[i]?=some q->q.den ∣ U/\JN 4000 q):Zs4 qs :=
 ⟨λi q e=>(h i q e).2,λi hi=>Yj (Nat.le_of_dvd h0 (Zjj (λi q e=>(h i q e).1) i hi).1) hU⟩
def Zkp{ts:List Str}(hn:ts.Nodup)(h0:0 < ts.length)(c:Rat):Zkt (ts.map λy=>if y=ts[0] then c else 0) (ts.map λy=>if y=ts[0] then c else (0:Rat)).length=c:=by
 cases ts with
 | nil=>simp at h0
 | cons z tl =>
  have e:((z :: tl).map λy=>if y=(z :: tl)[0] then c else (0:Rat))=c :: tl.map (λ_=>(0:Rat)):=by
   rw [Ys]
   congr 1
   ·exact if_pos rfl
   ·exact VE λy hy=>if_neg (λe:y=z=>(VL.mp hn).1 (by rw [<- e]; exact hy))
  rw [e]
  unfold Zkt
  rw [YO]
  show Jp (c :: tl.map λ_=>(0:Rat))=c
  have z:∀ l:List Str,Jp (l.map λ_=>(0:Rat))=0:=λl=>by
   induction l with
   | nil=>rfl
   | cons _ l ih=>rw [Ys,ZaM,ih,Rat.add_zero]
  rw [ZaM,z,Rat.add_zero]
def ZnX(W:Rat):Rat.divInt (W.num * 3 + (W.den:Int)) ((W.den:Int) * 3) ≠ W:=λe=>by
 have h:=W.den_pos
 have e2:=e.trans (Va W).symm
 rw [Rat.divInt_eq_divInt_iff (by omega) (by omega),Int.add_mul,Int.mul_assoc,Int.mul_comm (W.den:Int) 3] at e2
 have h2:(W.den:Int) * (W.den:Int)=0:=by omega
 rcases Int.mul_eq_zero.mp h2 with h3 | h3 <;> omega
def Psh(H0:Hp)(ts:List Str)(Z0:L2.St)(sd:Addr)(i:Nat)(Z:L2.St)(H':Hp):Prop:=∃ (o10:Option V) (svs:List (Je × V)),Z=Z0 ++ [o10]/\Zn H0 H'/\H' sd=some (.dK svs)/\ShV H' svs (ts.take i) (λ_=>0)
def ZoH(F:Fun K "_law_asked" "_law_asked" Zbk f fd)(Zbv:mg "sorted"=none)(Jk:mg "range"=none)(ZB:mg "len"=none)(Jg:mg "list"=none)(wN:WordR K CNN CTM CNS CNP CSE CNN 0)(wM:WordR K CNN CTM CNS CNP CSE CTM 1)(wS:WordR K CNN CTM CNS CNP CSE CNS 2)(ZdO:Fn P w K mg base Zx 2 "_law_same" ["_law_found","_law_due"] Zl8)(ZcP:Fn P w K mg base Zx 4 "_law_cost" ["_law_roads","_law_homes","_law_names"] Zi2)(ZX:Fn P w K mg base Zx 2 "_law_low" ["_law_top","_law_bottom"] Zc8)(ZaN:Fn P w K mg base Zx 10 "_law_refusal" ["_law_shire","_law_what","_law_thing"] (Zhe K CS CT CNN CTM CNS CNP CSE))(ZcN:Mth P w K mg base Zx 6 CS "cost_of" ["self","names"] (λvs H Q _=>Zb5 CS CT CNN vs H Q E0)) :
  FnOk P w K mg base Zx 11 f fd ["_law_shire","_law_roads","_law_homes","_law_v"] (ZiJ CS CT):=by
 refine JP F ZaJ λcdv A outer s H vs Q E hr h=>?_
 obtain⟨ex,a,ps,p,d,rx,n,past,i,v,rfl,hS,hp,hR,hd,hn,hh,hv0,hv1,hrl,q⟩:=h
 obtain⟨ss,hf,T⟩:=ZrX hn.2 hh
 have hkv:(n.2.map λkv=>kV kv.1)=ss.map V.str:=by
  have:=congrArg (List.map kV) T.keys
  rw [Y7,Y7] at this
  exact this
 have hsz:∀ r∈n.1,JN 98 r.2:=λr hr=>(hn.1.2.2 r hr).1
 have hT:=hn.1.1
 refine⟨_,(Zd (Zw 4 ZaJ.nd (ZmS rfl Zbv (Zl (Zf 2) Zb)))
   (Zd (ZjZ 5 (Ztt ["_law_k"] [3,4] ["_law_v","_law_names"]) (Zfo rfl Jk (Zl (JE rfl ZB (Zl (Zf 4) Zb)) Zb)) (by exact λs H fp=>(Jq 0 (show List.Nodup (["_law_k","_law_v","_law_names"]:List Str) from by decide +kernel))) (by exact λs H fp=>Zr1 (ZpB (Z4 (Zdk (Zf 1) (Jd (Zf 0) Zc)) Zc) Zc)) (by exact λs H fp=>(ZT (Zf 2) (Zf 0))) (Jq 5 ZaJ.nd))
   (Zd (Zw 6 ZaJ.nd (ZfL rfl Jg (Zl (Zf 5) Zb)))
   (Zd (Ja (t_w (J3 (JO (JD (JB ZdO hr (Zl (Jc ZcN hr (by decide) (Zf 0) (Zl (Zf 6) Zb)) (Zl (JB ZcP hr (Zl (Zf 1) (Zl (Zf 2) (Zl (Zf 5) Zb)))) Zb))))) (ZdD (Zf4 hr (Zf 6) (Zf 5))))) (Zk (Zu Zh5)) ZG)
   (Zd (Zw 7 ZaJ.nd (ZT (Jz (Zl (ZhE (Zf 5) (Jz (Zl ZN Zb))) (Zl (ZhE (Jz (Zl ZN Zb)) (Zf 5)) (Zl (ZhE (Zf 5) (Jz (Zl ZN Zb))) (Zl (ZhE (ZhE (Zf 5) (Zme (Zf 5) Zc)) (Jz (Zl ZN Zb))) Zb))))) (Z4 (Zf 3) Zc)))
   (Zd (Ja (Zjm (JB ZaN hr (Zl (Zf 0) (Zl ZN (Zl (Zf 7) Zb)))) ZN) (Zk (Zu Zh5)) ZG)
   (Zd (Ja (t_w (Zfm (Zf4 hr (Zf 5) (Jz Zb)) (Zc4 (Zjm (JB ZaN hr (Zl (Zf 0) (Zl ZN (Zl (ZhE (Zf 5) (Zme (ZqD (Zf 5) (Z4 (Zf 3) (JE rfl ZB (Zl (Zf 5) Zb)))) Zc)) Zb)))) ZN)))) (Zk (Zu Zh5)) ZG)
   (Zd (Ja (t_w (Zfm (ZpB (JE rfl ZB (Zl (Zf 4) Zb)) Zc) (Zc4 (Zjm (JB ZaN hr (Zl (Zf 0) (Zl ZN (Zl ZsC Zb)))) ZN)))) (Zk (Zu Zh5)) ZG)
   (Zd (Zw 8 ZaJ.nd (JB ZcP hr (Zl (Zf 1) (Zl (Zf 2) (Zl (Zf 4) Zb)))))
   (Zd (Zw 9 ZaJ.nd Zhs)
   (Zd (ZdW YD (Zdu (Zf 4)) (Jq 10 ZaJ.nd) (Zk (Ze4 (ZdE hr) (Zf 9) (Zf 10) (Jv (Zl Zc (Zl Zc Zb))))))
   (Zd (Ja (Zf4 hr (Zf 4) (Jz Zb)) (Zk (Ze4 (ZdE hr) (Zf 9) (ZT (Zf 4) Zc) (JB ZX hr (Zl (Jd (JR (Zr (Zf 8) Zc) Zc) (Zr (Zf 8) Zc)) (Zl (JR (Zr (Zf 8) Zc) Zc) Zb))))) (Zk (Ze4 (ZdE hr) (Zf 9) ZN (Jv (Zl Zc (Zl Zc Zb))))))
   (Zd (Ja (Zjm (JB ZaN hr (Zl (Zf 0) (Zl ZN (Zl (Zf 9) Zb)))) ZN) (Zk (Zu Zh5)) ZG)
   (Zd (Ze4 (ZdE hr) (Zf 9) ZN (Jv (Zl (ZrT Zc) (Zl Zc Zb))))
   (Zk (Zu (Zui (JB ZaN hr (Zl (Zf 0) (Zl ZN (Zl (Zf 9) Zb)))) ZN))))))))))))))))),?_⟩
 rw [show Zv ["_law_shire","_law_roads","_law_homes","_law_v","_law_names","_law_some","_law_handed","_law_odd","_law_whole_here","_law_sharing","_law_name_here"] [.ref a,.ref p,.ref d,.int v]=[some (.ref a),some (.ref p),some (.ref d),some (.int v),none,none,none,none,none,none,none] from rfl]
 refine Zq λB hB=>?_
 walk_at "rd"
 refine⟨n.2,.inl hd,ss,hkv,by have:=T.few; omega,λl H1 ts hl s1 e1 _ hperm=>?_⟩
 have htl:ts.length=ss.length:=hperm.length_eq
 have hfew:=T.few
 have htn:ts.Nodup:=hperm.nodup_iff.mpr T.nd
 have hts:∀ z∈ts,z∈ss:=λz hz=>hperm.mem_iff.mp hz
 subst hB
 try dsimp only
 refine Zq λB hB=>?_
 walk_at "rd"
 simp only [ZiI,Zkl]
 walk_at "rd"
 rw [show JU [some (V.ref a),some (V.ref p),some (V.ref d),some (V.int v),some (V.ref l),none,none,none,none,none,none] [3,4]=[some (V.int v),some (V.ref l)] from rfl]
 refine⟨_,.inl e1,by rw [Yi]; omega,by rw [Yi]; omega,?_⟩
 rw [Yi,Vb]
 refine Zl6 (ts:=ts) (λk:Nat=>decide (0 < v.fdiv ((k:Int) + 1) % 3)) rfl (by omega) (λk hk H' kk sm hkk=>?_) (λk x hx H' kk sm hkk=>?_) (λu H2 hu s2 e2=>?_)
 ·walk_at "rd"
  refine⟨by omega,Nat.lt_trans (ZbC (k:=20) (by rw [show ((k:Int) + 1).natAbs=k + 1 by omega]; exact Yq (show k + 1 < 1000 by omega) (by decide)) (by decide)) (by decide),hkk H' λ_ _ z=>z⟩
 ·walk_at "rd"
  exact⟨_,sm _ _ e1,_,ZY (by rw [Yh,hx]; rfl),hkk⟩
 replace e2:H2 u=some (.lst ((ZU v ts).map V.str)):=e2
 have hgn:=Zj0 (v:=v) htn
 have hgs:∀ z∈ZU v ts,z∈ss:=λz hz=>hts z (ZnR hz)
 have hgl:(ZU v ts).length<=8:=Yj (Vq hgn hgs) hfew
 have s12:=s1.trans s2
 subst hB
 try dsimp only
 refine Zq λB hB=>?_
 walk_at "rd"
 refine⟨u,_,rfl,.inl (.of e2),λg H3 hg s3 e3=>?_⟩
 have s13:=s12.trans s3
 subst hB
 try dsimp only
 refine Zq λB hB=>?_
 refine Jr λA0 hA0 C0 hC0=>?_
 walk_at "rd"
 obtain⟨dx,tr,ds,pv,h1,_⟩:=id (hS.same s13)
 refine⟨dx,_,h1,rfl,ZhI T hn hrl (hS.same s13) e3 hgn hgs λr H4 ks s4 hpw hmem v4 _=>?_⟩
 have s14:=s13.trans s4
 refine⟨p,d,u,rx,n.1,n.2,ZU v ts,_,rfl,s14 _ _ hp,hR.same s14,.inl (s14 _ _ hd),s4 _ _ (s3 _ _ e2),T.hat _ hgs,hrl,by omega,hT,hsz,λr2 H5 acc s5 hnd hacc v5=>?_⟩
 have hac:Jp (acc.map (ZQ n.1))=Zob n.1 ks:=by
  rw [Ze6]
  exact ZeW (List.Perm.map _ ((List.perm_ext_iff_of_nodup hnd (hpw.imp λh e=>by rw [e] at h; exact YR _ h)).mpr λk=>(hacc k).trans (hmem k).symm))
 rw [hac] at v5
 have s15:=s14.trans s5
 have s35:=s4.trans s5
 refine⟨r,r2,_,rfl,v4.same s5,v5,true,rfl,?_⟩
 rw [if_neg (by decide)]
 refine⟨true,1,g,u,rfl,rfl,Zok (s35 _ _ e3) (s35 _ _ (s3 _ _ e2)),by decide,_,rfl,?_⟩
 rw [if_neg (by decide)]
 subst hC0
 walk_at "rd"
 subst hB
 try dsimp only
 refine Zq λB hB=>?_
 walk_at "rd"
 have eu5:H5 u=some (.lst ((ZU v ts).map V.str)):=s35 _ _ (s3 _ _ e2)
 have hsl:(1000:Nat)<=sizeLine:=by decide
 intro q1 H6 hq1 s6 e6
 refine⟨_,s6 _ _ eu5,_,e6,by simp; omega,λq2 hq2=>?_⟩
 have s6':=s6.trans (ZH hq2 (.lst ((ZU v ts).map V.str ++ [V.str "zzzzzzzz"])))
 intro q3 H7 hq3 s7 e7
 have s7':=s6'.trans s7
 refine⟨_,e7,_,s7' _ _ eu5,by simp; omega,λq4 hq4=>?_⟩
 have s8':=s7'.trans (ZH hq4 (.lst ([V.str "A"] ++ (ZU v ts).map V.str)))
 intro q5 H8 hq5 s8 e8
 have s9':=s8'.trans s8
 refine⟨_,s9' _ _ eu5,_,e8,by simp; omega,λq6 hq6=>?_⟩
 have s10':=s9'.trans (ZH hq6 (.lst ((ZU v ts).map V.str ++ [V.str ""])))
 refine⟨u,(ZU v ts).map V.str,rfl,.of (s10' _ _ eu5),λq7 hq7=>?_⟩
 rw [Zup,<- List.map_take]
 have s11':=s10'.trans (ZH hq7 (.lst (((ZU v ts).take 1).map V.str)))
 refine⟨q7,rfl,_,s11' _ _ eu5,_,Zi,by simp; omega,λq8 hq8=>?_⟩
 have s12':=s11'.trans (ZH hq8 (.lst ((ZU v ts).map V.str ++ ((ZU v ts).take 1).map V.str)))
 intro q9 H9 hq9 s9 e9
 refine⟨_,s9 _ _ Zi,_,e9,by simp; omega,λq10 hq10=>?_⟩
 intro q11 H10 hq11 s10 e10
 have w9:=(ZH hq10 (.lst (((ZU v ts).map V.str ++ ((ZU v ts).take 1).map V.str) ++ [V.str "qqqqqqqq"]))).trans s10
 have w8:=s9.trans w9
 have w7:=(ZH hq8 (.lst ((ZU v ts).map V.str ++ ((ZU v ts).take 1).map V.str))).trans w8
 have w6:=(ZH hq7 (.lst (((ZU v ts).take 1).map V.str))).trans w7
 have w5:=(ZH hq6 (.lst ((ZU v ts).map V.str ++ [V.str ""]))).trans w6
 have w4:=s8.trans w5
 have w3:=(ZH hq4 (.lst ([V.str "A"] ++ (ZU v ts).map V.str))).trans w4
 have w2:=s7.trans w3
 have w1:=(ZH hq2 (.lst ((ZU v ts).map V.str ++ [V.str "zzzzzzzz"]))).trans w2
 have w0:=s6.trans w1
 have hgz:∀ z∈ZU v ts,Ziu z:=λz hz=>ZiX (T.ok z (hgs z hz)).1
 have key:∃ (o:Addr) (og:List Str),atI [V.ref q2,V.ref q4,V.ref q6,V.ref q10] (v % 4)=some (.ref o)/\H10 o=some (.lst (og.map V.str))/\og.length < 50/\(∀ z∈og,Ziu z)/\¬ (og.Nodup/\∀ z∈og,Jw z/\(Jm n.2 (Sum.inr z)).isSome=true):=by
  rcases (by omega:v % 4=0\/v % 4=1\/v % 4=2\/v % 4=3) with h | h | h | h
  ·exact⟨q2,ZU v ts ++ [("zzzzzzzz":Str)],by rw [h]; rfl,by rw [List.map_append]; exact w2 _ _ Zi,by simp; omega,λz hz=>by
    rcases Yp.mp hz with hz | hz
    ·exact hgz z hz
    ·rw [List.mem_singleton.mp hz]; exact ZtX,λc=>(T.odd _ (c.2 ("zzzzzzzz":Str) (by simp)).2).1 rfl⟩
  ·exact⟨q4,[("A":Str)] ++ ZU v ts,by rw [h]; rfl,by rw [List.map_append]; exact w4 _ _ Zi,by simp; omega,λz hz=>by
    rcases Yp.mp hz with hz | hz
    ·rw [Yu.mp hz]; exact ZtO
    ·exact hgz z hz,λc=>Zjz (c.2 ("A":Str) (by simp)).1⟩
  ·exact⟨q6,ZU v ts ++ [("":Str)],by rw [h]; rfl,by rw [List.map_append]; exact w6 _ _ Zi,by simp; omega,λz hz=>by
    rcases Yp.mp hz with hz | hz
    ·exact hgz z hz
    ·rw [List.mem_singleton.mp hz]; exact Zt6,λc=>ZjL (c.2 ("":Str) (by simp)).1⟩
  ·exact⟨q10,(ZU v ts ++ (ZU v ts).take 1) ++ [("qqqqqqqq":Str)],by rw [h]; rfl,by rw [List.map_append,List.map_append]; exact s10 _ _ Zi,by simp; omega,λz hz=>by
    rcases Yp.mp hz with hz | hz
    ·rcases Yp.mp hz with hz | hz
     ·exact hgz z hz
     ·exact hgz z (List.mem_of_mem_take hz)
    ·rw [List.mem_singleton.mp hz]; exact ZtB,λc=>(T.odd _ (c.2 ("qqqqqqqq":Str) (by simp)).2).2 rfl⟩
 obtain⟨o,og,ho,eo,hol,hoa,hob⟩:=key
 refine⟨_,e10,_,ho,?_⟩
 have S10:=s15.trans w0
 subst hB
 try dsimp only
 refine Zq λB hB=>?_
 refine Jr λA0 hA0 C0 hC0=>?_
 walk_at "rd"
 refine⟨ex,a,ps,n,past,_,_,CNN,0,rfl,hS.same S10,wN,.inl ⟨rfl,λQ' E' hE=>ZfD (hS.same S10) eo hol hoa hob hE⟩,λH11 s11=>?_⟩
 refine⟨rfl,?_⟩
 rw [if_neg (λz=>z rfl)]
 have S11:=S10.trans s11
 have eu11:=(w0.trans s11) _ _ eu5
 subst hC0
 walk_at "rd"
 subst hB
 try dsimp only
 refine Zq λB hB=>?_
 refine Jr λA0 hA0 C0 hC0=>?_
 walk_at "rd"
 intro q12 H12 hq12 s12n e12
 have eu12:=s12n _ _ eu11
 have S12:=S11.trans s12n
 refine⟨_,_,u,q12,rfl,rfl,ZbY eu12 e12,by decide,_,rfl,?_⟩
 suffices kC:∀ H13,Zn H12 H13->C0 [some (V.ref a),some (V.ref p),some (V.ref d),some (V.int v),some (V.ref l),some (V.ref u),some (V.ref g),some (V.ref o),none,none,none] H13 by
  by_cases hc:(ZU v ts).length=0
  ·rw [if_neg (by simpa using hc)]
   exact kC _ λ_ _ z=>z
  ·rw [if_pos (by simpa using hc)]
   have hm0:0<=v % ((ZU v ts).length:Int):=Yv _ (by omega)
   have hm1:v % ((ZU v ts).length:Int) < ((ZU v ts).length:Int):=Yw _ (by omega)
   refine⟨_,.inl eu12,by simp; omega,u,_,rfl,.of eu12,λq13 hq13=>?_⟩
   rw [Yi,ZuL (by rw [Yi]; omega) hm0,<- List.map_drop]
   refine⟨q13,_,rfl,.of Zi,λq14 hq14=>?_⟩
   rw [Zup,<- List.map_take]
   have t13:=(ZH hq13 (.lst (((ZU v ts).drop (v % ((ZU v ts).length:Int)).toNat).map V.str))).trans (ZH hq14 (.lst ((((ZU v ts).drop (v % ((ZU v ts).length:Int)).toNat).take 1).map V.str)))
   refine⟨q14,rfl,_,t13 _ _ eu12,_,Zi,by simp; omega,λq15 hq15=>?_⟩
   have t15:=t13.trans (ZH hq15 (.lst ((ZU v ts).map V.str ++ (((ZU v ts).drop (v % ((ZU v ts).length:Int)).toNat).take 1).map V.str)))
   have S15:=S12.trans t15
   have hjl:(v % ((ZU v ts).length:Int)).toNat < (ZU v ts).length:=by omega
   refine⟨ex,a,ps,n,past,_,_,CNN,0,rfl,hS.same S15,wN,.inl ⟨rfl,λQ' E' hE=>ZfD (gs:=ZU v ts ++ ((ZU v ts).drop (v % ((ZU v ts).length:Int)).toNat).take 1) (hS.same S15) (by rw [List.map_append]; exact Zi) (by simp; omega) (λz hz=>?_) (λc=>?_) hE⟩,λH13 s13=>⟨rfl,?_⟩⟩
   ·rcases Yp.mp hz with hz | hz
    ·exact hgz z hz
    ·exact hgz z (List.mem_of_mem_drop (List.mem_of_mem_take hz))
   ·rw [VZ hjl,List.take_succ_cons] at c
    exact (List.nodup_append.mp c.1).2.2 _ (List.getElem_mem hjl) _ (by simp) rfl
   ·rw [if_neg (λz=>z rfl)]
    exact kC H13 (t15.trans s13)
 intro H13 s13n
 have S13:=S12.trans s13n
 have eu13:=s13n _ _ eu12
 have el13:H13 l=some (.lst (ts.map V.str)):=s13n _ _ (s12n _ _ (s11 _ _ (w0 _ _ (s35 _ _ (s3 _ _ (s2 _ _ e1))))))
 subst hC0
 walk_at "rd"
 subst hB
 try dsimp only
 refine Zq λB hB=>?_
 refine Jr λA0 hA0 C0 hC0=>?_
 walk_at "rd"
 have hnl:n.2.length=ts.length:=by have:=congrArg List.length T.keys; simp at this; omega
 refine⟨_,.inl el13,?_⟩
 rw [Yi]
 suffices kC:∀ H14,Zn H13 H14->C0 [some (V.ref a),some (V.ref p),some (V.ref d),some (V.int v),some (V.ref l),some (V.ref u),some (V.ref g),some (V.ref o),none,none,none] H14 by
  refine JA (λc=>?_) (λc=>kC _ λ_ _ z=>z)
  refine⟨ex,a,ps,n,past,_,_,CTM,1,rfl,hS.same S13,wM,.inr (.inl ⟨rfl,λQ' E' hE=>⟨ex,a,ps,n.1,n.2,past,rfl,hS.same S13,by omega,hE⟩⟩),λH14 s14=>⟨rfl,?_⟩⟩
  rw [if_neg (λz=>z rfl)]
  exact kC H14 s14
 intro H14 s14n
 have S14:=S13.trans s14n
 have el14:=s14n _ _ el13
 subst hC0
 walk_at "rd"
 subst hB
 try dsimp only
 refine Zq λB hB=>?_
 walk_at "rd"
 refine⟨p,d,l,rx,n.1,n.2,ts,_,rfl,S14 _ _ hp,hR.same S14,.inl (S14 _ _ hd),el14,T.hat _ hts,hrl,by omega,hT,hsz,λr8 H15 acc8 s15n hnd8 hacc8 v8=>?_⟩
 have S15:=S14.trans s15n
 have el15:=s15n _ _ el14
 subst hB
 try dsimp only
 refine Zq λB hB=>?_
 walk_at "rd"
 intro sd H16 hsd s16n e16
 have S16:=S15.trans s16n
 have el16:=s16n _ _ el15
 have v16:=v8.same s16n
 subst hB
 try dsimp only
 refine Zq λB hB=>?_
 simp only [Zb7]
 walk_at "rd"
 refine ZcV (Psh H15 ts [some (V.ref a),some (V.ref p),some (V.ref d),some (V.int v),some (V.ref l),some (V.ref u),some (V.ref g),some (V.ref o),some r8,some (V.ref sd)] sd) ⟨none,[],rfl,s16n,e16,rfl,λi z hz=>by simp at hz⟩ (λi Z H' _ ⟨_,_,_,sm,_⟩=>.of (sm _ _ el15)) (λi y Z H' hi hP=>?_) (λZ H' hP=>?_)
 ·obtain⟨o10,svs,rfl,sm,e',hv'⟩:=hP
  rw [Yh] at hi
  obtain⟨z,hz,rfl⟩:=Y9.mp hi
  walk_at "rd"
  intro pz Hz hpz sz ez
  have hne:pz ≠ sd:=λzz=>by rw [zz,e'] at hpz; cases hpz
  have hil:i < ts.length:=(Yf.mp hz).1
  refine⟨svs,sz _ _ e',Sum.inr z,rfl,by have:=hv'.1; rw [Y6] at this; omega,some (.str z),_,rfl,ZE hsd (sm.trans sz),Zi,?_⟩
  rw [YL,hz]
  refine ShV.snoc (hv'.keep λb ys eb=>?_) (λc=>?_) ⟨pz,rfl,by rw [Zj hne]; exact ez⟩
  ·rw [Zj (λzz=>by rw [zz,e'] at eb; cases eb)]
   exact sz _ _ eb
  ·obtain⟨j,hj⟩:=Y2 c
   rw [List.getElem?_take] at hj
   split at hj
   ·rename_i hji
    have:=Zpl htn hj hz
    omega
   ·cases hj
 obtain⟨o10,svs,rfl,sm,e',hv'⟩:=hP
 rw [Yi,YO] at hv'
 subst hB
 try dsimp only
 refine Zq λB hB=>?_
 refine Jr λA0 hA0 C0 hC0=>?_
 walk_at "rd"
 intro q20 H20 hq20 s20 e20
 have hq20s:q20 ≠ sd:=λzz=>by rw [zz,e'] at hq20; cases hq20
 refine⟨_,_,l,q20,rfl,rfl,ZbY (s20 _ _ (sm _ _ el15)) e20,by decide,_,rfl,?_⟩
 suffices kB:∀ H21 (svs':List (Je × V)),Zn H15 H21->H21 sd=some (.dK svs')->svs'.length<=12->n.2.length<=svs'.length->Jm svs' (Sum.inr ("zzzzzzzz":Str))=none->(∀ x d',ZO CT H21 x n.1->Rd H21 d' (.dK n.2)->Zqq H21 CT x d' sd n.2 svs')->B [some (V.ref a),some (V.ref p),some (V.ref d),some (V.int v),some (V.ref l),some (V.ref u),some (V.ref g),some (V.ref o),some r8,some (V.ref sd),o10] H21 by
  by_cases hc:ts.length=0
  ·rw [if_neg (by simpa using hc)]
   subst hC0
   walk_at "rd"
   intro pz Hz hpz sz ez
   have hs0:svs=[]:=List.eq_nil_of_length_eq_zero (by rw [hv'.1]; exact hc)
   subst hs0
   refine⟨[],sz _ _ (s20 _ _ e'),Sum.inr ("one":Str),rfl,by simp,kB _ [(Sum.inr ("one":Str),V.ref pz)] (ZE hsd (sm.trans (s20.trans sz))) Zi (by simp) (by simp; omega) rfl λx d' _ hd'=>⟨hd',.inl Zi,by omega,by simp,.inl λc=>by have:=c.1; simp at this; omega⟩⟩
  ·rw [if_pos (by simpa using hc)]
   subst hA0
   walk_at "rd"
   have v20:=v8.same (sm.trans s20)
   have hbd8:∀ k∈acc8,1<=k/\k<=n.1.length:=λk hk=>Zh7 ((hacc8 k).mp hk)
   have hal8:=ZeH hnd8 hbd8
   have z8:JN 2975 (Jp (acc8.map (ZQ n.1))):=(Zc7 hsz acc8).mono (by omega)
   have hW:∀ ks:List Nat,ks.Pairwise (· < ·)->(∀ k,k∈ks ↔ J1 n.1 (ss.map hf) k)->Zob n.1 ks=Jp (acc8.map (ZQ n.1)):=λks hpw hmem=>by
    rw [Ze6]
    refine ZeW (List.Perm.map _ ((List.perm_ext_iff_of_nodup (hpw.imp λh e=>by rw [e] at h; exact YR _ h) hnd8).mpr λk=>(hmem k).trans (Iff.trans ?_ (hacc8 k).symm)))
    exact Zml hperm
   generalize Jp (acc8.map (ZQ n.1))=W at v20 z8 hW
   obtain⟨ar,er,har⟩:=id v20
   have hWd:=W.den_pos
   refine⟨ar,er,_,har,_,rfl,_,rfl,ar,er,_,har,_,rfl,_,rfl,ar,er,_,har,_,rfl,_,rfl,_,_,rfl,Big.of (Za0 (a:=2975) (b:=2) (Jf z8) (by decide)) (by decide),by omega,λr9 H22 s22 v22=>?_⟩
   have ht0:0 < ts.length:=by omega
   have e22:=s22 _ _ (s20 _ _ e')
   refine⟨_,s22 _ _ (s20 _ _ (sm _ _ el15)),_,ZY (j:=0) (by rw [Yh,Yc ht0]; rfl),svs,e22,Sum.inr ts[0],rfl,by have:=hv'.1; omega,?_⟩
   have hv22:ShV (upd H22 sd (.dK (Jt svs (Sum.inr ts[0]) r9))) (Jt svs (Sum.inr ts[0]) r9) ts (λy=>if y=ts[0] then Rat.divInt (W.num * 3 + (W.den:Int)) ((W.den:Int) * 3) else 0):=by
    refine ShV.put (qf:=λ_=>0) (hv'.keep λb ys eb=>?_) (Yx ht0) ?_ (λy hy=>if_neg hy)
    ·rw [Zj (λzz=>by rw [zz,e'] at eb; cases eb)]
     exact s22 _ _ (s20 _ _ eb)
    ·rw [if_pos rfl]
     exact v22.keep λb ys eb=>by rw [Zj (λzz=>by rw [zz,e22] at eb; cases eb)]; exact eb
   have hl22:=hv22.1
   have hk22:=hv22.keys
   have zW:JN 4000 (Rat.divInt (W.num * 3 + (W.den:Int)) ((W.den:Int) * 3)):=JN.of (by omega) (Zbc (ZfG (c:=2977) (Za0 (a:=2975) (b:=2) z8.1 (by decide)) (Jf z8) (by decide) (by decide)) (by decide)) (Zbc (Za0 (a:=2975) (b:=2) (Jf z8) (by decide)) (by decide))
   refine kB _ _ (ZE hsd (sm.trans (s20.trans s22))) Zi (by omega) (by omega) ?_ λx d' hTx hd'=>⟨hd',.inl Zi,by omega,by omega,.inr ⟨⟨by omega,λk hk=>?_⟩,n.1,ss,ss.map hf,ts.map (λy=>if y=ts[0] then Rat.divInt (W.num * 3 + (W.den:Int)) ((W.den:Int) * 3) else 0),T.keys,hTx,T.hat ss (λ_ h=>h),by omega,hT,(λr hr=>(hsz r hr).mono (by decide)),⟨by simp [hl22],λi v' t h1 h2=>?_⟩,ZoQ (U:=(Rat.divInt (W.num * 3 + (W.den:Int)) ((W.den:Int) * 3)).den) (Rat.den_pos _) (Nat.le_of_lt zW.2) (λi t h2=>?_),λks h1 h2=>?_⟩⟩
   ·cases hz:Jm (Jt svs (Sum.inr ts[0]) r9) (Sum.inr ("zzzzzzzz":Str)) with
    | none=>rfl
    | some y =>
     have hm:=List.mem_map_of_mem (f:=(·.1)) (Zez hz)
     rw [hk22] at hm
     obtain⟨z,hz2,ez⟩:=Yk.mp hm
     injection ez with ez
     exact absurd ez (T.odd _ (T.ok _ (hts _ hz2)).2).1
   ·rw [hk22] at hk
    rw [T.keys]
    exact (hperm.map _).mem_iff.mp hk
   ·rw [Yh] at h1 h2
    obtain⟨z,hz,rfl⟩:=Y9.mp h2
    obtain⟨v'',e'',r''⟩:=hv22.2 i z hz
    rw [e''] at h1
    cases h1
    exact r''
   ·rw [Yh] at h2
    obtain⟨z,hz,rfl⟩:=Y9.mp h2
    split
    ·exact⟨Nat.dvd_refl _,zW⟩
    ·exact⟨Nat.one_dvd _,ZfQ (by decide)⟩
   ·rw [Zkp htn ht0,hW ks h1 h2]
    exact ZnX W
 intro H21 svs' S21 e21 hl21 hg21 hz21 hN21
 subst hB
 try dsimp only
 refine Zq λB hB=>?_
 refine Jr λA0 hA0 C0 hC0=>?_
 walk_at "rd"
 refine⟨ex,a,ps,n,past,_,_,CNS,2,rfl,hS.same (S15.trans S21),wS,.inr (.inr ⟨rfl,λQ' E' hE=>⟨ex,a,ps,n.1,n.2,past,sd,svs',rfl,hS.same (S15.trans S21),hN21,hE⟩⟩),λH22 s22=>⟨rfl,?_⟩⟩
 rw [if_neg (λz=>z rfl)]
 subst hC0
 walk_at "rd"
 subst hB
 try dsimp only
 walk_at "rd"
 intro q30 H23 hq30 s23 e23
 refine⟨svs',s23 _ _ (s22 _ _ e21),Sum.inr ("zzzzzzzz":Str),rfl,by omega,?_⟩
 rw [ZiP _ hz21]
 have S24:Zn H15 (upd H23 sd (.dK (svs' ++ [(Sum.inr ("zzzzzzzz":Str),V.ref q30)]))):=ZE hsd (S21.trans (s22.trans s23))
 refine⟨ex,a,ps,n,past,_,_,CNS,2,rfl,hS.same (S15.trans S24),wS,.inr (.inr ⟨rfl,λQ' E' hE=>⟨ex,a,ps,n.1,n.2,past,sd,_,rfl,hS.same (S15.trans S24),λx d' _ hd'=>⟨hd',.inl Zi,by omega,by simp; omega,.inl λc=>by have:=c.1; simp at this; omega⟩,hE⟩⟩),λH25 s25=>⟨rfl,?_⟩⟩
 rw [show decide (V.str (ZrC 2)=V.str (Str.ofString "sharing"))=true from YJ rfl]
 exact q H25 ((S15.trans S24).trans s25)
end
theorem ZM.other{CS CT C':Addr}{H H':Hp}{a ps b qs dx:Addr}{fs:List (Str × V)}{past:List JZ}(h:ZM ex CS CT H a ps rs kvs past)(hb:H b=some (.ins C' dx fs))(hf:fs.length ≠ 2)(hne:a ≠ b)(hq:qs∈ex)(k:Jx b qs H H')(hl:Zec ex H'):ZM ex CS CT H' a ps rs kvs past:=by
 obtain⟨dy,tr,ds,pv,h1,h2,h3,h4,h5,h6,h7⟩:=h
 have nb:ps ≠ b:=λz=>by rw [z,hb] at h2; cases h2
 have nq:ps ≠ qs:=λz=>h7 (z ▸ hq)
 have naq:a ≠ qs:=λz=>by obtain⟨zs,e⟩:=h6 qs hq; rw [<- z,h1] at e; cases e
 have so:Zn (del b (off ex a ps H)) (off ex a ps H'):=λc o e=>by
  obtain⟨g0,e⟩:=Zbi.mp e
  obtain⟨g1,g2,g3,g4⟩:=ZaT.mp e
  exact ZaT.mpr ⟨g1,g2,g3,k _ _ g0 (λz=>g3 (z ▸ hq)) g4⟩
 by_cases cb:b=ps\/b∈ex
 ·exfalso
  rcases cb with z | z
  ·exact nb z.symm
  ·obtain⟨zs,e⟩:=h6 b z
   rw [hb] at e
   cases e
 ·have ob:off ex a ps H b=some (.ins C' dx fs):=ZaT.mpr ⟨hne.symm,λz=>cb (.inl z),λz=>cb (.inr z),hb⟩
  have tree:∀ x r,ZO CT (off ex a ps H) x r->ZO CT (off ex a ps H') x r:=λx r hT=>(Zi5 hT ob (ZlN hT ob hf)).same so
  have oth:∀ c o,(∀ C d f,o ≠ .ins C d f)->off ex a ps H c=some o->off ex a ps H' c=some o:=λc o no e=>so _ _ (Zbi.mpr ⟨λz=>by rw [z,ob] at e; cases e; exact no _ _ _ rfl,e⟩)
  exact⟨dy,tr,ds,pv,k _ _ hne naq h1,k _ _ nb nq h2,tree _ _ h3,oth _ _ (λ_ _ _ z=>by cases z) h4,h5.mono λv m ⟨p,t2,d2,e,g1,g2,g3⟩=>⟨p,t2,d2,e,oth _ _ (λ_ _ _ z=>by cases z) g1,tree _ _ g2,oth _ _ (λ_ _ _ z=>by cases z) g3⟩,hl,h7⟩
def Zg0{CS CT:Addr}{H G:Hp}{a ps ds dx:Addr}{tr:V}(h1:H a=some (.ins CS dx [("land",tr),("places",.ref ds),("past",.ref ps)]))(h2:H ps=some (.lst []))(h4:H ds=some (.dK []))(hT:ZO CT G tr rs)(hG:∀ b o,G b=some o->b ≠ a/\b ≠ ps/\b ∉ ex/\H b=some o)(hx:Zec ex H)(hp:ps ∉ ex):ZM ex CS CT H a ps rs [] [] :=
 ⟨dx,tr,ds,[],h1,h2,hT.same λb o e=>ZaT.mpr (hG b o e),ZaT.mpr ⟨λz=>(by rw [z,h1] at h4; cases h4),λz=>(by rw [z,h2] at h4; cases h4),λz=>(by obtain⟨zs,e⟩:=hx _ z; rw [h4] at e; cases e),h4⟩,⟨rfl,λi x n g1 g2=>by simp at g1⟩,hx,hp⟩
structure Two(CS CT st:Addr)(a ps:Bool->Addr)(O0:Hp)(i:Nat)(t p d:Bool->Addr)(rx:Bool->List V)(n:Bool->JZ)(past:Bool->List JZ)(H:Hp):Prop where
 sh:∀ b,ZM [ps (!b),st] CS CT H (a b) (ps b) (n b).1 (n b).2 (past b)
 old:Zn O0 (JK [a false,a true,ps false,ps true,st] H)
 tup:∀ b,JK [a false,a true,ps false,ps true,st] H (t b)=some (.tup [.ref (p b),.ref (d b)])
 rds:∀ b,JK [a false,a true,ps false,ps true,st] H (p b)=some (.lst (rx b))
 rdv:∀ b,ZS (JK [a false,a true,ps false,ps true,st] H) (rx b) (n b).1
 hom:∀ b,JK [a false,a true,ps false,ps true,st] H (d b)=some (.dK (n b).2)
 ok:∀ b,ZeD (3 + i) (n b)
 hm:∀ b,Zqk (n b)
 pl:∀ b,(past b).length<=i
 stv:H st=some (.lst [.ref (t false),.ref (t true)])
theorem Two.same{CS CT st:Addr}{a ps:Bool->Addr}{O0:Hp}{t p d:Bool->Addr}{rx:Bool->List V}{n:Bool->JZ}{past:Bool->List JZ}{H H':Hp}(T:Two CS CT st a ps O0 i t p d rx n past H)(s:Zn H H'):Two CS CT st a ps O0 i t p d rx n past H':=by
 have kd:Zn (JK [a false,a true,ps false,ps true,st] H) (JK [a false,a true,ps false,ps true,st] H'):=λc o e=>let ⟨g1,g2⟩:=Zz.mp e; Zz.mpr ⟨g1,s _ _ g2⟩
 exact⟨λb=>(T.sh b).same s,T.old.trans kd,λb=>kd _ _ (T.tup b),λb=>kd _ _ (T.rds b),λb=>(T.rdv b).same kd,λb=>kd _ _ (T.hom b),T.ok,T.hm,T.pl,s _ _ T.stv⟩
def ZuS(CS CT s0 p0 tf sh st:Addr)(a ps:Bool->Addr)(O0:Hp)(i:Nat)(Z:L2.St)(H:Hp):Prop:=∃ (t p d:Bool->Addr) (rx:Bool->List V) (n:Bool->JZ) (past:Bool->List JZ) (os:List (Option V)),Z=[some (V.ref s0),some (V.ref p0),some (V.ref tf),some (V.ref sh),some (V.ref st)] ++ os/\os.length=5/\Two CS CT st a ps O0 i t p d rx n past H
section
variable {P:Program}{w:World}{K:PySem.W.Frag}{mg:Str->Option Value}{base:Heap}{f:Addr}{fd:FuncData}{CT CNP CS:Addr}
def Zk8(K:PySem.W.Frag):Sp:=λvs H Q _=>∃ (a:Addr) (ns:List Int),vs=[.ref a]/\JY K H a (ns.map V.int)/\(∀ n∈ns,Zm8 n)/\∀ H',Q (.bl true) H'
def ZsN(F:Fun K "law" "law" ZfV f fd)(Jg:mg "list"=none)(ZB:mg "len"=none)(Jk:mg "range"=none)(Zf3:mg "max"=none)(ZjP:mg "min"=none)(Zby:Fn P w K mg base Zx 1 "_law_cell_at" ["_law_script","_law_k"] (Zmf K))
  (Zb3:Fn P w K mg base Zx 4 "_law_roads_by" ["_law_cell","_law_most"] ZgG) (Za3:Fn P w K mg base Zx 2 "_law_numbers" ["_law_cell","_law_many"] Zcg) (Zcq:Fn P w K mg base Zx 3 "_law_deed_by" ["_law_v","_law_roads","_law_homes","_law_k"] Zg2) (Zgz:Fn P w K mg base Zx 10 "_law_do" ["_law_shire","_law_deed"] (Zpx CS CT)) (ZdY:Fn P w K mg base Zx 3 "_law_done" ["_law_deed","_law_roads","_law_homes"] ZkN) (Zdj:Fn P w K mg base Zx 11 "_law_asked" ["_law_shire","_law_roads","_law_homes","_law_v"] (ZiJ CS CT))
  (ZcG:Fn P w K mg base Zx 2 "_law_stands" ["_law_shire","_law_roads","_law_homes"] (Zhh CS CT)) (Zdy:Mkr P w K mg base Zx 6 CT "Tree" ["self","roads"] (ZeI CT)) (Zgk:Mkr P w K mg base Zx 1 CS "Shire" ["self","tree"] (Zjr CS))
  (Zbt:Mth P w K mg base Zx 1 CT "roads" ["self"] (ZcB CT)):FnOk P w K mg base Zx 13 f fd ["_law_script"] (Zk8 K):=by
 refine JP F Zc1 λcdv A outer s H vs Q E hr h=>?_
 obtain⟨s0,ns,rfl,hS,hF,q⟩:=h
 refine⟨_,(Zd (Zw 1 Zc1.nd (JB Zb3 hr (Zl (JB Zby hr (Zl (Zf 0) (Zl Zc Zb))) (Zl Zc Zb))))
   (Zd (Zw 2 Zc1.nd (ZgO Zdy hr (by decide) rfl (Zl (ZfL rfl Jg (Zl (Zf 1) Zb)) Zb)))
   (Zd (Zw 3 Zc1.nd (Jz (Zl (ZgO Zgk hr (by decide) rfl (Zl (Zf 2) Zb)) (Zl (ZgO Zgk hr (by decide) rfl (Zl (Zf 2) Zb)) Zb))))
   (Zd (Zw 4 Zc1.nd (Jz (Zl (Jv (Zl (Zf 1) (Zl Zhs Zb))) (Zl (Jv (Zl (Zf 1) (Zl Zhs Zb))) Zb))))
   (Zd (ZdW YD (Zpi rfl Jk (Zl Zc (Zl (ZpE rfl Zf3 (Zl Zc (Zl (ZrB rfl ZjP (Zl (Zpw rfl ZB (Zl (Zf 0) Zb)) (Zl Zc Zb))) Zb))) Zb))) (Jq 5 Zc1.nd) (Zd (Zw 6 Zc1.nd (JB Za3 hr (Zl (JB Zby hr (Zl (Zf 0) (Zl (Zf 5) Zb))) (Zl Zc Zb))))
   (Zd (Zw 7 Zc1.nd (Zfa (Z4 (ZT (Zf 6) Zc) Zc) Zc))
   (Zd (Zw 8 Zc1.nd (JB Zcq hr (Zl (Zf 6) (Zl (Zr (ZT (Zf 4) (Zf 7)) Zc) (Zl (Zr (ZT (Zf 4) (Zf 7)) Zc) (Zl (Zf 5) Zb))))))
   (Zd (ZR (JB Zgz hr (Zl (ZT (Zf 3) (Zf 7)) (Zl (Zf 8) Zb))))
   (Zd (Zj9 (JB ZdY hr (Zl (Zf 8) (Zl (Zr (ZT (Zf 4) (Zf 7)) Zc) (Zl (Zr (ZT (Zf 4) (Zf 7)) Zc) Zb)))) (ZlW (Zf 4) (Zf 7)))
   (Zk (ZdW YD (Zfo rfl Jk (Zl Zc Zb)) (Jq 9 Zc1.nd) (Zd (Ja (JO (JD (JB Zdj hr (Zl (ZT (Zf 3) (Zf 9)) (Zl (Zr (ZT (Zf 4) (Zf 9)) Zc) (Zl (Zr (ZT (Zf 4) (Zf 9)) Zc) (Zl (ZT (Zf 6) Zc) Zb))))))) (Zk (Zu Zh5)) ZG)
   (Zk (Ja (JO (JD (JB ZcG hr (Zl (ZT (Zf 3) (Zf 9)) (Zl (Zr (ZT (Zf 4) (Zf 9)) Zc) (Zl (Zr (ZT (Zf 4) (Zf 9)) Zc) Zb)))))) (Zk (Zu Zh5)) ZG)))))))))))
   (Zk (Zu (ZrY hr (ZbT Zbt hr (by decide) (Zf 2)) (Zf 1))))))))),?_⟩
 rw [show Zv ["_law_script","_law_first","_law_tree","_law_shires","_law_stands_here","_law_k","_law_v","_law_which","_law_deed","_law_j"] [.ref s0]=[some (.ref s0),none,none,none,none,none,none,none,none,none] from rfl]
 refine Zq λB hB=>?_
 walk_at "rd"
 refine⟨s0,ns,0,rfl,hS,_,_,rfl,Zm2 hF 0 (by decide),by decide,by decide,λp H1 rx rs hp s1 e1 hR hT hl hn=>?_⟩
 subst hB
 try dsimp only
 refine Zq λB hB=>?_
 walk_at "rd"
 refine⟨p,rx,rfl,.inl (.of e1),λl2 H2 hl2 s2 e2 tf dt htf hdt hne=>?_⟩
 have old:∀ b o,H2 b=some o->upd (upd H2 dt (.own tf)) tf (.ins CT dt []) b=some o:=λb o e=>by rw [Zj (Zo e htf),Zj (Zo e hdt)]; exact e
 refine⟨tf,dt,l2,rx,rs,rfl,Zi,old _ _ e2,(hR.same s2).keep λb ys e=>old b _ e,hT,by omega,λr hr=>(hn r hr).2,λH3 k3 hT3 _=>⟨rfl,?_⟩⟩
 have s3:Zn H2 H3:=λb o e=>k3 b o (Zo e htf) (old b o e)
 clear old k3
 have s13:=s2.trans s3
 subst hB
 try dsimp only
 refine Zq λB hB=>?_
 walk_at "rd"
 intro a0 da ha hda hne2
 have old:∀ b o,H3 b=some o->upd (upd H3 da (.own a0)) a0 (.ins CS da []) b=some o:=λb o e=>by rw [Zj (Zo e ha),Zj (Zo e hda)]; exact e
 refine⟨a0,da,.ref tf,rfl,Zi,λH4 ps0 ds0 k4 hps hds0 i4 p4 d4=>⟨rfl,?_⟩⟩
 have s4:Zn H3 H4:=λb o e=>k4 b o (Zo e ha) (old b o e)
 have hps3:H3 ps0=none:=by
  cases z:H3 ps0 with
  | none=>rfl
  | some o=>rw [old _ _ z] at hps; cases hps
 clear old k4
 intro a1 db hb hdb hne3
 have old:∀ b o,H4 b=some o->upd (upd H4 db (.own a1)) a1 (.ins CS db []) b=some o:=λb o e=>by rw [Zj (Zo e hb),Zj (Zo e hdb)]; exact e
 refine⟨a1,db,.ref tf,rfl,Zi,λH5 ps1 ds1 k5 hps1 hds1 i5 p5 d5=>⟨rfl,?_⟩⟩
 have s5:Zn H4 H5:=λb o e=>k5 b o (Zo e hb) (old b o e)
 have hps4:H4 ps1=none:=by
  cases z:H4 ps1 with
  | none=>rfl
  | some o=>rw [old _ _ z] at hps1; cases hps1
 clear old k5
 intro sh H6 hsh s6 e6
 subst hB
 try dsimp only
 refine Zq λB hB=>?_
 walk_at "rd"
 intro d0 H7 hd0 s7 e7 t0 H8 ht0 s8 e8 d1 H9 hd1 s9 e9 t1 H10 ht1 s10 e10 st H11 hst s11 e11
 have s511:Zn H5 H11:=s6.trans (s7.trans (s8.trans (s9.trans (s10.trans s11))))
 have s311:Zn H3 H11:=s4.trans (s5.trans s511)
 have hst3:H3 st=none:=(s4.trans (s5.trans (s6.trans (s7.trans (s8.trans (s9.trans s10)))))).free hst
 have hp31:H3 ps1=none:=s4.free hps4
 have hb3:H3 a1=none:=s4.free hb
 have S0:ZM [ps1,st] CS CT H11 a0 ps0 rs [] []:=Zg0 ((s5.trans s511) _ _ i4) ((s5.trans s511) _ _ p4) ((s5.trans s511) _ _ d4) hT3 (λb o e=>⟨Zo e ha,Zo e hps3,λz=>by
   rcases Yl.mp z with z | z
   ·exact Zo e hp31 z
   ·exact Zo e hst3 (Yu.mp z),s311 _ _ e⟩) (λl hl=>by
   rcases Yl.mp hl with z | z
   ·rw [z]; exact⟨_,s511 _ _ p5⟩
   ·rw [Yu.mp z]; exact⟨_,e11⟩) (λz=>by
   rcases Yl.mp z with z | z
   ·rw [z,hps4] at p4; cases p4
   ·rw [Yu.mp z] at p4
    rw [(s5.trans (s6.trans (s7.trans (s8.trans (s9.trans s10))))) _ _ p4] at hst; cases hst)
 have S1:ZM [ps0,st] CS CT H11 a1 ps1 rs [] []:=Zg0 (s511 _ _ i5) (s511 _ _ p5) (s511 _ _ d5) hT3 (λb o e=>⟨Zo e hb3,Zo e hp31,λz=>by
   rcases Yl.mp z with z | z
   ·exact Zo e hps3 z
   ·exact Zo e hst3 (Yu.mp z),s311 _ _ e⟩) (λl hl=>by
   rcases Yl.mp hl with z | z
   ·rw [z]; exact⟨_,(s5.trans s511) _ _ p4⟩
   ·rw [Yu.mp z]; exact⟨_,e11⟩) (λz=>by
   rcases Yl.mp z with z | z
   ·rw [<- z,hps4] at p4; cases p4
   ·rw [Yu.mp z] at p5
    rw [(s6.trans (s7.trans (s8.trans (s9.trans s10)))) _ _ p5] at hst; cases hst)
 subst hB
 try dsimp only
 refine Zq λB hB=>?_
 rw [ZgL]
 walk_at "rd"
 have oS:JY K H11 s0 (ns.map V.int):=(s1.trans (s13.trans s311)).seq hS
 refine⟨_,.inl oS,?_⟩
 obtain⟨M,eM,hM⟩:∃ M:Int,(if 6 < if 13 < ((List.map V.int ns).length:Int) then 13 else ((List.map V.int ns).length:Int) then (if 13 < ((List.map V.int ns).length:Int) then 13 else ((List.map V.int ns).length:Int)) else 6)=M/\6<=M/\M<=13:=⟨_,rfl,by (repeat' split) <;> omega,by (repeat' split) <;> omega⟩
 rw [eM]
 refine⟨by omega,by omega,?_⟩
 obtain⟨_,_,_,_,u1,u2,_⟩:=id S0
 obtain⟨_,_,_,_,u3,u4,_⟩:=id S1
 have ol:∀ c o,H11 c=some o->(∀ C d f,o ≠ .ins C d f)->(∀ zs,o ≠ .lst zs)->JK [a0,a1,ps0,ps1,st] H11 c=some o:=λc o e n1 n2=>Zz.mpr ⟨λz=>by
  simp only [List.mem_cons,List.not_mem_nil,or_false] at z
  rcases z with z | z | z | z | z
  ·rw [z,u1] at e; cases e; exact n1 _ _ _ rfl
  ·rw [z,u3] at e; cases e; exact n1 _ _ _ rfl
  ·rw [z,u2] at e; cases e; exact n2 _ rfl
  ·rw [z,u4] at e; cases e; exact n2 _ rfl
  ·rw [z,e11] at e; cases e; exact n2 _ rfl,e⟩
 have o3:Zn H3 (JK [a0,a1,ps0,ps1,st] H11):=λc o e=>Zz.mpr ⟨λz=>by
  simp only [List.mem_cons,List.not_mem_nil,or_false] at z
  rcases z with z | z | z | z | z
  ·exact Zo e ha z
  ·exact Zo e hb3 z
  ·exact Zo e hps3 z
  ·exact Zo e hp31 z
  ·exact Zo e hst3 z,s311 _ _ e⟩
 have osh:JK [a0,a1,ps0,ps1,st] H11 sh=some (.lst [V.ref a0,V.ref a1]):=by
  refine Zz.mpr ⟨λz=>?_,(s7.trans (s8.trans (s9.trans (s10.trans s11)))) _ _ e6⟩
  simp only [List.mem_cons,List.not_mem_nil,or_false] at z
  rcases z with z | z | z | z | z
  ·rw [z,s5 _ _ i4] at hsh; cases hsh
  ·rw [z,i5] at hsh; cases hsh
  ·rw [z,s5 _ _ p4] at hsh; cases hsh
  ·rw [z,p5] at hsh; cases hsh
  ·rw [<- z,(s7.trans (s8.trans (s9.trans s10))) _ _ e6] at hst; cases hst
 have T0:Two CS CT st (λb=>cond b a1 a0) (λb=>cond b ps1 ps0) (JK [a0,a1,ps0,ps1,st] H11) 0 (λb=>cond b t1 t0) (λ_=>p) (λb=>cond b d1 d0) (λ_=>rx) (λ_=>(rs,[])) (λ_=>[]) H11:=by
  refine⟨λb=>?_,λ_ _ e=>e,λb=>?_,λ_=>o3 _ _ (s13 _ _ e1),λ_=>hR.same (s13.trans o3),λb=>?_,λ_=>⟨⟨hT,hl,hn⟩,by simp,by simp,λkv hk=>by simp at hk⟩,λ_ kv hk=>by simp at hk,λ_=>Nat.le_refl _,e11⟩
  ·cases b with
   | false=>exact S0
   | true=>exact S1
  ·cases b with
   | false=>exact ol _ _ ((s9.trans (s10.trans s11)) _ _ e8) (λ_ _ _ z=>by cases z) (λ_ z=>by cases z)
   | true=>exact ol _ _ (s11 _ _ e10) (λ_ _ _ z=>by cases z) (λ_ z=>by cases z)
  ·cases b with
   | false=>exact ol _ _ ((s8.trans (s9.trans (s10.trans s11))) _ _ e7) (λ_ _ _ z=>by cases z) (λ_ z=>by cases z)
   | true=>exact ol _ _ ((s10.trans s11) _ _ e9) (λ_ _ _ z=>by cases z) (λ_ z=>by cases z)
 refine Zep (ZuS CS CT s0 p tf sh st (λb=>cond b a1 a0) (λb=>cond b ps1 ps0) (JK [a0,a1,ps0,ps1,st] H11)) ⟨_,_,_,_,_,_,[none,none,none,none,none],rfl,rfl,T0⟩ (λi Z H12 hi hP=>?_) (λZ H12 hP=>?_)
 ·obtain⟨t,p2,d,rx2,n,past,os,rfl,hos,T⟩:=hP
  obtain⟨o5,o6,o7,o8,o9,rfl⟩:∃ o5 o6 o7 o8 o9,os=[o5,o6,o7,o8,o9]:=by
   match os,hos with
   | [o5,o6,o7,o8,o9],_=>exact⟨_,_,_,_,_,rfl⟩
  have hi13:3 + i < 13:=by omega
  have ek:(3:Int) + (i:Int)=((3 + i:Nat):Int):=by omega
  rw [ek]
  have s12:Zn H3 H12:=λc o e=>(Zz.mp (T.old _ _ (o3 _ _ e))).2
  refine Zq λB hB=>?_
  walk_at "rd"
  refine⟨s0,ns,3 + i,rfl,s12.seq ((s1.trans s13).seq hS),_,_,rfl,by decide,by decide,λpv H13 xs hpv s13n e13 hxl hxb=>?_⟩
  have hxl5:xs.length=5:=by omega
  have at_:∀ {j:Nat}(h:j < xs.length),atI (xs.map V.int) (j:Int)=some (.int xs[j]):=λ{j} h=>ZY (by rw [Yh,Yc h]; rfl)
  have b4:=hxb xs[4] (Yx (by omega))
  have b3:=hxb xs[3] (Yx (by omega))
  subst hB
  try dsimp only
  refine Zq λB hB=>?_
  walk_at "rd"
  obtain⟨wb,hwb⟩:∃ wb:Bool,xs[4] % 5 / 3=cond wb 1 0:=by
   rcases (by omega:xs[4] % 5 / 3=0\/xs[4] % 5 / 3=1) with h | h
   ·exact⟨false,h⟩
   ·exact⟨true,h⟩
  refine⟨_,e13,_,at_ (j:=4) (by omega),_,rfl,?_⟩
  rw [hwb]
  have atb:∀ x:Bool->V,atI [x false,x true] (cond wb 1 0)=some (x wb):=λx=>by cases wb <;> rfl
  have sub:∀ {c:Addr}{o:HO},JK [a0,a1,ps0,ps1,st] H12 c=some o->H13 c=some o:=λe=>s13n _ _ (Zz.mp e).2
  have subS:Zn (JK [a0,a1,ps0,ps1,st] H12) H13:=λ_ _ e=>sub e
  subst hB
  try dsimp only
  refine Zq λB hB=>?_
  walk_at "rd"
  refine⟨_,s13n _ _ T.stv,_,atb (λb=>V.ref (t b)),t wb,rfl,_,sub (T.tup wb),_,rfl,_,s13n _ _ T.stv,_,atb (λb=>V.ref (t b)),t wb,rfl,_,sub (T.tup wb),_,rfl,pv,p2 wb,d wb,xs,rx2 wb,n wb,3 + i,rfl,e13,hxl5,hxb,sub (T.rds wb),(T.rdv wb).same subS,sub (T.hom wb),T.ok wb,by omega,λx dd H14 s14 hD hO=>?_⟩
  have s1214:=s13n.trans s14
  subst hB
  try dsimp only
  refine Zq λB hB=>?_
  walk_at "rd"
  have kd:∀ {X Y:Hp},Zn X Y->Zn (JK [a0,a1,ps0,ps1,st] X) (JK [a0,a1,ps0,ps1,st] Y):=λs c o e=>let ⟨g1,g2⟩:=Zz.mp e; Zz.mpr ⟨g1,s _ _ g2⟩
  refine⟨_,s14 _ _ (sub (T.old _ _ osh)),_,atb (λb=>V.ref (cond b a1 a0)),[cond (!wb) ps1 ps0,st],cond wb a1 a0,cond wb ps1 ps0,x,n wb,past wb,dd,3 + i,rfl,(T.sh wb).same s1214,by have:=T.pl wb; omega,hD,T.ok wb,by omega,hO,λH15 k15 hS15=>?_⟩
  have kx:Zn (JK [a0,a1,ps0,ps1,st] H14) (JK [a0,a1,ps0,ps1,st] H15):=λc o e=>by
   obtain⟨g1,g2⟩:=Zz.mp e
   refine Zz.mpr ⟨g1,k15 _ _ (λz=>g1 ?_) (λz=>g1 ?_) g2⟩
   ·rw [z]; cases wb <;> simp
   ·rw [z]; cases wb <;> simp
  have D15:=(kd s1214).trans kx
  have sub15:Zn (JK [a0,a1,ps0,ps1,st] H15) H15:=λ_ _ e=>(Zz.mp e).2
  subst hB
  try dsimp only
  refine Zq λB hB=>?_
  walk_at "rd"
  obtain⟨_,_,_,_,y1,y2,_,_,_,y6,y7⟩:=id ((T.sh wb).same s1214)
  have nst:st ≠ cond wb a1 a0:=λz=>by rw [<- z,s1214 _ _ T.stv] at y1; cases y1
  have nsp:st ≠ cond wb ps1 ps0:=λz=>y7 (by rw [<- z]; simp)
  have est15:=k15 _ _ nst nsp (s1214 _ _ T.stv)
  have hD15:Zhd H15 x dd:=hD.keep λb ys e=>k15 _ _ (λz=>by rw [z,y1] at e; cases e) (λz=>by rw [z,y2] at e; cases e) e
  have S15':=D15.trans sub15
  refine⟨_,est15,_,atb (λb=>V.ref (t b)),t wb,rfl,_,S15' _ _ (T.tup wb),_,rfl,_,est15,_,atb (λb=>V.ref (t b)),t wb,rfl,_,S15' _ _ (T.tup wb),_,rfl,x,p2 wb,d wb,rx2 wb,dd,n wb,3 + i,rfl,hD15,S15' _ _ (T.rds wb),(T.rdv wb).same S15',S15' _ _ (T.hom wb),T.ok wb,by omega,hO,λt' p' d' rx' H16 ht' hp' hd' s16 et' ep' eR' ed'=>⟨_,s16 _ _ est15,wb.toNat,by cases wb <;> rfl,?_⟩⟩
  have nab:∀ b,b ≠ wb->cond b a1 a0 ≠ cond wb a1 a0:=λb hbw=>by
   have h01:a0 ≠ a1:=Zo i4 hb
   cases b <;> cases wb <;> first | exact absurd rfl hbw | exact h01 | exact h01.symm
  have k16:Zn (JK [a0,a1,ps0,ps1,st] H15) (JK [a0,a1,ps0,ps1,st] (upd H16 st (HO.lst ([V.ref (t false),V.ref (t true)].set wb.toNat (V.ref t'))))):=λc o e=>by
   obtain⟨g1,g2⟩:=Zz.mp e
   refine Zz.mpr ⟨g1,?_⟩
   rw [Zj (λz=>g1 (by rw [z]; simp))]
   exact s16 _ _ g2
  have D17:=D15.trans k16
  have sh15:∀ b,ZM [cond (!b) ps1 ps0,st] CS CT H15 (cond b a1 a0) (cond b ps1 ps0) (if b=wb then done dd (n wb) else n b).1 (if b=wb then done dd (n wb) else n b).2 (if b=wb then past wb ++ [n wb] else past b):=λb=>by
   by_cases c:b=wb
   ·subst c
    rw [if_pos rfl,if_pos rfl]
    exact hS15
   ·rw [if_neg c,if_neg c]
    have hw:(!b)=wb:=by cases b <;> cases wb <;> first | rfl | exact absurd rfl c
    refine ZM.other ((T.sh b).same s1214) y1 (by simp) (nab b c) (by rw [hw]; simp) k15 (λl hl=>?_)
    rcases Yl.mp hl with z | z
    ·obtain⟨_,_,_,_,_,v2,_⟩:=id hS15
     rw [z,hw]
     exact⟨_,v2⟩
    ·rw [Yu.mp z]
     exact⟨_,est15⟩
  obtain⟨_,_,_,_,r1,r2,_⟩:=id (sh15 false)
  obtain⟨_,_,_,_,r3,r4,_⟩:=id (sh15 true)
  have nw:∀ {c:Addr}{o:HO},H15 c=none->H16 c=some o->JK [a0,a1,ps0,ps1,st] (upd H16 st (HO.lst ([V.ref (t false),V.ref (t true)].set wb.toNat (V.ref t')))) c=some o:=λ{c o} e1 e2=>by
   have ns:c ≠ st:=λz=>by rw [z,est15] at e1; cases e1
   refine Zz.mpr ⟨λz=>?_,by rw [Zj ns]; exact e2⟩
   simp only [List.mem_cons,List.not_mem_nil,or_false] at z
   rcases z with z | z | z | z | z
   ·rw [z] at e1; exact nomatch r1.symm.trans e1
   ·rw [z] at e1; exact nomatch r3.symm.trans e1
   ·rw [z] at e1; exact nomatch r2.symm.trans e1
   ·rw [z] at e1; exact nomatch r4.symm.trans e1
   ·exact ns z
  have tp:∀ c ys,H16 c=some (.tup ys)->JK [a0,a1,ps0,ps1,st] (upd H16 st (HO.lst ([V.ref (t false),V.ref (t true)].set wb.toNat (V.ref t')))) c=some (.tup ys):=λc ys e=>by
   have ns:c ≠ st:=λz=>by rw [z,s16 _ _ est15] at e; cases e
   refine Zz.mpr ⟨λz=>?_,by rw [Zj ns]; exact e⟩
   simp only [List.mem_cons,List.not_mem_nil,or_false] at z
   rcases z with z | z | z | z | z
   ·rw [z] at e; exact nomatch (s16 _ _ r1).symm.trans e
   ·rw [z] at e; exact nomatch (s16 _ _ r3).symm.trans e
   ·rw [z] at e; exact nomatch (s16 _ _ r2).symm.trans e
   ·rw [z] at e; exact nomatch (s16 _ _ r4).symm.trans e
   ·exact ns z
  have T17:Two CS CT st (λb=>cond b a1 a0) (λb=>cond b ps1 ps0) (JK [a0,a1,ps0,ps1,st] H11) (i + 1) (λb=>if b=wb then t' else t b) (λb=>if b=wb then p' else p2 b) (λb=>if b=wb then d' else d b) (λb=>if b=wb then rx' else rx2 b) (λb=>if b=wb then done dd (n wb) else n b) (λb=>if b=wb then past wb ++ [n wb] else past b) (upd H16 st (HO.lst ([V.ref (t false),V.ref (t true)].set wb.toNat (V.ref t')))):=by
   refine⟨λb=>((sh15 b).same s16).updx (by simp),T.old.trans D17,λb=>?_,λb=>?_,λb=>?_,λb=>?_,λb=>?_,λb=>?_,λb=>?_,?_⟩
   ·by_cases c:b=wb
    ·simp only [if_pos c]; exact nw ht' et'
    ·simp only [if_neg c]; exact D17 _ _ (T.tup b)
   ·by_cases c:b=wb
    ·simp only [if_pos c]; exact nw hp' ep'
    ·simp only [if_neg c]; exact D17 _ _ (T.rds b)
   ·by_cases c:b=wb
    ·simp only [if_pos c]; exact eR'.keep tp
    ·simp only [if_neg c]; exact (T.rdv b).same D17
   ·by_cases c:b=wb
    ·simp only [if_pos c]; exact nw hd' ed'
    ·simp only [if_neg c]; exact D17 _ _ (T.hom b)
   ·by_cases c:b=wb
    ·simp only [if_pos c]; exact ZkT (i:=3 + i) (by omega) (T.ok wb) hO
    ·simp only [if_neg c]; exact (T.ok b).up
   ·by_cases c:b=wb
    ·simp only [if_pos c]; exact ZqK (T.hm wb) hO
    ·simp only [if_neg c]; exact T.hm b
   ·by_cases c:b=wb
    ·simp only [if_pos c]; have:=T.pl wb; simp; omega
    ·simp only [if_neg c]; have:=T.pl b; omega
   ·rw [Zi]; cases wb <;> rfl
  have npv:pv ≠ cond wb a1 a0/\pv ≠ cond wb ps1 ps0/\pv ≠ st:=by
   obtain⟨_,_,_,_,w1,w2,_⟩:=id (T.sh wb)
   refine⟨λz=>?_,λz=>?_,λz=>?_⟩
   ·rw [z] at hpv; exact nomatch w1.symm.trans hpv
   ·rw [z] at hpv; exact nomatch w2.symm.trans hpv
   ·rw [z] at hpv; exact nomatch T.stv.symm.trans hpv
  have epv:(upd H16 st (HO.lst ([V.ref (t false),V.ref (t true)].set wb.toNat (V.ref t')))) pv=some (.lst (xs.map V.int)):=by
   rw [Zj npv.2.2]
   exact s16 _ _ (k15 _ _ npv.1 npv.2.1 (s14 _ _ e13))
  generalize hG1:(λb=>if b=wb then t' else t b)=t2 at T17
  generalize hG2:(λb=>if b=wb then p' else p2 b)=p3 at T17
  generalize hG3:(λb=>if b=wb then d' else d b)=d2 at T17
  generalize hG4:(λb=>if b=wb then rx' else rx2 b)=rx3 at T17
  generalize hG5:(λb=>if b=wb then done dd (n wb) else n b)=n2 at T17
  generalize hG6:(λb=>if b=wb then past wb ++ [n wb] else past b)=past2 at T17
  generalize hG7:upd H16 st (HO.lst ([V.ref (t false),V.ref (t true)].set wb.toNat (V.ref t')))=H17 at T17 epv ⊢
  subst hB
  try dsimp only
  rw [ZeU]
  walk_at "rd"
  refine Zep (λj Z H'=>∃ o9,Z=[some (V.ref s0),some (V.ref p),some (V.ref tf),some (V.ref sh),some (V.ref st),some (V.int ((3 + i:Nat):Int)),some (V.ref pv),some (V.int (cond wb 1 0)),some x,o9]/\Zn H17 H') ⟨_,rfl,λ_ _ e=>e⟩ (λj Z H18 hj hP=>?_) (λZ H18 hP=>?_)
  ·obtain⟨o,rfl,s18⟩:=hP
   have T18:=T17.same s18
   obtain⟨jb,ej⟩:∃ jb:Bool,(0:Int) + (j:Int)=cond jb 1 0:=by
    rcases (by omega:j=0\/j=1) with h | h
    ·exact⟨false,by rw [h]; rfl⟩
    ·exact⟨true,by rw [h]; rfl⟩
   rw [ej]
   have atj:∀ x:Bool->V,atI [x false,x true] (cond jb 1 0)=some (x jb):=λx=>by cases jb <;> rfl
   have sub18:∀ {c:Addr}{o:HO},JK [a0,a1,ps0,ps1,st] H18 c=some o->H18 c=some o:=λe=>(Zz.mp e).2
   refine Zq λB hB=>?_
   refine Jr λA0 hA0 C0 hC0=>?_
   walk_at "rd"
   have hn18:(n2 jb).1.length<=30:=by have:=(T18.ok jb).1.2.1; omega
   refine⟨_,sub18 (T18.old _ _ osh),_,atj (λb=>V.ref (cond b a1 a0)),_,T18.stv,_,atj (λb=>V.ref (t2 b)),t2 jb,rfl,_,sub18 (T18.tup jb),_,rfl,_,T18.stv,_,atj (λb=>V.ref (t2 b)),t2 jb,rfl,_,sub18 (T18.tup jb),_,rfl,_,s18 _ _ epv,_,at_ (j:=3) (by omega),[cond (!jb) ps1 ps0,st],cond jb a1 a0,cond jb ps1 ps0,p3 jb,d2 jb,rx3 jb,n2 jb,past2 jb,3 + (i + 1),xs[3],rfl,T18.sh jb,sub18 (T18.rds jb),(T18.rdv jb).same λ_ _ e=>sub18 e,sub18 (T18.hom jb),T18.ok jb,T18.hm jb,b3.1,b3.2,hn18,λH19 s19=>⟨true,rfl,?_⟩⟩
   rw [if_neg (by decide)]
   subst hC0
   walk_at "rd"
   subst hB
   have T19:=T18.same s19
   have sub19:∀ {c:Addr}{o:HO},JK [a0,a1,ps0,ps1,st] H19 c=some o->H19 c=some o:=λe=>(Zz.mp e).2
   try dsimp only
   walk_at "rd"
   refine⟨_,sub19 (T19.old _ _ osh),_,atj (λb=>V.ref (cond b a1 a0)),_,T19.stv,_,atj (λb=>V.ref (t2 b)),t2 jb,rfl,_,sub19 (T19.tup jb),_,rfl,_,T19.stv,_,atj (λb=>V.ref (t2 b)),t2 jb,rfl,_,sub19 (T19.tup jb),_,rfl,[cond (!jb) ps1 ps0,st],cond jb a1 a0,cond jb ps1 ps0,p3 jb,d2 jb,rx3 jb,n2 jb,past2 jb,3 + (i + 1),rfl,T19.sh jb,sub19 (T19.rds jb),(T19.rdv jb).same λ_ _ e=>sub19 e,sub19 (T19.hom jb),(T19.ok jb).2,λH20 s20=>⟨true,rfl,?_⟩⟩
   rw [if_neg (by decide)]
   exact (s18.trans s19).trans s20
  ·obtain⟨o,rfl,s18⟩:=hP
   exact⟨t2,p3,d2,rx3,n2,past2,_,rfl,rfl,T17.same s18⟩
 ·obtain⟨t,p2,d,rx2,n,past,os,rfl,hos,T⟩:=hP
  obtain⟨o5,o6,o7,o8,o9,rfl⟩:∃ o5 o6 o7 o8 o9,os=[o5,o6,o7,o8,o9]:=by
   match os,hos with
   | [o5,o6,o7,o8,o9],_=>exact⟨_,_,_,_,_,rfl⟩
  subst hB
  have s12:Zn H3 H12:=λc o e=>(Zz.mp (T.old _ _ (o3 _ _ e))).2
  have hT12:=hT3.same s12
  obtain⟨b,dy,la,wa,ls,ws,e0,g1,_⟩:=id hT12
  cases e0
  try dsimp only
  walk_at "rd"
  refine⟨_,_,g1,rfl,.ref tf,rs,rfl,hT12,λpr H13 ls13 hpr s13' e13 hR13=>?_⟩
  have z13:=s13.trans (s12.trans s13')
  exact⟨true,3,pr,p,rfl,rfl,Zho e13 (z13 _ _ e1) hR13 (hR.same z13),by decide,q _⟩
end
def ZhN{Pr:List Value->Prop}(us:List Value)(h:us.length=1)(k:∀ a,Pr [a]):Pr us:=by
 match us,h with
 | [a],_=>exact k a
def JH{Pr:List Value->Prop}(us:List Value)(h:us.length=2)(k:∀ a b,Pr [a,b]):Pr us:=by
 match us,h with
 | [a,b],_=>exact k a b
def J2{Pr:List Value->Prop}(us:List Value)(h:us.length=3)(k:∀ a b c,Pr [a,b,c]):Pr us:=by
 match us,h with
 | [a,b,c],_=>exact k a b c
def ZuB{Pr:List Value->Prop}(us:List Value)(h:us.length=4)(k:∀ a b c d,Pr [a,b,c,d]):Pr us:=by
 match us,h with
 | [a,b,c,d],_=>exact k a b c d
def ZZ{P:Program}{w:World}{K:PySem.W.Frag}{mg:Str->Option Value}{base h:Heap}{x:Str}{ps:List Str}{sp:Sp}{f:Addr}{fd:FuncData}(X:K.In h)(G:h.Ns mainGlobals mg)(a:nsIn K mainGlobals x=some (some (.ref f)))
  (kp:keepIn K (.ref f)=true) (b:Zy K fd ps []) (o:FnOk P w K mg base Zx k f fd ps sp):Fn P w K mg base Zx k x ps sp:=⟨f,fd,o,b,kp,mg_of X G a⟩
open PySem.W in
theorem ZqE{ns:List Int}(h:WData.layable (.list (ns.map .int))=true):∀ n∈ns,Zm8 n:=by
 intro n hn
 unfold WData.layable at h
 simp only [Bool.and_eq_true,decide_eq_true_eq] at h
 have h2:WData.weight (.list (ns.map .int))<=2 ^ 20:=h.2
 have key:∀ l:List Int,n∈l->Builtin.Int.intBits n<=WData.weightAll (l.map WData.int):=by
  intro l
  induction l with
  | nil=>intro h; cases h
  | cons m l ih =>
   intro h
   rw [Ys]
   unfold WData.weightAll
   rcases Yl.mp h with rfl | h
   ·have:WData.weight (.int n)=Builtin.Int.intBits n:=by unfold WData.weight Builtin.Int.intBits; rfl
    omega
   ·have:=ih h
    omega
 have h3:=key ns hn
 unfold WData.weight at h2
 exact Yj h3 h2
open PySem.W PySem.Calls Att in
def Zib{l:OpenLaw}{q:Program}{loose:List Str}{XP:(Str->Option Value)->Heap->Prop}{YP:World->Heap->Prop}{d:DefRec}
  (hn:l.most=some n) (hdf:d.params.defaults=[])
  (call:∀ (w:World) (s₀ s₁:Shared) (mg mb:Str->Option Value) (fa:Addr) (o:Obj) (pm cd doc:Value) (a:Addr) (vs:List Value) (ns:List Int),
   Ground q loose [] XP w s₀ mg mb s₁.heap->YP w s₁.heap ->
   s₁.heap.get? fa=some o->o.data=.func (docDef d.name d.params d.body d.scope pm cd doc)->s₁.heap.CodeRec cd d.name->mg d.name=some (.ref fa) ->
   s₁.heap.get? a=some { cls:=.type "list",data:=.seq vs.toArray }->IntsAre vs ns->ns.length<=n->(∀ m∈ns,Zm8 m)->s₁.gens=#[] ->
   codeAny (model l.prog w) callerA (.call (.ref fa) ⟨[.ref a],[]⟩) (λr s'=>r=.ok (.ret (.bool true))/\OldK s₁.heap s'.heap/\s'.os=s₁.os/\AllBare s'.gens) s₁) :
  WalkO q loose XP YP l.row.toRowW d [] (λf vs=>PySem.call f vs):=by
 intro w s₀ s₁ mg mb G Y fa o pm cd doc dV kV ho hd hcd hD hmg hg args vals as hpre hlay hrd hwl hlo
 obtain rfl:dV=.none:=Dflts.none hD hdf
 obtain rfl:kV=.none:=Dflts.noKw hD
 obtain⟨a,vs,ns,rfl,rfl,hobj,hints,hlen⟩:=Zly hn hpre hwl
 have hfit:=ZqE (ns:=ns) (by simpa [WData.layableAll] using hlay)
 refine enter_call (YF (call w s₀ s₁ mg mb fa o pm cd doc a vs ns G Y ho (fd_plain hd) hcd hmg hobj hints hlen hfit hg) λr s' hq=>?_)
 obtain⟨rfl,h2,h3,h4⟩:=hq
 exact⟨.inl ⟨.bool true,.bool true,[],rfl,λ_=>rfl,.bool true,Zle l _,λ_=>⟨List.Pairwise.nil,λ_ hm=>(nomatch hm)⟩⟩,h2,h3,h4⟩
def Zkw{l:PySem.W.OpenLaw}{n k:Nat}{q:Program}{loose:List Str}{XP:(Str->Option Value)->Heap->Prop}{YP:World->Heap->Prop}{d:DefRec}{K:Params->PySem.W.Frag}{CX:CXT}{sp:PySem.W.Frag->Sp}{x:Str}
  (hn:l.most=some n) (hn2:n<=sizeLine) (hdf:d.params.defaults=[]) (hr:Room k callerA)
  (hY:∀ (w:World) (h:Heap),YP w h->(K w.params).In h)
  (F:∀ (w:World) (mg:Str->Option Value) (fa:Addr) (h:Heap),(K w.params).In h->h.Ns mainGlobals mg->mg d.name=some (.ref fa) ->
   ∃ fd:FuncData,(∀ (s:Shared) (u:Value),BindsTo s fd ⟨[u],[]⟩ [(x,u)]) /\
    ∀ base:Heap,(K w.params).In base->base.Ns mainGlobals mg->FnOk l.prog w (K w.params) mg base CX k fa fd [x] (sp (K w.params)))
  (hsp:∀ (K:PySem.W.Frag) (H:Hp) (a:Addr) (ns:List Int),ns.length<=n->(∀ m∈ns,Zm8 m)->ZtE H->JY K H a (ns.map V.int)->sp K [.ref a] H (λv _=>v=.bl true) λ_ _ _=>False)
  (hCX:∀ (H:Hp) (s:Shared) (e:Value) (s':Shared),CX [] H s (λ_ _ _=>False) e s'->False) :
  PySem.W.WalkO q loose XP YP l.row.toRowW d [] (λf vs=>PySem.call f vs):=by
 refine Zib hn hdf λw s₀ s₁ mg mb fa o pm cd doc a vs ns G Y ho hd hcd hmg hobj hints hlen hfit hg=>?_
 have KX:=hY w _ Y
 obtain⟨fd,hb,hF⟩:=F w mg fa _ KX G.T.g hmg
 exact Zov KX G.T.g G.T.b G.T.builtins G.T.nolimit hg hobj hints (Yj hlen hn2) hr hF hb (λH hO hS=>hsp (K w.params) H a ns hlen hfit hO hS) λH e s'=>hCX H s₁ e s'
def ZsS{l:PySem.W.OpenLaw}{w:World}{K:PySem.W.Frag}{h:Heap}{mg:Str->Option Value}{fa:Addr}{f0:Addr}{od0 an0:Option Addr}{sl0:Array (Option Value)}{oc0 kV0 dc0 pm0 cd0 ct0:Value}{f1:Addr}{od1 an1:Option Addr}{sl1:Array (Option Value)}{oc1 kV1 dc1 pm1 cd1 ct1:Value}{f2:Addr}{od2 an2:Option Addr}{sl2:Array (Option Value)}{oc2 kV2 dc2 pm2 cd2 ct2:Value}{f3:Addr}{od3 an3:Option Addr}{sl3:Array (Option Value)}{oc3 kV3 dc3 pm3 cd3 ct3:Value}{f4:Addr}{od4 an4:Option Addr}{sl4:Array (Option Value)}{oc4 kV4 dc4 pm4 cd4 ct4:Value}{T4 tn4:Nat}{tc4:Value}{td4:Option Addr}{ts4:Array (Option Value)}{tk4_0:Tok}{f5:Addr}{od5 an5:Option Addr}{sl5:Array (Option Value)}{oc5 kV5 dc5 pm5 cd5 ct5:Value}{f6:Addr}{od6 an6:Option Addr}{sl6:Array (Option Value)}{oc6 kV6 dc6 pm6 cd6 ct6:Value}{f7:Addr}{od7 an7:Option Addr}{sl7:Array (Option Value)}{oc7 kV7 dc7 pm7 cd7 ct7:Value}{f8:Addr}{od8 an8:Option Addr}{sl8:Array (Option Value)}{oc8 kV8 dc8 pm8 cd8 ct8:Value}{f9:Addr}{od9 an9:Option Addr}{sl9:Array (Option Value)}{oc9 kV9 dc9 pm9 cd9 ct9:Value}{tk_MOST_LETTERS:Tok}{tk_LETTERS:Tok}{cSE:Addr}{cNN:Addr}{cNP:Addr}{cTM:Addr}{cNS:Addr}{clsd0 clsd1 clsd2:ClassData}{f65:Addr}{od65 an65:Option Addr}{sl65:Array (Option Value)}{oc65 kV65 dc65 pm65 cd65 ct65:Value}{f68:Addr}{od68 an68:Option Addr}{sl68:Array (Option Value)}{oc68 kV68 dc68 pm68 cd68 ct68:Value}{f69:Addr}{od69 an69:Option Addr}{sl69:Array (Option Value)}{oc69 kV69 dc69 pm69 cd69 ct69:Value}{tk_MOST_ROADS:Tok}{f71:Addr}{od71 an71:Option Addr}{sl71:Array (Option Value)}{oc71 kV71 dc71 pm71 cd71 ct71:Value}{f72:Addr}{od72 an72:Option Addr}{sl72:Array (Option Value)}{oc72 kV72 dc72 pm72 cd72 ct72:Value}{cTree:Addr}{f80:Addr}{od80 an80:Option Addr}{sl80:Array (Option Value)}{oc80 kV80 dc80 pm80 cd80 ct80:Value}{f81:Addr}{od81 an81:Option Addr}{sl81:Array (Option Value)}{oc81 kV81 dc81 pm81 cd81 ct81:Value}{f82:Addr}{od82 an82:Option Addr}{sl82:Array (Option Value)}{oc82 kV82 dc82 pm82 cd82 ct82:Value}{f83:Addr}{od83 an83:Option Addr}{sl83:Array (Option Value)}{oc83 kV83 dc83 pm83 cd83 ct83:Value}{f84:Addr}{od84 an84:Option Addr}{sl84:Array (Option Value)}{oc84 kV84 dc84 pm84 cd84 ct84:Value}{f85:Addr}{od85 an85:Option Addr}{sl85:Array (Option Value)}{oc85 kV85 dc85 pm85 cd85 ct85:Value}{f86:Addr}{od86 an86:Option Addr}{sl86:Array (Option Value)}{oc86 kV86 dc86 pm86 cd86 ct86:Value}{f87:Addr}{od87 an87:Option Addr}{sl87:Array (Option Value)}{oc87 kV87 dc87 pm87 cd87 ct87:Value}{f88:Addr}{od88 an88:Option Addr}{sl88:Array (Option Value)}{oc88 kV88 dc88 pm88 cd88 ct88:Value}{f89:Addr}{od89 an89:Option Addr}{sl89:Array (Option Value)}{oc89 kV89 dc89 pm89 cd89 ct89:Value}{f90:Addr}{od90 an90:Option Addr}{sl90:Array (Option Value)}{oc90 kV90 dc90 pm90 cd90 ct90:Value}{tk_MOST_VILLAGES:Tok}{f92:Addr}{od92 an92:Option Addr}{sl92:Array (Option Value)}{oc92 kV92 dc92 pm92 cd92 ct92:Value}{f93:Addr}{od93 an93:Option Addr}{sl93:Array (Option Value)}{oc93 kV93 dc93 pm93 cd93 ct93:Value}{f94:Addr}{od94 an94:Option Addr}{sl94:Array (Option Value)}{oc94 kV94 dc94 pm94 cd94 ct94:Value}{f95:Addr}{od95 an95:Option Addr}{sl95:Array (Option Value)}{oc95 kV95 dc95 pm95 cd95 ct95:Value}{cShire:Addr}{f97:Addr}{od97 an97:Option Addr}{sl97:Array (Option Value)}{oc97 kV97 dc97 pm97 cd97 ct97:Value}{f98:Addr}{od98 an98:Option Addr}{sl98:Array (Option Value)}{oc98 kV98 dc98 pm98 cd98 ct98:Value}{f99:Addr}{od99 an99:Option Addr}{sl99:Array (Option Value)}{oc99 kV99 dc99 pm99 cd99 ct99:Value}{f100:Addr}{od100 an100:Option Addr}{sl100:Array (Option Value)}{oc100 kV100 dc100 pm100 cd100 ct100:Value}{f103:Addr}{od103 an103:Option Addr}{sl103:Array (Option Value)}{oc103 kV103 dc103 pm103 cd103 ct103:Value}{f104:Addr}{od104 an104:Option Addr}{sl104:Array (Option Value)}{oc104 kV104 dc104 pm104 cd104 ct104:Value}{f105:Addr}{od105 an105:Option Addr}{sl105:Array (Option Value)}{oc105 kV105 dc105 pm105 cd105 ct105:Value}{f106:Addr}{od106 an106:Option Addr}{sl106:Array (Option Value)}{oc106 kV106 dc106 pm106 cd106 ct106:Value}{f107:Addr}{od107 an107:Option Addr}{sl107:Array (Option Value)}{oc107 kV107 dc107 pm107 cd107 ct107:Value}{f108:Addr}{od108 an108:Option Addr}{sl108:Array (Option Value)}{oc108 kV108 dc108 pm108 cd108 ct108:Value}{f109:Addr}{od109 an109:Option Addr}{sl109:Array (Option Value)}{oc109 kV109 dc109 pm109 cd109 ct109:Value}{f110:Addr}{od110 an110:Option Addr}{sl110:Array (Option Value)}{oc110 kV110 dc110 pm110 cd110 ct110:Value}{f111:Addr}{od111 an111:Option Addr}{sl111:Array (Option Value)}{oc111 kV111 dc111 pm111 cd111 ct111:Value}{tk_MOST_FOR_THIRD:Tok}{f113:Addr}{od113 an113:Option Addr}{sl113:Array (Option Value)}{oc113 kV113 dc113 pm113 cd113 ct113:Value}{f114:Addr}{od114 an114:Option Addr}{sl114:Array (Option Value)}{oc114 kV114 dc114 pm114 cd114 ct114:Value}{f115:Addr}{od115 an115:Option Addr}{sl115:Array (Option Value)}{oc115 kV115 dc115 pm115 cd115 ct115:Value}{f116:Addr}{od116 an116:Option Addr}{sl116:Array (Option Value)}{oc116 kV116 dc116 pm116 cd116 ct116:Value}{f117:Addr}{od117 an117:Option Addr}{sl117:Array (Option Value)}{oc117 kV117 dc117 pm117 cd117 ct117:Value}{f118:Addr}{od118 an118:Option Addr}{sl118:Array (Option Value)}{oc118 kV118 dc118 pm118 cd118 ct118:Value}{f119:Addr}{od119 an119:Option Addr}{sl119:Array (Option Value)}{oc119 kV119 dc119 pm119 cd119 ct119:Value}{f120:Addr}{od120 an120:Option Addr}{sl120:Array (Option Value)}{oc120 kV120 dc120 pm120 cd120 ct120:Value}{f121:Addr}{od121 an121:Option Addr}{sl121:Array (Option Value)}{oc121 kV121 dc121 pm121 cd121 ct121:Value}{f122:Addr}{od122 an122:Option Addr}{sl122:Array (Option Value)}{oc122 kV122 dc122 pm122 cd122 ct122:Value}{f123:Addr}{od123 an123:Option Addr}{sl123:Array (Option Value)}{oc123 kV123 dc123 pm123 cd123 ct123:Value}{f124:Addr}{od124 an124:Option Addr}{sl124:Array (Option Value)}{oc124 kV124 dc124 pm124 cd124 ct124:Value}{f125:Addr}{od125 an125:Option Addr}{sl125:Array (Option Value)}{oc125 kV125 dc125 pm125 cd125 ct125:Value}{f126:Addr}{od126 an126:Option Addr}{sl126:Array (Option Value)}{oc126 kV126 dc126 pm126 cd126 ct126:Value}{f127:Addr}{od127 an127:Option Addr}{sl127:Array (Option Value)}{oc127 kV127 dc127 pm127 cd127 ct127:Value}{f128:Addr}{od128 an128:Option Addr}{sl128:Array (Option Value)}{oc128 kV128 dc128 pm128 cd128 ct128:Value}{f129:Addr}{od129 an129:Option Addr}{sl129:Array (Option Value)}{oc129 kV129 dc129 pm129 cd129 ct129:Value}{f130:Addr}{od130 an130:Option Addr}{sl130:Array (Option Value)}{oc130 kV130 dc130 pm130 cd130 ct130:Value}{f131:Addr}{od131 an131:Option Addr}{sl131:Array (Option Value)}{oc131 kV131 dc131 pm131 cd131 ct131:Value}{f132:Addr}{od132 an132:Option Addr}{sl132:Array (Option Value)}{oc132 kV132 dc132 pm132 cd132 ct132:Value}{f133:Addr}{od133 an133:Option Addr}{sl133:Array (Option Value)}{oc133 kV133 dc133 pm133 cd133 ct133:Value}{f134:Addr}{od134 an134:Option Addr}{sl134:Array (Option Value)}{oc134 kV134 dc134 pm134 cd134 ct134:Value}{f135:Addr}{od135 an135:Option Addr}{sl135:Array (Option Value)}{oc135 kV135 dc135 pm135 cd135 ct135:Value}{f136:Addr}{od136 an136:Option Addr}{sl136:Array (Option Value)}{oc136 kV136 dc136 pm136 cd136 ct136:Value}{f137:Addr}{od137 an137:Option Addr}{sl137:Array (Option Value)}{oc137 kV137 dc137 pm137 cd137 ct137:Value}{f138:Addr}{od138 an138:Option Addr}{sl138:Array (Option Value)}{oc138 kV138 dc138 pm138 cd138 ct138:Value}
  (X:K.In h) (G:h.Ns mainGlobals mg) (hfa:mg "law"=some (.ref fa))
  (a0:nsIn K mainGlobals "is_whole"=some (some (.ref f0)))
  (l0:K.lookup f0=some ⟨oc0,od0,.func (fnOf "is_whole" "is_whole" (Zh ZbP) (Zg ZbP) (Za ZbP) .none kV0 dc0 pm0 an0 cd0 ct0),sl0⟩)
  (c0:codeIn K cd0 "is_whole"=true)
  (k0:keepIn K (.ref f0)=true)
  (a1:nsIn K mainGlobals "greatest_divisor"=some (some (.ref f1)))
  (l1:K.lookup f1=some ⟨oc1,od1,.func (fnOf "greatest_divisor" "greatest_divisor" (Zh Zar) (Zg Zar) (Za Zar) .none kV1 dc1 pm1 an1 cd1 ct1),sl1⟩)
  (c1:codeIn K cd1 "greatest_divisor"=true)
  (k1:keepIn K (.ref f1)=true)
  (a2:nsIn K mainGlobals "least_multiple"=some (some (.ref f2)))
  (l2:K.lookup f2=some ⟨oc2,od2,.func (fnOf "least_multiple" "least_multiple" (Zh Zax) (Zg Zax) (Za Zax) .none kV2 dc2 pm2 an2 cd2 ct2),sl2⟩)
  (c2:codeIn K cd2 "least_multiple"=true)
  (k2:keepIn K (.ref f2)=true)
  (a3:nsIn K mainGlobals "is_ratio"=some (some (.ref f3)))
  (l3:K.lookup f3=some ⟨oc3,od3,.func (fnOf "is_ratio" "is_ratio" (Zh ZbN) (Zg ZbN) (Za ZbN) .none kV3 dc3 pm3 an3 cd3 ct3),sl3⟩)
  (c3:codeIn K cd3 "is_ratio"=true)
  (k3:keepIn K (.ref f3)=true)
  (a4:nsIn K mainGlobals "ratio"=some (some (.ref f4)))
  (l4:K.lookup f4=some ⟨oc4,od4,.func (fnOf "ratio" "ratio" (Zh Zbs) (Zg Zbs) (Za Zbs) (.ref T4) kV4 dc4 pm4 an4 cd4 ct4),sl4⟩)
  (c4:codeIn K cd4 "ratio"=true)
  (k4:keepIn K (.ref f4)=true)
  (t4:K.lookup T4=some ⟨tc4,td4,.seq #[.int 1 tk4_0] tn4,ts4⟩)
  (a5:nsIn K mainGlobals "common_bottom"=some (some (.ref f5)))
  (l5:K.lookup f5=some ⟨oc5,od5,.func (fnOf "common_bottom" "common_bottom" (Zh ZaH) (Zg ZaH) (Za ZaH) .none kV5 dc5 pm5 an5 cd5 ct5),sl5⟩)
  (c5:codeIn K cd5 "common_bottom"=true)
  (k5:keepIn K (.ref f5)=true)
  (a6:nsIn K mainGlobals "top_over"=some (some (.ref f6)))
  (l6:K.lookup f6=some ⟨oc6,od6,.func (fnOf "top_over" "top_over" (Zh ZbG) (Zg ZbG) (Za ZbG) .none kV6 dc6 pm6 an6 cd6 ct6),sl6⟩)
  (c6:codeIn K cd6 "top_over"=true)
  (k6:keepIn K (.ref f6)=true)
  (a7:nsIn K mainGlobals "total_of"=some (some (.ref f7)))
  (l7:K.lookup f7=some ⟨oc7,od7,.func (fnOf "total_of" "total_of" (Zh ZbF) (Zg ZbF) (Za ZbF) .none kV7 dc7 pm7 an7 cd7 ct7),sl7⟩)
  (c7:codeIn K cd7 "total_of"=true)
  (k7:keepIn K (.ref f7)=true)
  (a8:nsIn K mainGlobals "rest_of"=some (some (.ref f8)))
  (l8:K.lookup f8=some ⟨oc8,od8,.func (fnOf "rest_of" "rest_of" (Zh Zb9) (Zg Zb9) (Za Zb9) .none kV8 dc8 pm8 an8 cd8 ct8),sl8⟩)
  (c8:codeIn K cd8 "rest_of"=true)
  (k8:keepIn K (.ref f8)=true)
  (a9:nsIn K mainGlobals "is_less"=some (some (.ref f9)))
  (l9:K.lookup f9=some ⟨oc9,od9,.func (fnOf "is_less" "is_less" (Zh Zb6) (Zg Zb6) (Za Zb6) .none kV9 dc9 pm9 an9 cd9 ct9),sl9⟩)
  (c9:codeIn K cd9 "is_less"=true)
  (k9:keepIn K (.ref f9)=true)
  (a_MOST_LETTERS:nsIn K mainGlobals "MOST_LETTERS"=some (some (.int 8 tk_MOST_LETTERS)))
  (a_LETTERS:nsIn K mainGlobals "LETTERS"=some (some (.str "abcdefghijklmnopqrstuvwxyz" tk_LETTERS)))
  (a_ShareError:nsIn K mainGlobals "ShareError"=some (some (.ref cSE)))
  (a_NoName:nsIn K mainGlobals "NoName"=some (some (.ref cNN)))
  (a_NoPlace:nsIn K mainGlobals "NoPlace"=some (some (.ref cNP)))
  (a_TooMany:nsIn K mainGlobals "TooMany"=some (some (.ref cTM)))
  (a_NoSharing:nsIn K mainGlobals "NoSharing"=some (some (.ref cNS)))
  (x4:PySem.W.specialIn K (.builtin "object.__class__") "__get__"=some (some (.builtin "getset_descriptor.__get__")))
  (x5:PySem.W.takesIn K (.builtin "object.__class__")=some true)
  (ec0:excIn K cNN [.type "ValueError",.type "Exception",.type "BaseException",.type "object"] "ValueError.__new__"=true)
  (x00:PySem.W.clsIn K cNN=some clsd0)
  (x10:PySem.W.findIn K (.ref cNN) "__getattribute__"=some (some (.builtin "BaseException.__getattribute__")))
  (x20:PySem.W.findIn K (.ref cNN) "__getattr__"=some none)
  (x30:PySem.W.findIn K (.ref cNN) "__class__"=some (some (.builtin "object.__class__")))
  (x60:PySem.W.mroIn K cNN (.type "object")=some true)
  (x70:PySem.W.mroIn K cNN (.type "BaseException")=some true)
  (ee0:exmOne K (.ref cNN) (.ref cSE)=some true)
  (kk00:kitOne K (.ref cNN) (.ref cNN)=some true)
  (kk01:kitOne K (.ref cNN) (.ref cTM)=some false)
  (kk02:kitOne K (.ref cNN) (.ref cNS)=some false)
  (kk03:kitOne K (.ref cNN) (.ref cNP)=some false)
  (ec1:excIn K cTM [.type "ValueError",.type "Exception",.type "BaseException",.type "object"] "ValueError.__new__"=true)
  (x01:PySem.W.clsIn K cTM=some clsd1)
  (x11:PySem.W.findIn K (.ref cTM) "__getattribute__"=some (some (.builtin "BaseException.__getattribute__")))
  (x21:PySem.W.findIn K (.ref cTM) "__getattr__"=some none)
  (x31:PySem.W.findIn K (.ref cTM) "__class__"=some (some (.builtin "object.__class__")))
  (x61:PySem.W.mroIn K cTM (.type "object")=some true)
  (x71:PySem.W.mroIn K cTM (.type "BaseException")=some true)
  (ee1:exmOne K (.ref cTM) (.ref cSE)=some true)
  (kk10:kitOne K (.ref cTM) (.ref cNN)=some false)
  (kk11:kitOne K (.ref cTM) (.ref cTM)=some true)
  (kk12:kitOne K (.ref cTM) (.ref cNS)=some false)
  (kk13:kitOne K (.ref cTM) (.ref cNP)=some false)
  (ec2:excIn K cNS [.type "ValueError",.type "Exception",.type "BaseException",.type "object"] "ValueError.__new__"=true)
  (x02:PySem.W.clsIn K cNS=some clsd2)
  (x12:PySem.W.findIn K (.ref cNS) "__getattribute__"=some (some (.builtin "BaseException.__getattribute__")))
  (x22:PySem.W.findIn K (.ref cNS) "__getattr__"=some none)
  (x32:PySem.W.findIn K (.ref cNS) "__class__"=some (some (.builtin "object.__class__")))
  (x62:PySem.W.mroIn K cNS (.type "object")=some true)
  (x72:PySem.W.mroIn K cNS (.type "BaseException")=some true)
  (ee2:exmOne K (.ref cNS) (.ref cSE)=some true)
  (kk20:kitOne K (.ref cNS) (.ref cNN)=some false)
  (kk21:kitOne K (.ref cNS) (.ref cTM)=some false)
  (kk22:kitOne K (.ref cNS) (.ref cNS)=some true)
  (kk23:kitOne K (.ref cNS) (.ref cNP)=some false)
  (a65:nsIn K mainGlobals "is_name"=some (some (.ref f65)))
  (l65:K.lookup f65=some ⟨oc65,od65,.func (fnOf "is_name" "is_name" (Zh Zb8) (Zg Zb8) (Za Zb8) .none kV65 dc65 pm65 an65 cd65 ct65),sl65⟩)
  (c65:codeIn K cd65 "is_name"=true)
  (k65:keepIn K (.ref f65)=true)
  (a68:nsIn K mainGlobals "is_price"=some (some (.ref f68)))
  (l68:K.lookup f68=some ⟨oc68,od68,.func (fnOf "is_price" "is_price" (Zh ZbI) (Zg ZbI) (Za ZbI) .none kV68 dc68 pm68 an68 cd68 ct68),sl68⟩)
  (c68:codeIn K cd68 "is_price"=true)
  (k68:keepIn K (.ref f68)=true)
  (a69:nsIn K mainGlobals "is_road"=some (some (.ref f69)))
  (l69:K.lookup f69=some ⟨oc69,od69,.func (fnOf "is_road" "is_road" (Zh Zca) (Zg Zca) (Za Zca) .none kV69 dc69 pm69 an69 cd69 ct69),sl69⟩)
  (c69:codeIn K cd69 "is_road"=true)
  (k69:keepIn K (.ref f69)=true)
  (a_MOST_ROADS:nsIn K mainGlobals "MOST_ROADS"=some (some (.int 40 tk_MOST_ROADS)))
  (a71:nsIn K mainGlobals "look_roads"=some (some (.ref f71)))
  (l71:K.lookup f71=some ⟨oc71,od71,.func (fnOf "look_roads" "look_roads" (Zh Zbf) (Zg Zbf) (Za Zbf) .none kV71 dc71 pm71 an71 cd71 ct71),sl71⟩)
  (c71:codeIn K cd71 "look_roads"=true)
  (k71:keepIn K (.ref f71)=true)
  (a72:nsIn K mainGlobals "way_from"=some (some (.ref f72)))
  (l72:K.lookup f72=some ⟨oc72,od72,.func (fnOf "way_from" "way_from" (Zh ZbK) (Zg ZbK) (Za ZbK) .none kV72 dc72 pm72 an72 cd72 ct72),sl72⟩)
  (c72:codeIn K cd72 "way_from"=true)
  (k72:keepIn K (.ref f72)=true)
  (a_Tree:nsIn K mainGlobals "Tree"=some (some (.ref cTree)))
  (pg_Tree:plainGet K cTree Str.empty=true)
  (hd_Tree:hasDictIn K cTree=true)
  (po_Tree:plainOver K cTree=true)
  (sa_Tree:PySem.W.findIn K (.ref cTree) "__setattr__"=some (some (.builtin "object.__setattr__")))
  (Zbb:PySem.W.findIn K (.ref cTree) "lanes"=some none)
  (Zcn:PySem.W.findIn K (.ref cTree) "ways"=some none)
  (oa_Tree:PySem.W.findIn K (.ref cTree) "__class__"=some (some (.builtin "object.__class__")))
  (ob_Tree:PySem.W.specialIn K (.builtin "object.__class__") "__get__"=some (some (.builtin "getset_descriptor.__get__")))
  (ot_Tree:PySem.W.takesIn K (.builtin "object.__class__")=some true)
  (om_Tree:PySem.W.mroIn K cTree (.type "object")=some true)
  (ok_Tree:kitOne K (.ref cTree) (.ref cTree)=some true)
  (a80:PySem.W.findIn K (.ref cTree) "__init__"=some (some (.ref f80)))
  (l80:K.lookup f80=some ⟨oc80,od80,.func (fnOf "__init__" "Tree.__init__" (Zh Zaj) (Zg Zaj) (Za Zaj) .none kV80 dc80 pm80 an80 cd80 ct80),sl80⟩)
  (c80:codeIn K cd80 "Tree.__init__"=true)
  (k80:keepIn K (.ref f80)=true)
  (i80:isFn K (.ref f80)=true)
  (mk80:makesIn K cTree=true)
  (kc80:keepIn K (.ref cTree)=true)
  (a81:PySem.W.findIn K (.ref cTree) "roads"=some (some (.ref f81)))
  (l81:K.lookup f81=some ⟨oc81,od81,.func (fnOf "roads" "Tree.roads" (Zh ZaB) (Zg ZaB) (Za ZaB) .none kV81 dc81 pm81 an81 cd81 ct81),sl81⟩)
  (c81:codeIn K cd81 "Tree.roads"=true)
  (k81:keepIn K (.ref f81)=true)
  (i81:isFn K (.ref f81)=true)
  (a82:PySem.W.findIn K (.ref cTree) "many"=some (some (.ref f82)))
  (l82:K.lookup f82=some ⟨oc82,od82,.func (fnOf "many" "Tree.many" (Zh ZaL) (Zg ZaL) (Za ZaL) .none kV82 dc82 pm82 an82 cd82 ct82),sl82⟩)
  (c82:codeIn K cd82 "Tree.many"=true)
  (k82:keepIn K (.ref f82)=true)
  (i82:isFn K (.ref f82)=true)
  (a83:PySem.W.findIn K (.ref cTree) "look_crossing"=some (some (.ref f83)))
  (l83:K.lookup f83=some ⟨oc83,od83,.func (fnOf "look_crossing" "Tree.look_crossing" (Zh Zab) (Zg Zab) (Za Zab) .none kV83 dc83 pm83 an83 cd83 ct83),sl83⟩)
  (c83:codeIn K cd83 "Tree.look_crossing"=true)
  (k83:keepIn K (.ref f83)=true)
  (i83:isFn K (.ref f83)=true)
  (a84:PySem.W.findIn K (.ref cTree) "look_road"=some (some (.ref f84)))
  (l84:K.lookup f84=some ⟨oc84,od84,.func (fnOf "look_road" "Tree.look_road" (Zh Zah) (Zg Zah) (Za Zah) .none kV84 dc84 pm84 an84 cd84 ct84),sl84⟩)
  (c84:codeIn K cd84 "Tree.look_road"=true)
  (k84:keepIn K (.ref f84)=true)
  (i84:isFn K (.ref f84)=true)
  (a85:PySem.W.findIn K (.ref cTree) "leads_to"=some (some (.ref f85)))
  (l85:K.lookup f85=some ⟨oc85,od85,.func (fnOf "leads_to" "Tree.leads_to" (Zh Zak) (Zg Zak) (Za Zak) .none kV85 dc85 pm85 an85 cd85 ct85),sl85⟩)
  (c85:codeIn K cd85 "Tree.leads_to"=true)
  (k85:keepIn K (.ref f85)=true)
  (i85:isFn K (.ref f85)=true)
  (a86:PySem.W.findIn K (.ref cTree) "price"=some (some (.ref f86)))
  (l86:K.lookup f86=some ⟨oc86,od86,.func (fnOf "price" "Tree.price" (Zh Zay) (Zg Zay) (Za Zay) .none kV86 dc86 pm86 an86 cd86 ct86),sl86⟩)
  (c86:codeIn K cd86 "Tree.price"=true)
  (k86:keepIn K (.ref f86)=true)
  (i86:isFn K (.ref f86)=true)
  (a87:PySem.W.findIn K (.ref cTree) "way"=some (some (.ref f87)))
  (l87:K.lookup f87=some ⟨oc87,od87,.func (fnOf "way" "Tree.way" (Zh Za4) (Zg Za4) (Za Za4) .none kV87 dc87 pm87 an87 cd87 ct87),sl87⟩)
  (c87:codeIn K cd87 "Tree.way"=true)
  (k87:keepIn K (.ref f87)=true)
  (i87:isFn K (.ref f87)=true)
  (a88:nsIn K mainGlobals "needed"=some (some (.ref f88)))
  (l88:K.lookup f88=some ⟨oc88,od88,.func (fnOf "needed" "needed" (Zh ZcU) (Zg ZcU) (Za ZcU) .none kV88 dc88 pm88 an88 cd88 ct88),sl88⟩)
  (c88:codeIn K cd88 "needed"=true)
  (k88:keepIn K (.ref f88)=true)
  (a89:nsIn K mainGlobals "cost"=some (some (.ref f89)))
  (l89:K.lookup f89=some ⟨oc89,od89,.func (fnOf "cost" "cost" (Zh Zfz) (Zg Zfz) (Za Zfz) .none kV89 dc89 pm89 an89 cd89 ct89),sl89⟩)
  (c89:codeIn K cd89 "cost"=true)
  (k89:keepIn K (.ref f89)=true)
  (a90:nsIn K mainGlobals "cost_of_all"=some (some (.ref f90)))
  (l90:K.lookup f90=some ⟨oc90,od90,.func (fnOf "cost_of_all" "cost_of_all" (Zh ZaV) (Zg ZaV) (Za ZaV) .none kV90 dc90 pm90 an90 cd90 ct90),sl90⟩)
  (c90:codeIn K cd90 "cost_of_all"=true)
  (k90:keepIn K (.ref f90)=true)
  (a_MOST_VILLAGES:nsIn K mainGlobals "MOST_VILLAGES"=some (some (.int 12 tk_MOST_VILLAGES)))
  (a92:nsIn K mainGlobals "look_price"=some (some (.ref f92)))
  (l92:K.lookup f92=some ⟨oc92,od92,.func (fnOf "look_price" "look_price" (Zh Zbg) (Zg Zbg) (Za Zbg) .none kV92 dc92 pm92 an92 cd92 ct92),sl92⟩)
  (c92:codeIn K cd92 "look_price"=true)
  (k92:keepIn K (.ref f92)=true)
  (a93:nsIn K mainGlobals "look_room"=some (some (.ref f93)))
  (l93:K.lookup f93=some ⟨oc93,od93,.func (fnOf "look_room" "look_room" (Zh Zbl) (Zg Zbl) (Za Zbl) .none kV93 dc93 pm93 an93 cd93 ct93),sl93⟩)
  (c93:codeIn K cd93 "look_room"=true)
  (k93:keepIn K (.ref f93)=true)
  (a94:nsIn K mainGlobals "with_road"=some (some (.ref f94)))
  (l94:K.lookup f94=some ⟨oc94,od94,.func (fnOf "with_road" "with_road" (Zh Zbm) (Zg Zbm) (Za Zbm) .none kV94 dc94 pm94 an94 cd94 ct94),sl94⟩)
  (c94:codeIn K cd94 "with_road"=true)
  (k94:keepIn K (.ref f94)=true)
  (a95:nsIn K mainGlobals "with_one_more"=some (some (.ref f95)))
  (l95:K.lookup f95=some ⟨oc95,od95,.func (fnOf "with_one_more" "with_one_more" (Zh ZaI) (Zg ZaI) (Za ZaI) .none kV95 dc95 pm95 an95 cd95 ct95),sl95⟩)
  (c95:codeIn K cd95 "with_one_more"=true)
  (k95:keepIn K (.ref f95)=true)
  (a_Shire:nsIn K mainGlobals "Shire"=some (some (.ref cShire)))
  (pg_Shire:plainGet K cShire Str.empty=true)
  (hd_Shire:hasDictIn K cShire=true)
  (po_Shire:plainOver K cShire=true)
  (sa_Shire:PySem.W.findIn K (.ref cShire) "__setattr__"=some (some (.builtin "object.__setattr__")))
  (Zs:PySem.W.findIn K (.ref cShire) "land"=some none)
  (Zp:PySem.W.findIn K (.ref cShire) "places"=some none)
  (ZdG:PySem.W.findIn K (.ref cShire) "past"=some none)
  (a97:PySem.W.findIn K (.ref cShire) "__init__"=some (some (.ref f97)))
  (l97:K.lookup f97=some ⟨oc97,od97,.func (fnOf "__init__" "Shire.__init__" (Zh Zag) (Zg Zag) (Za Zag) .none kV97 dc97 pm97 an97 cd97 ct97),sl97⟩)
  (c97:codeIn K cd97 "Shire.__init__"=true)
  (k97:keepIn K (.ref f97)=true)
  (i97:isFn K (.ref f97)=true)
  (mk97:makesIn K cShire=true)
  (kc97:keepIn K (.ref cShire)=true)
  (a98:PySem.W.findIn K (.ref cShire) "do"=some (some (.ref f98)))
  (l98:K.lookup f98=some ⟨oc98,od98,.func (fnOf "do" "Shire.do" (Zh ZaX) (Zg ZaX) (Za ZaX) .none kV98 dc98 pm98 an98 cd98 ct98),sl98⟩)
  (c98:codeIn K cd98 "Shire.do"=true)
  (k98:keepIn K (.ref f98)=true)
  (i98:isFn K (.ref f98)=true)
  (a99:PySem.W.findIn K (.ref cShire) "place"=some (some (.ref f99)))
  (l99:K.lookup f99=some ⟨oc99,od99,.func (fnOf "place" "Shire.place" (Zh Zat) (Zg Zat) (Za Zat) .none kV99 dc99 pm99 an99 cd99 ct99),sl99⟩)
  (c99:codeIn K cd99 "Shire.place"=true)
  (k99:keepIn K (.ref f99)=true)
  (i99:isFn K (.ref f99)=true)
  (a100:PySem.W.findIn K (.ref cShire) "look_village"=some (some (.ref f100)))
  (l100:K.lookup f100=some ⟨oc100,od100,.func (fnOf "look_village" "Shire.look_village" (Zh Zac) (Zg Zac) (Za Zac) .none kV100 dc100 pm100 an100 cd100 ct100),sl100⟩)
  (c100:codeIn K cd100 "Shire.look_village"=true)
  (k100:keepIn K (.ref f100)=true)
  (i100:isFn K (.ref f100)=true)
  (a103:PySem.W.findIn K (.ref cShire) "come"=some (some (.ref f103)))
  (l103:K.lookup f103=some ⟨oc103,od103,.func (fnOf "come" "Shire.come" (Zh ZaA) (Zg ZaA) (Za ZaA) .none kV103 dc103 pm103 an103 cd103 ct103),sl103⟩)
  (c103:codeIn K cd103 "Shire.come"=true)
  (k103:keepIn K (.ref f103)=true)
  (i103:isFn K (.ref f103)=true)
  (a104:PySem.W.findIn K (.ref cShire) "go"=some (some (.ref f104)))
  (l104:K.lookup f104=some ⟨oc104,od104,.func (fnOf "go" "Shire.go" (Zh ZaW) (Zg ZaW) (Za ZaW) .none kV104 dc104 pm104 an104 cd104 ct104),sl104⟩)
  (c104:codeIn K cd104 "Shire.go"=true)
  (k104:keepIn K (.ref f104)=true)
  (i104:isFn K (.ref f104)=true)
  (a105:PySem.W.findIn K (.ref cShire) "move"=some (some (.ref f105)))
  (l105:K.lookup f105=some ⟨oc105,od105,.func (fnOf "move" "Shire.move" (Zh ZaC) (Zg ZaC) (Za ZaC) .none kV105 dc105 pm105 an105 cd105 ct105),sl105⟩)
  (c105:codeIn K cd105 "Shire.move"=true)
  (k105:keepIn K (.ref f105)=true)
  (i105:isFn K (.ref f105)=true)
  (a106:PySem.W.findIn K (.ref cShire) "reprice"=some (some (.ref f106)))
  (l106:K.lookup f106=some ⟨oc106,od106,.func (fnOf "reprice" "Shire.reprice" (Zh Zai) (Zg Zai) (Za Zai) .none kV106 dc106 pm106 an106 cd106 ct106),sl106⟩)
  (c106:codeIn K cd106 "Shire.reprice"=true)
  (k106:keepIn K (.ref f106)=true)
  (i106:isFn K (.ref f106)=true)
  (a107:PySem.W.findIn K (.ref cShire) "build"=some (some (.ref f107)))
  (l107:K.lookup f107=some ⟨oc107,od107,.func (fnOf "build" "Shire.build" (Zh Zau) (Zg Zau) (Za Zau) .none kV107 dc107 pm107 an107 cd107 ct107),sl107⟩)
  (c107:codeIn K cd107 "Shire.build"=true)
  (k107:keepIn K (.ref f107)=true)
  (i107:isFn K (.ref f107)=true)
  (a108:PySem.W.findIn K (.ref cShire) "cut"=some (some (.ref f108)))
  (l108:K.lookup f108=some ⟨oc108,od108,.func (fnOf "cut" "Shire.cut" (Zh ZaK) (Zg ZaK) (Za ZaK) .none kV108 dc108 pm108 an108 cd108 ct108),sl108⟩)
  (c108:codeIn K cd108 "Shire.cut"=true)
  (k108:keepIn K (.ref f108)=true)
  (i108:isFn K (.ref f108)=true)
  (a109:PySem.W.findIn K (.ref cShire) "tree"=some (some (.ref f109)))
  (l109:K.lookup f109=some ⟨oc109,od109,.func (fnOf "tree" "Shire.tree" (Zh Zaz) (Zg Zaz) (Za Zaz) .none kV109 dc109 pm109 an109 cd109 ct109),sl109⟩)
  (c109:codeIn K cd109 "Shire.tree"=true)
  (k109:keepIn K (.ref f109)=true)
  (i109:isFn K (.ref f109)=true)
  (a110:PySem.W.findIn K (.ref cShire) "homes"=some (some (.ref f110)))
  (l110:K.lookup f110=some ⟨oc110,od110,.func (fnOf "homes" "Shire.homes" (Zh Zas) (Zg Zas) (Za Zas) .none kV110 dc110 pm110 an110 cd110 ct110),sl110⟩)
  (c110:codeIn K cd110 "Shire.homes"=true)
  (k110:keepIn K (.ref f110)=true)
  (i110:isFn K (.ref f110)=true)
  (a111:PySem.W.findIn K (.ref cShire) "cost_of"=some (some (.ref f111)))
  (l111:K.lookup f111=some ⟨oc111,od111,.func (fnOf "cost_of" "Shire.cost_of" (Zh Zal) (Zg Zal) (Za Zal) .none kV111 dc111 pm111 an111 cd111 ct111),sl111⟩)
  (c111:codeIn K cd111 "Shire.cost_of"=true)
  (k111:keepIn K (.ref f111)=true)
  (i111:isFn K (.ref f111)=true)
  (a_MOST_FOR_THIRD:nsIn K mainGlobals "MOST_FOR_THIRD"=some (some (.int 6 tk_MOST_FOR_THIRD)))
  (a113:nsIn K mainGlobals "look_villages"=some (some (.ref f113)))
  (l113:K.lookup f113=some ⟨oc113,od113,.func (fnOf "look_villages" "look_villages" (Zh Zam) (Zg Zam) (Za Zam) .none kV113 dc113 pm113 an113 cd113 ct113),sl113⟩)
  (c113:codeIn K cd113 "look_villages"=true)
  (k113:keepIn K (.ref f113)=true)
  (a114:nsIn K mainGlobals "third"=some (some (.ref f114)))
  (l114:K.lookup f114=some ⟨oc114,od114,.func (fnOf "third" "third" (Zh Zcs) (Zg Zcs) (Za Zcs) .none kV114 dc114 pm114 an114 cd114 ct114),sl114⟩)
  (c114:codeIn K cd114 "third"=true)
  (k114:keepIn K (.ref f114)=true)
  (a115:nsIn K mainGlobals "even_shares"=some (some (.ref f115)))
  (l115:K.lookup f115=some ⟨oc115,od115,.func (fnOf "even_shares" "even_shares" (Zh Zbx) (Zg Zbx) (Za Zbx) .none kV115 dc115 pm115 an115 cd115 ct115),sl115⟩)
  (c115:codeIn K cd115 "even_shares"=true)
  (k115:keepIn K (.ref f115)=true)
  (a116:nsIn K mainGlobals "evenest"=some (some (.ref f116)))
  (l116:K.lookup f116=some ⟨oc116,od116,.func (fnOf "evenest" "evenest" (Zh Zdq) (Zg Zdq) (Za Zdq) .none kV116 dc116 pm116 an116 cd116 ct116),sl116⟩)
  (c116:codeIn K cd116 "evenest"=true)
  (k116:keepIn K (.ref f116)=true)
  (a117:PySem.W.findIn K (.ref cShire) "shares"=some (some (.ref f117)))
  (l117:K.lookup f117=some ⟨oc117,od117,.func (fnOf "shares" "Shire.shares" (Zh Zap) (Zg Zap) (Za Zap) .none kV117 dc117 pm117 an117 cd117 ct117),sl117⟩)
  (c117:codeIn K cd117 "Shire.shares"=true)
  (k117:keepIn K (.ref f117)=true)
  (i117:isFn K (.ref f117)=true)
  (a118:nsIn K mainGlobals "look_sharing"=some (some (.ref f118)))
  (l118:K.lookup f118=some ⟨oc118,od118,.func (fnOf "look_sharing" "look_sharing" (Zh Zao) (Zg Zao) (Za Zao) .none kV118 dc118 pm118 an118 cd118 ct118),sl118⟩)
  (c118:codeIn K cd118 "look_sharing"=true)
  (k118:keepIn K (.ref f118)=true)
  (a119:nsIn K mainGlobals "judged"=some (some (.ref f119)))
  (l119:K.lookup f119=some ⟨oc119,od119,.func (fnOf "judged" "judged" (Zh Zbw) (Zg Zbw) (Za Zbw) .none kV119 dc119 pm119 an119 cd119 ct119),sl119⟩)
  (c119:codeIn K cd119 "judged"=true)
  (k119:keepIn K (.ref f119)=true)
  (a120:PySem.W.findIn K (.ref cShire) "judge"=some (some (.ref f120)))
  (l120:K.lookup f120=some ⟨oc120,od120,.func (fnOf "judge" "Shire.judge" (Zh Zav) (Zg Zav) (Za Zav) .none kV120 dc120 pm120 an120 cd120 ct120),sl120⟩)
  (c120:codeIn K cd120 "Shire.judge"=true)
  (k120:keepIn K (.ref f120)=true)
  (i120:isFn K (.ref f120)=true)
  (a121:nsIn K mainGlobals "_law_cell_at"=some (some (.ref f121)))
  (l121:K.lookup f121=some ⟨oc121,od121,.func (fnOf "_law_cell_at" "_law_cell_at" (Zh Za1) (Zg Za1) (Za Za1) .none kV121 dc121 pm121 an121 cd121 ct121),sl121⟩)
  (c121:codeIn K cd121 "_law_cell_at"=true)
  (k121:keepIn K (.ref f121)=true)
  (a122:nsIn K mainGlobals "_law_whole"=some (some (.ref f122)))
  (l122:K.lookup f122=some ⟨oc122,od122,.func (fnOf "_law_whole" "_law_whole" (Zh Zbo) (Zg Zbo) (Za Zbo) .none kV122 dc122 pm122 an122 cd122 ct122),sl122⟩)
  (c122:codeIn K cd122 "_law_whole"=true)
  (k122:keepIn K (.ref f122)=true)
  (a123:nsIn K mainGlobals "_law_divisor"=some (some (.ref f123)))
  (l123:K.lookup f123=some ⟨oc123,od123,.func (fnOf "_law_divisor" "_law_divisor" (Zh ZaY) (Zg ZaY) (Za ZaY) .none kV123 dc123 pm123 an123 cd123 ct123),sl123⟩)
  (c123:codeIn K cd123 "_law_divisor"=true)
  (k123:keepIn K (.ref f123)=true)
  (a124:nsIn K mainGlobals "_law_low"=some (some (.ref f124)))
  (l124:K.lookup f124=some ⟨oc124,od124,.func (fnOf "_law_low" "_law_low" (Zh Zcb) (Zg Zcb) (Za Zcb) .none kV124 dc124 pm124 an124 cd124 ct124),sl124⟩)
  (c124:codeIn K cd124 "_law_low"=true)
  (k124:keepIn K (.ref f124)=true)
  (a125:nsIn K mainGlobals "_law_way"=some (some (.ref f125)))
  (l125:K.lookup f125=some ⟨oc125,od125,.func (fnOf "_law_way" "_law_way" (Zh Zcc) (Zg Zcc) (Za Zcc) .none kV125 dc125 pm125 an125 cd125 ct125),sl125⟩)
  (c125:codeIn K cd125 "_law_way"=true)
  (k125:keepIn K (.ref f125)=true)
  (a126:nsIn K mainGlobals "_law_same"=some (some (.ref f126)))
  (l126:K.lookup f126=some ⟨oc126,od126,.func (fnOf "_law_same" "_law_same" (Zh ZbD) (Zg ZbD) (Za ZbD) .none kV126 dc126 pm126 an126 cd126 ct126),sl126⟩)
  (c126:codeIn K cd126 "_law_same"=true)
  (k126:keepIn K (.ref f126)=true)
  (a127:nsIn K mainGlobals "_law_cost"=some (some (.ref f127)))
  (l127:K.lookup f127=some ⟨oc127,od127,.func (fnOf "_law_cost" "_law_cost" (Zh ZbO) (Zg ZbO) (Za ZbO) .none kV127 dc127 pm127 an127 cd127 ct127),sl127⟩)
  (c127:codeIn K cd127 "_law_cost"=true)
  (k127:keepIn K (.ref f127)=true)
  (a128:nsIn K mainGlobals "_law_refusal"=some (some (.ref f128)))
  (l128:K.lookup f128=some ⟨oc128,od128,.func (fnOf "_law_refusal" "_law_refusal" (Zh Za5) (Zg Za5) (Za Za5) .none kV128 dc128 pm128 an128 cd128 ct128),sl128⟩)
  (c128:codeIn K cd128 "_law_refusal"=true)
  (k128:keepIn K (.ref f128)=true)
  (a129:nsIn K mainGlobals "_law_asked"=some (some (.ref f129)))
  (l129:K.lookup f129=some ⟨oc129,od129,.func (fnOf "_law_asked" "_law_asked" (Zh Zbk) (Zg Zbk) (Za Zbk) .none kV129 dc129 pm129 an129 cd129 ct129),sl129⟩)
  (c129:codeIn K cd129 "_law_asked"=true)
  (k129:keepIn K (.ref f129)=true)
  (a130:nsIn K mainGlobals "_law_numbers"=some (some (.ref f130)))
  (l130:K.lookup f130=some ⟨oc130,od130,.func (fnOf "_law_numbers" "_law_numbers" (Zh Za2) (Zg Za2) (Za Za2) .none kV130 dc130 pm130 an130 cd130 ct130),sl130⟩)
  (c130:codeIn K cd130 "_law_numbers"=true)
  (k130:keepIn K (.ref f130)=true)
  (a131:nsIn K mainGlobals "_law_name"=some (some (.ref f131)))
  (l131:K.lookup f131=some ⟨oc131,od131,.func (fnOf "_law_name" "_law_name" (Zh ZbJ) (Zg ZbJ) (Za ZbJ) .none kV131 dc131 pm131 an131 cd131 ct131),sl131⟩)
  (c131:codeIn K cd131 "_law_name"=true)
  (k131:keepIn K (.ref f131)=true)
  (a132:nsIn K mainGlobals "_law_price_by"=some (some (.ref f132)))
  (l132:K.lookup f132=some ⟨oc132,od132,.func (fnOf "_law_price_by" "_law_price_by" (Zh ZaR) (Zg ZaR) (Za ZaR) .none kV132 dc132 pm132 an132 cd132 ct132),sl132⟩)
  (c132:codeIn K cd132 "_law_price_by"=true)
  (k132:keepIn K (.ref f132)=true)
  (a133:nsIn K mainGlobals "_law_roads_by"=some (some (.ref f133)))
  (l133:K.lookup f133=some ⟨oc133,od133,.func (fnOf "_law_roads_by" "_law_roads_by" (Zh Zaw) (Zg Zaw) (Za Zaw) .none kV133 dc133 pm133 an133 cd133 ct133),sl133⟩)
  (c133:codeIn K cd133 "_law_roads_by"=true)
  (k133:keepIn K (.ref f133)=true)
  (a134:nsIn K mainGlobals "_law_deed_by"=some (some (.ref f134)))
  (l134:K.lookup f134=some ⟨oc134,od134,.func (fnOf "_law_deed_by" "_law_deed_by" (Zh ZaZ) (Zg ZaZ) (Za ZaZ) .none kV134 dc134 pm134 an134 cd134 ct134),sl134⟩)
  (c134:codeIn K cd134 "_law_deed_by"=true)
  (k134:keepIn K (.ref f134)=true)
  (a135:nsIn K mainGlobals "_law_done"=some (some (.ref f135)))
  (l135:K.lookup f135=some ⟨oc135,od135,.func (fnOf "_law_done" "_law_done" (Zh ZbB) (Zg ZbB) (Za ZbB) .none kV135 dc135 pm135 an135 cd135 ct135),sl135⟩)
  (c135:codeIn K cd135 "_law_done"=true)
  (k135:keepIn K (.ref f135)=true)
  (a136:nsIn K mainGlobals "_law_do"=some (some (.ref f136)))
  (l136:K.lookup f136=some ⟨oc136,od136,.func (fnOf "_law_do" "_law_do" (Zh ZcQ) (Zg ZcQ) (Za ZcQ) .none kV136 dc136 pm136 an136 cd136 ct136),sl136⟩)
  (c136:codeIn K cd136 "_law_do"=true)
  (k136:keepIn K (.ref f136)=true)
  (a137:nsIn K mainGlobals "_law_stands"=some (some (.ref f137)))
  (l137:K.lookup f137=some ⟨oc137,od137,.func (fnOf "_law_stands" "_law_stands" (Zh Zbh) (Zg Zbh) (Za Zbh) .none kV137 dc137 pm137 an137 cd137 ct137),sl137⟩)
  (c137:codeIn K cd137 "_law_stands"=true)
  (k137:keepIn K (.ref f137)=true)
  (a138:nsIn K mainGlobals "law"=some (some (.ref f138)))
  (l138:K.lookup f138=some ⟨oc138,od138,.func (fnOf "law" "law" (Zh ZfV) (Zg ZfV) (Za ZfV) .none kV138 dc138 pm138 an138 cd138 ct138),sl138⟩)
  (c138:codeIn K cd138 "law"=true)
  (k138:keepIn K (.ref f138)=true)
  (ZgY:nsIn K mainGlobals "isinstance"=some none)
  (ZtM:nsIn K mainGlobals "int"=some none)
  (ZsK:nsIn K mainGlobals "bool"=some none)
  (ZtY:nsIn K mainGlobals "abs"=some none)
  (Zqs:nsIn K mainGlobals "tuple"=some none)
  (Zuf:nsIn K mainGlobals "len"=some none)
  (Zua:nsIn K mainGlobals "sum"=some none)
  (ZtZ:nsIn K mainGlobals "str"=some none)
  (Zuc:nsIn K mainGlobals "all"=some none)
  (ZrL:nsIn K mainGlobals "list"=some none)
  (ZqF:nsIn K mainGlobals "range"=some none)
  (ZoC:nsIn K mainGlobals "sorted"=some none)
  (Zt1:nsIn K mainGlobals "set"=some none)
  (ZrD:nsIn K mainGlobals "dict"=some none)
  (Zul:nsIn K mainGlobals "min"=some none)
  (ZtF:nsIn K mainGlobals "max"=some none)
  : ∃ fd:FuncData,(∀ (s:Shared) (v:Value),BindsTo s fd ⟨[v],[]⟩ [("_law_script",v)])/\∀ base:Heap,K.In base->base.Ns mainGlobals mg->FnOk l.prog w K mg base Zx 13 fa fd ["_law_script"] (Zk8 K):=by
 have e:=hfa.symm.trans (mg_of X G a138)
 cases e
 have Zf3:=mg_none_of X G ZtF
 have ZjP:=mg_none_of X G Zul
 have ZbS:=mg_none_of X G ZrD
 have Zgg:=mg_none_of X G Zt1
 have Zbv:=mg_none_of X G ZoC
 have Jk:=mg_none_of X G ZqF
 have Jg:=mg_none_of X G ZrL
 have Zo5:=mg_none_of X G Zuc
 have ZoU:=mg_none_of X G ZtZ
 have Zqo:=mg_none_of X G Zua
 have ZB:=mg_none_of X G Zuf
 have Zcr:=mg_none_of X G Zqs
 have Zix:=mg_none_of X G ZtY
 have Zfu:=mg_none_of X G ZsK
 have Zka:=mg_none_of X G ZtM
 have Zm:=mg_none_of X G ZgY
 have U0:=Zt (st:=ZbP) l0 c0 k0
 have b0:=U0.binds (ps:=["thing"]) λ_ _ _ _ _ _ us hl=>ZhN (Pr:=λus=>bindArgs _ ⟨us,[]⟩=pure (List.zip _ us)) us hl λ_=>rfl
 have U1:=Zt (st:=Zar) l1 c1 k1
 have b1:=U1.binds (ps:=["one","other"]) λ_ _ _ _ _ _ us hl=>JH (Pr:=λus=>bindArgs _ ⟨us,[]⟩=pure (List.zip _ us)) us hl λ_ _=>rfl
 have U2:=Zt (st:=Zax) l2 c2 k2
 have b2:=U2.binds (ps:=["one","other"]) λ_ _ _ _ _ _ us hl=>JH (Pr:=λus=>bindArgs _ ⟨us,[]⟩=pure (List.zip _ us)) us hl λ_ _=>rfl
 have U3:=Zt (st:=ZbN) l3 c3 k3
 have b3:=U3.binds (ps:=["thing"]) λ_ _ _ _ _ _ us hl=>ZhN (Pr:=λus=>bindArgs _ ⟨us,[]⟩=pure (List.zip _ us)) us hl λ_=>rfl
 have U4:=Zcj (st:=Zbs) l4 c4 k4
 have b4:Zy K (fnOf "ratio" "ratio" (Zh Zbs) (Zg Zbs) (Za Zbs) (.ref T4) kV4 dc4 pm4 an4 cd4 ct4) ["top","bottom"] []:=λs us Y hl=>match us,hl with | [_,_],_=>BindsTo.of_defaults (T:=T4) rfl (Y _ _ t4) rfl rfl rfl
 have b4_1:Zy K (fnOf "ratio" "ratio" (Zh Zbs) (Zg Zbs) (Za Zbs) (.ref T4) kV4 dc4 pm4 an4 cd4 ct4) ["top","bottom"] [.int 1 tk4_0]:=λs us Y hl=>by
  have hl2:us.length=1:=by simpa using hl
  exact match us,hl2 with | [_],_=>BindsTo.of_defaults (T:=T4) rfl (Y _ _ t4) rfl rfl rfl
 have U5:=Zt (st:=ZaH) l5 c5 k5
 have b5:=U5.binds (ps:=["some"]) λ_ _ _ _ _ _ us hl=>ZhN (Pr:=λus=>bindArgs _ ⟨us,[]⟩=pure (List.zip _ us)) us hl λ_=>rfl
 have U6:=Zt (st:=ZbG) l6 c6 k6
 have b6:=U6.binds (ps:=["one","bottom"]) λ_ _ _ _ _ _ us hl=>JH (Pr:=λus=>bindArgs _ ⟨us,[]⟩=pure (List.zip _ us)) us hl λ_ _=>rfl
 have U7:=Zt (st:=ZbF) l7 c7 k7
 have b7:=U7.binds (ps:=["some"]) λ_ _ _ _ _ _ us hl=>ZhN (Pr:=λus=>bindArgs _ ⟨us,[]⟩=pure (List.zip _ us)) us hl λ_=>rfl
 have U8:=Zt (st:=Zb9) l8 c8 k8
 have b8:=U8.binds (ps:=["one","other"]) λ_ _ _ _ _ _ us hl=>JH (Pr:=λus=>bindArgs _ ⟨us,[]⟩=pure (List.zip _ us)) us hl λ_ _=>rfl
 have U9:=Zt (st:=Zb6) l9 c9 k9
 have b9:=U9.binds (ps:=["one","other"]) λ_ _ _ _ _ _ us hl=>JH (Pr:=λus=>bindArgs _ ⟨us,[]⟩=pure (List.zip _ us)) us hl λ_ _=>rfl
 have g_MOST_LETTERS:=mg_of X G a_MOST_LETTERS
 have g_LETTERS:=mg_of X G a_LETTERS
 have ZcA:=mg_of X G a_ShareError
 have ZbA:=mg_of X G a_NoName
 have ZeV:=mg_of X G a_NoPlace
 have Zcd:=mg_of X G a_TooMany
 have Zbd:=mg_of X G a_NoSharing
 have xk0:ExcK K cNN:=⟨by rw [x00]; rfl,x10,x20,x30,x4,x5,x60,x70⟩
 have wc0:WordR K cNN cTM cNS cNP cSE cNN 0:=⟨xk0,kk00,kk01,kk02,kk03,ee0,by decide⟩
 have ec_NoName:ZkV K cNN:=ec0
 have xk1:ExcK K cTM:=⟨by rw [x01]; rfl,x11,x21,x31,x4,x5,x61,x71⟩
 have wc1:WordR K cNN cTM cNS cNP cSE cTM 1:=⟨xk1,kk10,kk11,kk12,kk13,ee1,by decide⟩
 have ec_TooMany:ZkV K cTM:=ec1
 have xk2:ExcK K cNS:=⟨by rw [x02]; rfl,x12,x22,x32,x4,x5,x62,x72⟩
 have wc2:WordR K cNN cTM cNS cNP cSE cNS 2:=⟨xk2,kk20,kk21,kk22,kk23,ee2,by decide⟩
 have ec_NoSharing:ZkV K cNS:=ec2
 have U65:=Zt (st:=Zb8) l65 c65 k65
 have b65:=U65.binds (ps:=["thing"]) λ_ _ _ _ _ _ us hl=>ZhN (Pr:=λus=>bindArgs _ ⟨us,[]⟩=pure (List.zip _ us)) us hl λ_=>rfl
 have U68:=Zt (st:=ZbI) l68 c68 k68
 have b68:=U68.binds (ps:=["thing"]) λ_ _ _ _ _ _ us hl=>ZhN (Pr:=λus=>bindArgs _ ⟨us,[]⟩=pure (List.zip _ us)) us hl λ_=>rfl
 have U69:=Zt (st:=Zca) l69 c69 k69
 have b69:=U69.binds (ps:=["thing","many"]) λ_ _ _ _ _ _ us hl=>JH (Pr:=λus=>bindArgs _ ⟨us,[]⟩=pure (List.zip _ us)) us hl λ_ _=>rfl
 have g_MOST_ROADS:=mg_of X G a_MOST_ROADS
 have U71:=Zt (st:=Zbf) l71 c71 k71
 have b71:=U71.binds (ps:=["thing"]) λ_ _ _ _ _ _ us hl=>ZhN (Pr:=λus=>bindArgs _ ⟨us,[]⟩=pure (List.zip _ us)) us hl λ_=>rfl
 have U72:=Zt (st:=ZbK) l72 c72 k72
 have b72:=U72.binds (ps:=["roads","k"]) λ_ _ _ _ _ _ us hl=>JH (Pr:=λus=>bindArgs _ ⟨us,[]⟩=pure (List.zip _ us)) us hl λ_ _=>rfl
 have Zi1:=mg_of X G a_Tree
 have ZI:Cls K cTree:=⟨pg_Tree,hd_Tree,po_Tree,sa_Tree⟩
 have oc_Tree:OwnCls K cTree:=⟨ZI,oa_Tree,ob_Tree,ot_Tree,om_Tree,ok_Tree⟩
 have U80:=Zt (st:=Zaj) l80 c80 k80
 have b80:Zy K (fnOf "__init__" "Tree.__init__" (Zh Zaj) (Zg Zaj) (Za Zaj) .none kV80 dc80 pm80 an80 cd80 ct80) ["self","roads"] []:=Zy.all λus hl=>JH (Pr:=λus=>bindArgs _ ⟨us,[]⟩=pure (List.zip _ us)) us hl λ_ _=>rfl
 have U81:=Zt (st:=ZaB) l81 c81 k81
 have b81:Zy K (fnOf "roads" "Tree.roads" (Zh ZaB) (Zg ZaB) (Za ZaB) .none kV81 dc81 pm81 an81 cd81 ct81) ["self"] []:=Zy.all λus hl=>ZhN (Pr:=λus=>bindArgs _ ⟨us,[]⟩=pure (List.zip _ us)) us hl λ_=>rfl
 have U82:=Zt (st:=ZaL) l82 c82 k82
 have b82:Zy K (fnOf "many" "Tree.many" (Zh ZaL) (Zg ZaL) (Za ZaL) .none kV82 dc82 pm82 an82 cd82 ct82) ["self"] []:=Zy.all λus hl=>ZhN (Pr:=λus=>bindArgs _ ⟨us,[]⟩=pure (List.zip _ us)) us hl λ_=>rfl
 have U83:=Zt (st:=Zab) l83 c83 k83
 have b83:Zy K (fnOf "look_crossing" "Tree.look_crossing" (Zh Zab) (Zg Zab) (Za Zab) .none kV83 dc83 pm83 an83 cd83 ct83) ["self","k"] []:=Zy.all λus hl=>JH (Pr:=λus=>bindArgs _ ⟨us,[]⟩=pure (List.zip _ us)) us hl λ_ _=>rfl
 have U84:=Zt (st:=Zah) l84 c84 k84
 have b84:Zy K (fnOf "look_road" "Tree.look_road" (Zh Zah) (Zg Zah) (Za Zah) .none kV84 dc84 pm84 an84 cd84 ct84) ["self","k"] []:=Zy.all λus hl=>JH (Pr:=λus=>bindArgs _ ⟨us,[]⟩=pure (List.zip _ us)) us hl λ_ _=>rfl
 have U85:=Zt (st:=Zak) l85 c85 k85
 have b85:Zy K (fnOf "leads_to" "Tree.leads_to" (Zh Zak) (Zg Zak) (Za Zak) .none kV85 dc85 pm85 an85 cd85 ct85) ["self","k"] []:=Zy.all λus hl=>JH (Pr:=λus=>bindArgs _ ⟨us,[]⟩=pure (List.zip _ us)) us hl λ_ _=>rfl
 have U86:=Zt (st:=Zay) l86 c86 k86
 have b86:Zy K (fnOf "price" "Tree.price" (Zh Zay) (Zg Zay) (Za Zay) .none kV86 dc86 pm86 an86 cd86 ct86) ["self","k"] []:=Zy.all λus hl=>JH (Pr:=λus=>bindArgs _ ⟨us,[]⟩=pure (List.zip _ us)) us hl λ_ _=>rfl
 have U87:=Zt (st:=Za4) l87 c87 k87
 have b87:Zy K (fnOf "way" "Tree.way" (Zh Za4) (Zg Za4) (Za Za4) .none kV87 dc87 pm87 an87 cd87 ct87) ["self","k"] []:=Zy.all λus hl=>JH (Pr:=λus=>bindArgs _ ⟨us,[]⟩=pure (List.zip _ us)) us hl λ_ _=>rfl
 have U88:=Zt (st:=ZcU) l88 c88 k88
 have b88:=U88.binds (ps:=["tree","homes","group"]) λ_ _ _ _ _ _ us hl=>J2 (Pr:=λus=>bindArgs _ ⟨us,[]⟩=pure (List.zip _ us)) us hl λ_ _ _=>rfl
 have U89:=Zt (st:=Zfz) l89 c89 k89
 have b89:=U89.binds (ps:=["tree","homes","group"]) λ_ _ _ _ _ _ us hl=>J2 (Pr:=λus=>bindArgs _ ⟨us,[]⟩=pure (List.zip _ us)) us hl λ_ _ _=>rfl
 have U90:=Zt (st:=ZaV) l90 c90 k90
 have b90:=U90.binds (ps:=["tree","homes"]) λ_ _ _ _ _ _ us hl=>JH (Pr:=λus=>bindArgs _ ⟨us,[]⟩=pure (List.zip _ us)) us hl λ_ _=>rfl
 have g_MOST_VILLAGES:=mg_of X G a_MOST_VILLAGES
 have U92:=Zt (st:=Zbg) l92 c92 k92
 have b92:=U92.binds (ps:=["price"]) λ_ _ _ _ _ _ us hl=>ZhN (Pr:=λus=>bindArgs _ ⟨us,[]⟩=pure (List.zip _ us)) us hl λ_=>rfl
 have U93:=Zt (st:=Zbl) l93 c93 k93
 have b93:=U93.binds (ps:=["tree"]) λ_ _ _ _ _ _ us hl=>ZhN (Pr:=λus=>bindArgs _ ⟨us,[]⟩=pure (List.zip _ us)) us hl λ_=>rfl
 have U94:=Zt (st:=Zbm) l94 c94 k94
 have b94:=U94.binds (ps:=["tree","k","road"]) λ_ _ _ _ _ _ us hl=>J2 (Pr:=λus=>bindArgs _ ⟨us,[]⟩=pure (List.zip _ us)) us hl λ_ _ _=>rfl
 have U95:=Zt (st:=ZaI) l95 c95 k95
 have b95:=U95.binds (ps:=["tree","road"]) λ_ _ _ _ _ _ us hl=>JH (Pr:=λus=>bindArgs _ ⟨us,[]⟩=pure (List.zip _ us)) us hl λ_ _=>rfl
 have ZqJ:=mg_of X G a_Shire
 have Ze:Cls K cShire:=⟨pg_Shire,hd_Shire,po_Shire,sa_Shire⟩
 have U97:=Zt (st:=Zag) l97 c97 k97
 have b97:Zy K (fnOf "__init__" "Shire.__init__" (Zh Zag) (Zg Zag) (Za Zag) .none kV97 dc97 pm97 an97 cd97 ct97) ["self","tree"] []:=Zy.all λus hl=>JH (Pr:=λus=>bindArgs _ ⟨us,[]⟩=pure (List.zip _ us)) us hl λ_ _=>rfl
 have U98:=Zt (st:=ZaX) l98 c98 k98
 have b98:Zy K (fnOf "do" "Shire.do" (Zh ZaX) (Zg ZaX) (Za ZaX) .none kV98 dc98 pm98 an98 cd98 ct98) ["self","land","places"] []:=Zy.all λus hl=>J2 (Pr:=λus=>bindArgs _ ⟨us,[]⟩=pure (List.zip _ us)) us hl λ_ _ _=>rfl
 have U99:=Zt (st:=Zat) l99 c99 k99
 have b99:Zy K (fnOf "place" "Shire.place" (Zh Zat) (Zg Zat) (Za Zat) .none kV99 dc99 pm99 an99 cd99 ct99) ["self","name","k"] []:=Zy.all λus hl=>J2 (Pr:=λus=>bindArgs _ ⟨us,[]⟩=pure (List.zip _ us)) us hl λ_ _ _=>rfl
 have U100:=Zcj (st:=Zac) l100 c100 k100
 have b100:Zy K (fnOf "look_village" "Shire.look_village" (Zh Zac) (Zg Zac) (Za Zac) .none kV100 dc100 pm100 an100 cd100 ct100) ["self","name"] []:=Zy.all λus hl=>JH (Pr:=λus=>bindArgs _ ⟨us,[]⟩=pure (List.zip _ us)) us hl λ_ _=>rfl
 have U103:=Zt (st:=ZaA) l103 c103 k103
 have b103:Zy K (fnOf "come" "Shire.come" (Zh ZaA) (Zg ZaA) (Za ZaA) .none kV103 dc103 pm103 an103 cd103 ct103) ["self","name","k"] []:=Zy.all λus hl=>J2 (Pr:=λus=>bindArgs _ ⟨us,[]⟩=pure (List.zip _ us)) us hl λ_ _ _=>rfl
 have U104:=Zt (st:=ZaW) l104 c104 k104
 have b104:Zy K (fnOf "go" "Shire.go" (Zh ZaW) (Zg ZaW) (Za ZaW) .none kV104 dc104 pm104 an104 cd104 ct104) ["self","name"] []:=Zy.all λus hl=>JH (Pr:=λus=>bindArgs _ ⟨us,[]⟩=pure (List.zip _ us)) us hl λ_ _=>rfl
 have U105:=Zt (st:=ZaC) l105 c105 k105
 have b105:Zy K (fnOf "move" "Shire.move" (Zh ZaC) (Zg ZaC) (Za ZaC) .none kV105 dc105 pm105 an105 cd105 ct105) ["self","name","k"] []:=Zy.all λus hl=>J2 (Pr:=λus=>bindArgs _ ⟨us,[]⟩=pure (List.zip _ us)) us hl λ_ _ _=>rfl
 have U106:=Zt (st:=Zai) l106 c106 k106
 have b106:Zy K (fnOf "reprice" "Shire.reprice" (Zh Zai) (Zg Zai) (Za Zai) .none kV106 dc106 pm106 an106 cd106 ct106) ["self","k","price"] []:=Zy.all λus hl=>J2 (Pr:=λus=>bindArgs _ ⟨us,[]⟩=pure (List.zip _ us)) us hl λ_ _ _=>rfl
 have U107:=Zt (st:=Zau) l107 c107 k107
 have b107:Zy K (fnOf "build" "Shire.build" (Zh Zau) (Zg Zau) (Za Zau) .none kV107 dc107 pm107 an107 cd107 ct107) ["self","to","price"] []:=Zy.all λus hl=>J2 (Pr:=λus=>bindArgs _ ⟨us,[]⟩=pure (List.zip _ us)) us hl λ_ _ _=>rfl
 have U108:=Zt (st:=ZaK) l108 c108 k108
 have b108:Zy K (fnOf "cut" "Shire.cut" (Zh ZaK) (Zg ZaK) (Za ZaK) .none kV108 dc108 pm108 an108 cd108 ct108) ["self","k","price"] []:=Zy.all λus hl=>J2 (Pr:=λus=>bindArgs _ ⟨us,[]⟩=pure (List.zip _ us)) us hl λ_ _ _=>rfl
 have U109:=Zt (st:=Zaz) l109 c109 k109
 have b109:Zy K (fnOf "tree" "Shire.tree" (Zh Zaz) (Zg Zaz) (Za Zaz) .none kV109 dc109 pm109 an109 cd109 ct109) ["self"] []:=Zy.all λus hl=>ZhN (Pr:=λus=>bindArgs _ ⟨us,[]⟩=pure (List.zip _ us)) us hl λ_=>rfl
 have U110:=Zt (st:=Zas) l110 c110 k110
 have b110:Zy K (fnOf "homes" "Shire.homes" (Zh Zas) (Zg Zas) (Za Zas) .none kV110 dc110 pm110 an110 cd110 ct110) ["self"] []:=Zy.all λus hl=>ZhN (Pr:=λus=>bindArgs _ ⟨us,[]⟩=pure (List.zip _ us)) us hl λ_=>rfl
 have U111:=Zcj (st:=Zal) l111 c111 k111
 have b111:Zy K (fnOf "cost_of" "Shire.cost_of" (Zh Zal) (Zg Zal) (Za Zal) .none kV111 dc111 pm111 an111 cd111 ct111) ["self","names"] []:=Zy.all λus hl=>JH (Pr:=λus=>bindArgs _ ⟨us,[]⟩=pure (List.zip _ us)) us hl λ_ _=>rfl
 have g_MOST_FOR_THIRD:=mg_of X G a_MOST_FOR_THIRD
 have U113:=Zcj (st:=Zam) l113 c113 k113
 have b113:Zy K (fnOf "look_villages" "look_villages" (Zh Zam) (Zg Zam) (Za Zam) .none kV113 dc113 pm113 an113 cd113 ct113) ["homes"] []:=Zy.all λus hl=>ZhN (Pr:=λus=>bindArgs _ ⟨us,[]⟩=pure (List.zip _ us)) us hl λ_=>rfl
 have U114:=Zcj (st:=Zcs) l114 c114 k114
 have b114:Zy K (fnOf "third" "third" (Zh Zcs) (Zg Zcs) (Za Zcs) .none kV114 dc114 pm114 an114 cd114 ct114) ["tree","homes"] []:=Zy.all λus hl=>JH (Pr:=λus=>bindArgs _ ⟨us,[]⟩=pure (List.zip _ us)) us hl λ_ _=>rfl
 have U115:=Zt (st:=Zbx) l115 c115 k115
 have b115:=U115.binds (ps:=["tree","homes"]) λ_ _ _ _ _ _ us hl=>JH (Pr:=λus=>bindArgs _ ⟨us,[]⟩=pure (List.zip _ us)) us hl λ_ _=>rfl
 have U116:=Zt (st:=Zdq) l116 c116 k116
 have b116:=U116.binds (ps:=["tree","homes"]) λ_ _ _ _ _ _ us hl=>JH (Pr:=λus=>bindArgs _ ⟨us,[]⟩=pure (List.zip _ us)) us hl λ_ _=>rfl
 have U117:=Zcj (st:=Zap) l117 c117 k117
 have b117:Zy K (fnOf "shares" "Shire.shares" (Zh Zap) (Zg Zap) (Za Zap) .none kV117 dc117 pm117 an117 cd117 ct117) ["self","rule"] []:=Zy.all λus hl=>JH (Pr:=λus=>bindArgs _ ⟨us,[]⟩=pure (List.zip _ us)) us hl λ_ _=>rfl
 have U118:=Zcj (st:=Zao) l118 c118 k118
 have b118:Zy K (fnOf "look_sharing" "look_sharing" (Zh Zao) (Zg Zao) (Za Zao) .none kV118 dc118 pm118 an118 cd118 ct118) ["tree","homes","sharing"] []:=Zy.all λus hl=>J2 (Pr:=λus=>bindArgs _ ⟨us,[]⟩=pure (List.zip _ us)) us hl λ_ _ _=>rfl
 have U119:=Zcj (st:=Zbw) l119 c119 k119
 have b119:Zy K (fnOf "judged" "judged" (Zh Zbw) (Zg Zbw) (Za Zbw) .none kV119 dc119 pm119 an119 cd119 ct119) ["tree","homes","sharing"] []:=Zy.all λus hl=>J2 (Pr:=λus=>bindArgs _ ⟨us,[]⟩=pure (List.zip _ us)) us hl λ_ _ _=>rfl
 have U120:=Zcj (st:=Zav) l120 c120 k120
 have b120:Zy K (fnOf "judge" "Shire.judge" (Zh Zav) (Zg Zav) (Za Zav) .none kV120 dc120 pm120 an120 cd120 ct120) ["self","sharing"] []:=Zy.all λus hl=>JH (Pr:=λus=>bindArgs _ ⟨us,[]⟩=pure (List.zip _ us)) us hl λ_ _=>rfl
 have U121:=Zt (st:=Za1) l121 c121 k121
 have b121:=U121.binds (ps:=["_law_script","_law_k"]) λ_ _ _ _ _ _ us hl=>JH (Pr:=λus=>bindArgs _ ⟨us,[]⟩=pure (List.zip _ us)) us hl λ_ _=>rfl
 have U122:=Zt (st:=Zbo) l122 c122 k122
 have b122:=U122.binds (ps:=["_law_found"]) λ_ _ _ _ _ _ us hl=>ZhN (Pr:=λus=>bindArgs _ ⟨us,[]⟩=pure (List.zip _ us)) us hl λ_=>rfl
 have U123:=Zt (st:=ZaY) l123 c123 k123
 have b123:=U123.binds (ps:=["_law_one","_law_other"]) λ_ _ _ _ _ _ us hl=>JH (Pr:=λus=>bindArgs _ ⟨us,[]⟩=pure (List.zip _ us)) us hl λ_ _=>rfl
 have U124:=Zt (st:=Zcb) l124 c124 k124
 have b124:=U124.binds (ps:=["_law_top","_law_bottom"]) λ_ _ _ _ _ _ us hl=>JH (Pr:=λus=>bindArgs _ ⟨us,[]⟩=pure (List.zip _ us)) us hl λ_ _=>rfl
 have U125:=Zt (st:=Zcc) l125 c125 k125
 have b125:=U125.binds (ps:=["_law_roads","_law_k"]) λ_ _ _ _ _ _ us hl=>JH (Pr:=λus=>bindArgs _ ⟨us,[]⟩=pure (List.zip _ us)) us hl λ_ _=>rfl
 have U126:=Zt (st:=ZbD) l126 c126 k126
 have b126:=U126.binds (ps:=["_law_found","_law_due"]) λ_ _ _ _ _ _ us hl=>JH (Pr:=λus=>bindArgs _ ⟨us,[]⟩=pure (List.zip _ us)) us hl λ_ _=>rfl
 have U127:=Zt (st:=ZbO) l127 c127 k127
 have b127:=U127.binds (ps:=["_law_roads","_law_homes","_law_names"]) λ_ _ _ _ _ _ us hl=>J2 (Pr:=λus=>bindArgs _ ⟨us,[]⟩=pure (List.zip _ us)) us hl λ_ _ _=>rfl
 have U128:=Zt (st:=Za5) l128 c128 k128
 have b128:=U128.binds (ps:=["_law_shire","_law_what","_law_thing"]) λ_ _ _ _ _ _ us hl=>J2 (Pr:=λus=>bindArgs _ ⟨us,[]⟩=pure (List.zip _ us)) us hl λ_ _ _=>rfl
 have U129:=Zt (st:=Zbk) l129 c129 k129
 have b129:=U129.binds (ps:=["_law_shire","_law_roads","_law_homes","_law_v"]) λ_ _ _ _ _ _ us hl=>ZuB (Pr:=λus=>bindArgs _ ⟨us,[]⟩=pure (List.zip _ us)) us hl λ_ _ _ _=>rfl
 have U130:=Zt (st:=Za2) l130 c130 k130
 have b130:=U130.binds (ps:=["_law_cell","_law_many"]) λ_ _ _ _ _ _ us hl=>JH (Pr:=λus=>bindArgs _ ⟨us,[]⟩=pure (List.zip _ us)) us hl λ_ _=>rfl
 have U131:=Zt (st:=ZbJ) l131 c131 k131
 have b131:=U131.binds (ps:=["_law_k","_law_seed"]) λ_ _ _ _ _ _ us hl=>JH (Pr:=λus=>bindArgs _ ⟨us,[]⟩=pure (List.zip _ us)) us hl λ_ _=>rfl
 have U132:=Zt (st:=ZaR) l132 c132 k132
 have b132:=U132.binds (ps:=["_law_v","_law_wide","_law_cell"]) λ_ _ _ _ _ _ us hl=>J2 (Pr:=λus=>bindArgs _ ⟨us,[]⟩=pure (List.zip _ us)) us hl λ_ _ _=>rfl
 have U133:=Zt (st:=Zaw) l133 c133 k133
 have b133:=U133.binds (ps:=["_law_cell","_law_most"]) λ_ _ _ _ _ _ us hl=>JH (Pr:=λus=>bindArgs _ ⟨us,[]⟩=pure (List.zip _ us)) us hl λ_ _=>rfl
 have U134:=Zt (st:=ZaZ) l134 c134 k134
 have b134:=U134.binds (ps:=["_law_v","_law_roads","_law_homes","_law_k"]) λ_ _ _ _ _ _ us hl=>ZuB (Pr:=λus=>bindArgs _ ⟨us,[]⟩=pure (List.zip _ us)) us hl λ_ _ _ _=>rfl
 have U135:=Zt (st:=ZbB) l135 c135 k135
 have b135:=U135.binds (ps:=["_law_deed","_law_roads","_law_homes"]) λ_ _ _ _ _ _ us hl=>J2 (Pr:=λus=>bindArgs _ ⟨us,[]⟩=pure (List.zip _ us)) us hl λ_ _ _=>rfl
 have U136:=Zt (st:=ZcQ) l136 c136 k136
 have b136:=U136.binds (ps:=["_law_shire","_law_deed"]) λ_ _ _ _ _ _ us hl=>JH (Pr:=λus=>bindArgs _ ⟨us,[]⟩=pure (List.zip _ us)) us hl λ_ _=>rfl
 have U137:=Zt (st:=Zbh) l137 c137 k137
 have b137:=U137.binds (ps:=["_law_shire","_law_roads","_law_homes"]) λ_ _ _ _ _ _ us hl=>J2 (Pr:=λus=>bindArgs _ ⟨us,[]⟩=pure (List.zip _ us)) us hl λ_ _ _=>rfl
 have U138:=Zt (st:=ZfV) l138 c138 k138
 refine⟨fnOf "law" "law" (Zh ZfV) (Zg ZfV) (Za ZfV) .none kV138 dc138 pm138 an138 cd138 ct138,λs v=>.of_eq rfl,λbase _ _=>?_⟩
 have Zaq:=ZZ X G a0 k0 b0 (My.ZhR (P:=l.prog) (w:=w) (base:=base) U0 Zm Zka Zfu)
 have Zad:=ZZ X G a1 k1 b1 (My.Zrt (P:=l.prog) (w:=w) (base:=base) U1 Zix)
 have Zbu:=ZZ X G a2 k2 b2 (My.ZsV (P:=l.prog) (w:=w) (base:=base) U2 Zad)
 have ZdS:=ZZ X G a3 k3 b3 (My.Zin (P:=l.prog) (w:=w) (base:=base) U3 Zm Zcr ZB Zaq Zad)
 have ZqY:=My.Zoe (P:=l.prog) (w:=w) (base:=base) U4 Zaq Zad
 have ZdZ:Fn l.prog w K mg base Zx _ "ratio" ["top","bottom"] _:=⟨f4,_,ZqY,b4,k4,mg_of X G a4⟩
 have ZbV:=ZZ X G a5 k5 b5 (My.Zmm (P:=l.prog) (w:=w) (base:=base) U5 Zbu)
 have ZdV:=ZZ X G a6 k6 b6 (My.Zr6 (P:=l.prog) (w:=w) (base:=base) U6 )
 have ZbE:=ZZ X G a7 k7 b7 (My.Zna (P:=l.prog) (w:=w) (base:=base) U7 Zqo ZbV ZdV ZdZ)
 have ZeF:=ZZ X G a8 k8 b8 (My.Zp2 (P:=l.prog) (w:=w) (base:=base) U8 ZdZ)
 have ZeT:=ZZ X G a9 k9 b9 (My.Zqd (P:=l.prog) (w:=w) (base:=base) U9 )
 have ZcJ:=ZZ X G a65 k65 b65 (My.ZfC (P:=l.prog) (w:=w) (base:=base) U65 Zm ZoU ZB Zo5 g_MOST_LETTERS g_LETTERS)
 have Zsq:=(My.ZfC (P:=l.prog) (w:=w) (base:=base) U65 Zm ZoU ZB Zo5 g_MOST_LETTERS g_LETTERS).imp (sp':=ZeQ) λvs H Q E h=>ZjA h
 have Zsz:Fn l.prog w K mg base Zx _ "is_name" ["thing"] _:=⟨_,_,Zsq,b65,k65,mg_of X G a65⟩
 have ZbH:=ZZ X G a68 k68 b68 (My.Zh6 (P:=l.prog) (w:=w) (base:=base) U68 ZdS)
 have Zey:=ZZ X G a69 k69 b69 (My.ZjQ (P:=l.prog) (w:=w) (base:=base) U69 Zm Zcr ZB Zaq ZbH)
 have ZcO:=ZZ X G a71 k71 b71 (My.ZpQ (P:=l.prog) (w:=w) (base:=base) U71 Zm Jg ZB g_MOST_ROADS Zey)
 have ZdU:=ZZ X G a72 k72 b72 (My.Zqh (P:=l.prog) (w:=w) (base:=base) U72 ZB)
 have ZeP:=My.ZqN (P:=l.prog) (w:=w) (base:=base) U80 Jg ZB Jk ZI Zbb Zcn ZcO ZdU
 have Zdy:Mkr l.prog w K mg base Zx _ cTree "Tree" ["self","roads"] _:=⟨f80,_,ZeP,b80,⟨mk80,a80,i80,kc80⟩,Zi1⟩
 have ZgI:=My.ZkZ (P:=l.prog) (w:=w) (base:=base) U81 Jg ZI Zbb
 have Zbt:Mth l.prog w K mg base Zx _ cTree "roads" ["self"] _:=⟨f81,_,ZgI,b81,⟨a81,i81,k81⟩,ZI⟩
 have Zif:=My.Zq5 (P:=l.prog) (w:=w) (base:=base) U82 ZB ZI Zcn
 have ZbQ:Mth l.prog w K mg base Zx _ cTree "many" ["self"] _:=⟨f82,_,Zif,b82,⟨a82,i82,k82⟩,ZI⟩
 have ZcX:=My.Znc (P:=l.prog) (w:=w) (base:=base) U83 (CNP:=0) Zaq ZbQ
 have Zaa:Mth l.prog w K mg base Zx _ cTree "look_crossing" ["self","k"] _:=⟨f83,_,ZcX,b83,⟨a83,i83,k83⟩,ZI⟩
 have Zed:=My.ZnU (P:=l.prog) (w:=w) (base:=base) U84 Zaa
 have ZaP:Mth l.prog w K mg base Zx _ cTree "look_road" ["self","k"] _:=⟨f84,_,Zed,b84,⟨a84,i84,k84⟩,ZI⟩
 have Zfb:=My.ZlV (P:=l.prog) (w:=w) (base:=base) U85 ZI Zbb ZaP
 have ZbM:Mth l.prog w K mg base Zx _ cTree "leads_to" ["self","k"] _:=⟨f85,_,Zfb,b85,⟨a85,i85,k85⟩,ZI⟩
 have ZgZ:=My.ZkJ (P:=l.prog) (w:=w) (base:=base) U86 ZI Zbb ZaP
 have ZdI:Mth l.prog w K mg base Zx _ cTree "price" ["self","k"] _:=⟨f86,_,ZgZ,b86,⟨a86,i86,k86⟩,ZI⟩
 have Zke:=My.ZqQ (P:=l.prog) (w:=w) (base:=base) U87 Jg ZI Zcn Zaa
 have Zq1:Mth l.prog w K mg base Zx _ cTree "way" ["self","k"] _:=⟨f87,_,Zke,b87,⟨a87,i87,k87⟩,ZI⟩
 have Zgd:=ZZ X G a88 k88 b88 (My.ZlS (P:=l.prog) (w:=w) (base:=base) U88 Zbv Zgg Zq1)
 have Zfy:=ZZ X G a89 k89 b89 (My.Zp7 (P:=l.prog) (w:=w) (base:=base) U89 ZbE Zgd ZdI)
 have Zco:=ZZ X G a90 k90 b90 (My.ZjD (P:=l.prog) (w:=w) (base:=base) U90 Jg Zfy)
 have ZaD:=ZZ X G a92 k92 b92 (My.ZgJ (P:=l.prog) (w:=w) (base:=base) U92 ZbH)
 have Zbp:=ZZ X G a93 k93 b93 (My.ZhQ (P:=l.prog) (w:=w) (base:=base) U93 g_MOST_ROADS ZbQ)
 have Zbn:=ZZ X G a94 k94 b94 (My.ZhV (P:=l.prog) (w:=w) (base:=base) U94 Zbt Zdy)
 have ZaG:=ZZ X G a95 k95 b95 (My.Ziv (P:=l.prog) (w:=w) (base:=base) U95 Zbt Zdy)
 have Zd8:=My.ZoB (P:=l.prog) (w:=w) (base:=base) U97 (mg:=mg) Ze Zs Zp ZdG
 have Zgk:Mkr l.prog w K mg base Zx _ cShire "Shire" ["self","tree"] _:=⟨f97,_,Zd8,b97,⟨mk97,a97,i97,kc97⟩,ZqJ⟩
 have Zj8:=My.ZtR (P:=l.prog) (w:=w) (base:=base) U98 (mg:=mg) (CT:=cTree) Ze Zs Zp ZdG
 have ZhD:Mth l.prog w K mg base Zx _ cShire "do" ["self","land","places"] _:=⟨f98,_,Zj8,b98,⟨a98,i98,k98⟩,Ze⟩
 have ZgB:=My.Zo2 (P:=l.prog) (w:=w) (base:=base) U99 ZbS Ze Zs Zp ZhD
 have ZdF:Mth l.prog w K mg base Zx _ cShire "place" ["self","name","k"] _:=⟨f99,_,ZgB,b99,⟨a99,i99,k99⟩,Ze⟩
 have Za6:=My.Zk2 (P:=l.prog) (w:=w) (base:=base) U100 (CT:=cTree) ZbA ec_NoName Ze Zp ZcJ
 have ZlG:Mth l.prog w K mg base Zx _ cShire "look_village" ["self","name"] _:=⟨f100,_,Zf2 Za6,b100,⟨a100,i100,k100⟩,Ze⟩
 have ZaE:Mth l.prog w K mg base (CX1 l.prog w) _ cShire "look_village" ["self","name"] _:=⟨f100,_,Za6,b100,⟨a100,i100,k100⟩,Ze⟩
 have ZnC:=(Zf2 Za6).imp (sp':=Zej cShire cTree) λvs H Q E h=>ZkC (E:=E0) h
 have Zjb:Mth l.prog w K mg base Zx _ cShire "look_village" ["self","name"] _:=⟨_,_,ZnC,b100,⟨a100,i100,k100⟩,Ze⟩
 have Zht:=My.ZpM (P:=l.prog) (w:=w) (base:=base) U103 ZB g_MOST_VILLAGES Ze Zs Zp Zsz Zaa ZdF
 have Zl4:Mth l.prog w K mg base Zx _ cShire "come" ["self","name","k"] _:=⟨f103,_,Zht,b103,⟨a103,i103,k103⟩,Ze⟩
 have ZjT:=My.Zuj (P:=l.prog) (w:=w) (base:=base) U104 ZbS Ze Zs Zp Zjb ZhD
 have ZtL:Mth l.prog w K mg base Zx _ cShire "go" ["self","name"] _:=⟨f104,_,ZjT,b104,⟨a104,i104,k104⟩,Ze⟩
 have ZgV:=My.ZpL (P:=l.prog) (w:=w) (base:=base) U105 Ze Zs Zjb Zaa ZdF
 have ZkD:Mth l.prog w K mg base Zx _ cShire "move" ["self","name","k"] _:=⟨f105,_,ZgV,b105,⟨a105,i105,k105⟩,Ze⟩
 have ZeN:=My.Zkg (P:=l.prog) (w:=w) (base:=base) U106 Ze Zs Zp ZaP ZbM ZaD Zbn ZhD
 have ZeE:Mth l.prog w K mg base Zx _ cShire "reprice" ["self","k","price"] _:=⟨f106,_,ZeN,b106,⟨a106,i106,k106⟩,Ze⟩
 have Zgi:=My.Zo7 (P:=l.prog) (w:=w) (base:=base) U107 Ze Zs Zp Zaa ZbQ ZaD Zbp ZaG ZhD
 have ZhX:Mth l.prog w K mg base Zx _ cShire "build" ["self","to","price"] _:=⟨f107,_,Zgi,b107,⟨a107,i107,k107⟩,Ze⟩
 have Zh0:=My.ZrJ (P:=l.prog) (w:=w) (base:=base) U108 Ze Zs Zp ZdI ZbM ZbQ ZaD ZeT Zbp ZaG Zbn ZeF ZhD
 have Zqv:Mth l.prog w K mg base Zx _ cShire "cut" ["self","k","price"] _:=⟨f108,_,Zh0,b108,⟨a108,i108,k108⟩,Ze⟩
 have ZgH:=My.Zn5 (P:=l.prog) (w:=w) (base:=base) U109 (mg:=mg) (CT:=cTree) Ze Zs
 have Zky:Mth l.prog w K mg base Zx _ cShire "tree" ["self"] _:=⟨f109,_,ZgH,b109,⟨a109,i109,k109⟩,Ze⟩
 have Zf5:=My.ZkX (P:=l.prog) (w:=w) (base:=base) U110 (CT:=cTree) ZbS Ze Zp
 have Zit:Mth l.prog w K mg base Zx _ cShire "homes" ["self"] _:=⟨f110,_,Zf5,b110,⟨a110,i110,k110⟩,Ze⟩
 have ZcH:=My.Zl7 (P:=l.prog) (w:=w) (base:=base) U111 ZB Zgg ZbA ec_NoName Ze Zs Zp Zfy ZaE
 have Zjv:Mth l.prog w K mg base Zx _ cShire "cost_of" ["self","names"] _:=⟨f111,_,Zf2 ZcH,b111,⟨a111,i111,k111⟩,Ze⟩
 have ZcN:Mth l.prog w K mg base (CX1 l.prog w) _ cShire "cost_of" ["self","names"] _:=⟨f111,_,ZcH,b111,⟨a111,i111,k111⟩,Ze⟩
 have ZcF:=My.Zoh (P:=l.prog) (w:=w) (base:=base) U113 ZB g_MOST_FOR_THIRD Zcd ec_TooMany
 have ZbR:Fn l.prog w K mg base (CX1 l.prog w) _ "look_villages" ["homes"] _:=⟨f113,_,ZcF,b113,k113,mg_of X G a113⟩
 have Zkr:Fn l.prog w K mg base Zx _ "look_villages" ["homes"] _:=⟨f113,_,Zf2 ZcF,b113,k113,mg_of X G a113⟩
 have ZmI:=My.ZlA (P:=l.prog) (w:=w) (base:=base) U114 ZbR
 have Zik:Fn l.prog w K mg base (CX1 l.prog w) _ "third" ["tree","homes"] _:=⟨f114,_,ZmI,b114,k114,mg_of X G a114⟩
 have Ztm:Fn l.prog w K mg base Zx _ "third" ["tree","homes"] _:=⟨f114,_,Zf2 ZmI,b114,k114,mg_of X G a114⟩
 have Zcl:=ZZ X G a115 k115 b115 (My.ZiO (P:=l.prog) (w:=w) (base:=base) U115 )
 have Zes:=ZZ X G a116 k116 b116 (My.ZiO (P:=l.prog) (w:=w) (base:=base) U116 )
 have Zc0:=My.ZjB (P:=l.prog) (w:=w) (base:=base) U117 (CT:=cTree) Ze Zs Zp Zcl Zes Zik
 have ZsB:Mth l.prog w K mg base Zx _ cShire "shares" ["self","rule"] _:=⟨f117,_,Zf2 Zc0,b117,⟨a117,i117,k117⟩,Ze⟩
 have ZgC:Mth l.prog w K mg base (CX1 l.prog w) _ cShire "shares" ["self","rule"] _:=⟨f117,_,Zc0,b117,⟨a117,i117,k117⟩,Ze⟩
 have ZcY:=My.Zkz (P:=l.prog) (w:=w) (base:=base) U118 Zbd ec_NoSharing Zgg Jg ZbE Zco
 have Zb4:Fn l.prog w K mg base (CX1 l.prog w) _ "look_sharing" ["tree","homes","sharing"] _:=⟨f118,_,ZcY,b118,k118,mg_of X G a118⟩
 have ZlM:Fn l.prog w K mg base Zx _ "look_sharing" ["tree","homes","sharing"] _:=⟨f118,_,Zf2 ZcY,b118,k118,mg_of X G a118⟩
 have Zjf:=My.ZiD (P:=l.prog) (w:=w) (base:=base) U119 Zb4
 have ZfX:Fn l.prog w K mg base (CX1 l.prog w) _ "judged" ["tree","homes","sharing"] _:=⟨f119,_,Zjf,b119,k119,mg_of X G a119⟩
 have Zsr:Fn l.prog w K mg base Zx _ "judged" ["tree","homes","sharing"] _:=⟨f119,_,Zf2 Zjf,b119,k119,mg_of X G a119⟩
 have Zdt:=My.Zjt (P:=l.prog) (w:=w) (base:=base) U120 Ze Zs Zp ZfX
 have Zts:Mth l.prog w K mg base Zx _ cShire "judge" ["self","sharing"] _:=⟨f120,_,Zf2 Zdt,b120,⟨a120,i120,k120⟩,Ze⟩
 have Zhz:Mth l.prog w K mg base (CX1 l.prog w) _ cShire "judge" ["self","sharing"] _:=⟨f120,_,Zdt,b120,⟨a120,i120,k120⟩,Ze⟩
 have Zby:=ZZ X G a121 k121 b121 (My.ZpF (P:=l.prog) (w:=w) (base:=base) U121 ZB)
 have Zch:=ZZ X G a122 k122 b122 (My.ZgR (P:=l.prog) (w:=w) (base:=base) U122 Zm Zka Zfu)
 have Zcu:=ZZ X G a123 k123 b123 (My.ZjH (P:=l.prog) (w:=w) (base:=base) U123 Zix)
 have ZX:=ZZ X G a124 k124 b124 (My.Zp5 (P:=l.prog) (w:=w) (base:=base) U124 Zcu)
 have ZeA:=ZZ X G a125 k125 b125 (My.ZsI (P:=l.prog) (w:=w) (base:=base) U125 )
 have ZdO:=ZZ X G a126 k126 b126 (My.Zrg (P:=l.prog) (w:=w) (base:=base) U126 Zm Zcr ZB Zch)
 have ZcP:=ZZ X G a127 k127 b127 (My.ZoA (P:=l.prog) (w:=w) (base:=base) U127 ZeA ZX)
 have ZaN:=ZZ X G a128 k128 b128 (My.ZmU (P:=l.prog) (w:=w) (base:=base) U128 Zm ZcA ZbA Zcd Zbd ZeV ZcN ZgC Zhz)
 have Zdj:=ZZ X G a129 k129 b129 (My.ZoH (P:=l.prog) (w:=w) (base:=base) U129 Zbv Jk ZB Jg wc0 wc1 wc2 ZdO ZcP ZX ZaN Zjv)
 have Za3:=ZZ X G a130 k130 b130 (My.Ziq (P:=l.prog) (w:=w) (base:=base) U130 Jk)
 have ZdN:=ZZ X G a131 k131 b131 (My.Znz (P:=l.prog) (w:=w) (base:=base) U131 Jk)
 have Zb0:=ZZ X G a132 k132 b132 (My.Zmo (P:=l.prog) (w:=w) (base:=base) U132 ZX)
 have Zb3:=ZZ X G a133 k133 b133 (My.Zlq (P:=l.prog) (w:=w) (base:=base) U133 Jk ZjP Zf3 Za3 Zb0)
 have Zcq:=ZZ X G a134 k134 b134 (My.Zlk (P:=l.prog) (w:=w) (base:=base) U134 Zbv ZB Zf3 ZX ZdN)
 have ZdY:=ZZ X G a135 k135 b135 (My.Zrb (P:=l.prog) (w:=w) (base:=base) U135 Jg ZbS ZB ZX)
 have Zgz:=ZZ X G a136 k136 b136 (My.Zr4 (P:=l.prog) (w:=w) (base:=base) U136 Zl4 ZtL ZkD ZeE ZhX Zqv)
 have ZcG:=ZZ X G a137 k137 b137 (My.ZmE (P:=l.prog) (w:=w) (base:=base) U137 Zm ZB ZbS Zi1 oc_Tree Zky Zit Zbt ZbQ)
 exact My.ZsN (P:=l.prog) (w:=w) (base:=base) U138 Jg ZB Jk Zf3 ZjP Zby Zb3 Za3 Zcq Zgz ZdY Zdj ZcG Zdy Zgk Zbt
end My
namespace PySem.W.Fast
def tw3578586574060379784:=()
def tw5597048466026252535:=()
def tw13535583157730686070:=()
def tw4802942846763128129:=()
def tw7102696752002888015:=()
def tw5588397811371403087:=()
def tw11458618085707772854:=()
def tw18332144332917328698:=()
def tw18192658406543825330:=()
def tw7246223061989226278:=()
def tw8185853045806591761:=()
def tw6878868767201976329:=()
def tw13586448783751844907:=()
def tw14156580403864970928:=()
def tw9990006264102902416:=()
def tw6000537522519504280:=()
def tw7297853937323249675:=()
def tw8218483678352471061:=()
def tw6275230461663568977:=()
def tw2687708728934095093:=()
def tw3963262696769426207:=()
def tw9962210494757280769:=()
def tw13271577392002773647:=()
def tw15759318046370395038:=()
def tw1005248781614770496:=()
def tw6732567121678021538:=()
def tw10094356087017765906:=()
def tw9518051652361470996:=()
def tw8840166435627032981:=()
def tw889307496898097254:=()
def tw13633558665516060227:=()
def tw5643797071422800343:=()
def tw17473536457716600460:=()
def tw10605499381735418617:=()
def tw17760482573544399974:=()
def tw15182813475417128277:=()
def tw9586238749048448078:=()
def tw1391071910425414069:=()
def tw17384764866646264866:=()
def tw1564953471201094837:=()
def tw13025062631956588504:=()
def tw2087312223005226611:=()
def tw11294860129230042665:=()
def tw11489041194808249562:=()
def tw12852762171078967887:=()
def tw11902935584908279829:=()
def tw10654189224438566877:=()
def tw14013906793661611879:=()
def tw13729978565484376027:=()
def tw7240071657562966049:=()
def tw11438169426575540880:=()
def tw2509883937044313410:=()
def tw11755962766933683774:=()
def tw5452328873181161880:=()
def tw10711537482698107849:=()
def tw12053596998077258839:=()
def tw9047121834608197855:=()
def tw2181482238973976318:=()
def tw3286683831816031479:=()
def tw9248223254122341824:=()
def tw17708091244339415615:=()
def tw3492970641737759362:=()
def tw13068474015559543798:=()
def tw7681255231219088807:=()
def tw3998213542604054185:=()
def tw10975186125356160946:=()
def tw18219228419051681556:=()
def tw15090825360870289266:=()
def tw14461448569170818720:=()
def tw3067594465541329468:=()
def tw917482197789262782:=()
def tw5150069515019925780:=()
def tw1889883629928980550:=()
def tw13274570099258199830:=()
def tw9863913224722525238:=()
def tw15687612054646945914:=()
def tw17677424049156146271:=()
def tw136732885518413117:=()
def tw18149148914191553514:=()
def tw11465621848208798025:=()
def tw18252446977821884322:=()
def tw15468172070688485020:=()
def tw13087976057430621837:=()
def tw2794292040789890787:=()
def tw7506910056469380085:=()
def tw2433639543828132972:=()
def tw5876264783967912833:=()
def tw17606933313340102306:=()
def tw3309724267526441085:=()
def tw11146496949941629033:=()
def tw10575797826978628009:=()
def tw1851199341651544978:=()
def tw17593270302300035456:=()
def tw4465210277505418551:=()
def tw9752951219041006808:=()
def tw4912140405986190124:=()
def tw12511152474358680411:=()
def tw11763718690439648279:=()
def tw10790481320230150697:=()
def tw15611996694405354683:=()
def tw5222128103864240132:=()
def tw15021195315221302360:=()
def tw1632225653899503628:=()
def tw15094448029129667824:=()
def tw3691217139444773005:=()
def tw7786810469992819447:=()
def tw14992369245589911852:=()
def tw10350810007089215648:=()
def tw4185438029536207785:=()
def tw463553240085274134:=()
def tw13088111200828652269:=()
def tw1439457128394562332:=()
def tw7516049314329047476:=()
def tw10640136585355970347:=()
def tw14754659745894446326:=()
def tw10905773345920130108:=()
def tw605965131973350999:=()
def tw11464004209252345075:=()
def tw6557093667999806247:=()
def tw17359676897003860984:=()
def tw9738095910694526837:=()
def tw12023508415237597558:=()
def tw4828218876539540102:=()
def tw14170546955635525809:=()
def tw3792604207820347144:=()
def tw4245342491249416087:=()
def tw5771446702660086520:=()
def tw2976065307810913292:=()
def tw3990061989718921967:=()
def tw726492950850449367:=()
def tw11204574790840008972:=()
def tw11691378828190838064:=()
def tw11803526934465422948:=()
def tw7158869166033942680:=()
def tw9656665409753132273:=()
def tw8209017955004440583:=()
def tw2323725641883067443:=()
def tw8424099080369492637:=()
def tw18322829682217895420:=()
def tw5056782971737732220:=()
def tw10395444876239276528:=()
def tw9692134401637644923:=()
def tw3087468030756793231:=()
def tw11210114618326914898:=()
def tw2531274554377759187:=()
def tw4471811656815277184:=()
def tw2866610013510415330:=()
def tw1888249237606302859:=()
def tw2444136513616402274:=()
def tw10843887671646146021:=()
def tw3794151384470720904:=()
def tw9226642827372817169:=()
def tw17281287625758873766:=()
def tw7345423059679604066:=()
def tw4755969874626557620:=()
def tw2452150446347925280:=()
def tw9893991590364930302:=()
def tw6628422643213675882:=()
def tw5410483880209392443:=()
def tw1443714469269968052:=()
def tw13244900926635409308:=()
def tw18066818842611162245:=()
def tw1343269737317554563:=()
def tw4205193198608616811:=()
def tw9478226957571265440:=()
def tw16790847973674410893:=()
def tw2156499719965049913:=()
def tw4061047527672475223:=()
def tw13222042759570619859:=()
def tw1047476634850590433:=()
def tw1378795027563801210:=()
def tw9002303538031434757:=()
def tw3640435789590724726:=()
def tw1851941888784775648:=()
def tw16291319195600691854:=()
def tw11239959979451549416:=()
def tw2903107228835091671:=()
def tw3566689130087405053:=()
def tw11776668248496184002:=()
def tw14738782916229992201:=()
def tw14588865663216287490:=()
def tw2368469929270253349:=()
def tw8808743050508585633:=()
def tw16603461123495568491:=()
def tw17247168480788300427:=()
def tw6840255554410606162:=()
def tw18301299991628729131:=()
def tw18077250485694120841:=()
def tw13027843001852959607:=()
def tw890297271398135546:=()
def tw7990614106791989730:=()
def tw5712212365951672714:=()
def tw5331063802046690914:=()
def tw1617658579848288630:=()
def tw969665985503847431:=()
def tw4224183776237801954:=()
def tw16631335752468754987:=()
def tw4229863199187121622:=()
def tw16039768955408090028:=()
def tw2209045130251591063:=()
def tw11010495952582269479:=()
def tw4244676261401686233:=()
def tw11742836255394521233:=()
def tw2410880477951313402:=()
def tw2371658142578752406:=()
def tw13965440839650187223:=()
def tw14515747814616343338:=()
def tw13511959873700728774:=()
def tw12033203381405576736:=()
def tw7141362171281255849:=()
def tw6201338822469068667:=()
def tw8932753933185410801:=()
def tw18423174229796352405:=()
def tw12784791906263977878:=()
def tw7133384768627675159:=()
def tw17182447744269124383:=()
def tw10216148196211479698:=()
def tw11845521652650246007:=()
def tw15336675312712545080:=()
def tw18226127212552174353:=()
def tw2972932156729409771:=()
def tw9358445451370005818:=()
def tw8822428134729272855:=()
def tw1156419653352573853:=()
def tw9701209439732244509:=()
def tw9274821728355110262:=()
def tw1530505963084006581:=()
def tw9751836341025504642:=()
def tw3140651821261139963:=()
def tw7231300969490454308:=()
def tw7409204837940015283:=()
def tw12561166244523757198:=()
def tw14339028854186505954:=()
def tw16027978663782742806:=()
def tw12716561995418491791:=()
def tw2623501371665200587:=()
def tw5863054171410006980:=()
def tw9367689672765884825:=()
def tw3806443453627037089:=()
def tw2399336803132009822:=()
def tw17935973552150437150:=()
def tw3519570412153966191:=()
def tw4564343485421072773:=()
def tw3461922889664125202:=()
def tw15389113762941259697:=()
def tw4867437549568215870:=()
def tw3498472225492287047:=()
def tw7229483126558900824:=()
def tw5621088687587699333:=()
def tw14789028206485612385:=()
def tw13929654192947841898:=()
def tw838279958604678521:=()
def tw6734764205081761064:=()
def tw12122349314527483904:=()
def tw7780706564361786911:=()
def tw9334025334513879036:=()
def tw15018649213404707109:=()
def tw12829290180203649050:=()
def tw4441085113841139861:=()
def tw1774044703306062552:=()
def tw11986409036039680837:=()
def tw5988474755270301635:=()
def tw4847935590431409885:=()
def tw11791730972666609113:=()
def tw1802070998368122353:=()
def tw3058027653053169296:=()
def tw12740299248814512955:=()
def tw10393555016683825566:=()
def tw4771026199634637080:=()
def tw6075586931661606771:=()
def tw930498215659468763:=()
end PySem.W.Fast
open PySem PySem.W PyProof.Rows
set_option maxRecDepth 100000 in
set_option maxHeartbeats 0 in
theorem PySem.Challenge.cw_roadshare_k75_two_shires_asked_holds : PySem.Challenge.rw_roadshare_k75_two_shires_asked.Holds := by
 w_on; o_law; k_head; (case hw=>w_witness2)
 k_fill
 refine My.Zkw (l:=PySem.Challenge.rw_roadshare_k75_two_shires_asked) (n:=63) (k:=13) (x:="_law_script") (CX:=L2.Zx) (sp:=My.Zk8) rfl (by decide) rfl ⟨rfl,by decide,by decide⟩ (λw h Y=>km_in_of Y) ?F ?S ?C
 case S=>exact λK H a ns hl hfit hO hS=>⟨a,ns,rfl,hS,hfit,λ_=>rfl⟩
 case C=>exact λ_ _ _ _ z=>z
 case F =>
  intro w mg fa h KX G hmg
  refine' My.ZsS KX G hmg _ _ _ _ _ _ _ _ _ _ _ _ _ _ _ _ _ _ _ _ _ _ _ _ _ _ _ _ _ _ _ _ _ _ _ _ _ _ _ _ _ _ _ _ _ _ _ _ _ _ _ _ _ _ _ _ _ _ _ _ _ _ _ _ _ _ _ _ _ _ _ _ _ _ _ _ _ _ _ _ _ _ _ _ _ _ _ _ _ _ _ _ _ _ _ _ _ _ _ _ _ _ _ _ _ _ _ _ _ _ _ _ _ _ _ _ _ _ _ _ _ _ _ _ _ _ _ _ _ _ _ _ _ _ _ _ _ _ _ _ _ _ _ _ _ _ _ _ _ _ _ _ _ _ _ _ _ _ _ _ _ _ _ _ _ _ _ _ _ _ _ _ _ _ _ _ _ _ _ _ _ _ _ _ _ _ _ _ _ _ _ _ _ _ _ _ _ _ _ _ _ _ _ _ _ _ _ _ _ _ _ _ _ _ _ _ _ _ _ _ _ _ _ _ _ _ _ _ _ _ _ _ _ _ _ _ _ _ _ _ _ _ _ _ _ _ _ _ _ _ _ _ _ _ _ _ _ _ _ _ _ _ _ _ _ _ _ _ _ _ _ _ _ _ _ _ _ _ _ _ _ _ _ _ _ _ _ _ _ _ _ _ _ _ _ _ _ _ _ _ _ _ _ _ _ _ _ _ _ _ _ _ _ _ _ _ _ _ _ _ _ _ _ _ _ _ _ _ _ _ _ _ _ _ _ _ _ _ _ _ _ _ _ _ _ _ _ _ _ _ _ _ _ _ _ _ _ _ _ _ _ _ _ _ _ _ _ _ _ _ _ _ _ _ _ _ _ _ _ _ _ _ _ _ _ _ _ _
  all_goals first | walk_at "zi" | k_is | kernel_rfl | skip | k_exc | kit_is | kts_exm
#print axioms PySem.Challenge.cw_roadshare_k75_two_shires_asked_holds
