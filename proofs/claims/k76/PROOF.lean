import PyProof.Rows.All
import Wide.All
import OpenK.AllK
import Wide.FinOn
import Lean
import PyProof.EqAt
import PyProof.EqKinds
import PyProof.TupleCall
import PySem.Challenge.RW_roundcall_k76_whole_papers_round
/-! THE HAND LAYER, for ints, bools, texts, own classes, LISTS and tuples (index, slices, in, append, pop ..), calls, loops. Paste it whole ahead of your own text; what your proof does not reach may be deleted. -/
set_option Elab.async false
set_option linter.all false
set_option maxRecDepth 100000
set_option maxHeartbeats 4000000
set_option bootstrap.genMatcherCode false
namespace L2
local macro_rules | `(tactic| omega) => `(tactic| lia)
open PySem PySem.Spec PyProof.Rows
abbrev Dh:=Sum Int Str
def Hy:Dh -> Value -> Bool
 | .inl k,v=>Value.isInt k v
 | .inr x,v=>Value.isStrOf x v
def pc (w:World):Dh -> Int
 | .inl k=>hashInt k
 | .inr x=>hashStr w x
theorem Cd:∀ {k:Dh} {v:Value},Hy k v = true -> (∃ i t,k = Sum.inl i /\ v = Value.int i t) \/ (∃ x t,k = Sum.inr x /\ v = Value.str x t)
 | .inl i,v,h=>by
  obtain ⟨t,e⟩ := Value.isInt_shape (k:=i) (v:=v) h
  exact .inl ⟨i,t,rfl,e⟩
 | .inr x,v,h=>by
  obtain ⟨t,e⟩ := Value.isStrOf_shape (x:=x) (v:=v) h
  exact .inr ⟨x,t,rfl,e⟩
theorem Vs (i:Int) (t:Tok):Hy (.inl i) (.int i t) = true:=by simp [Hy,Value.isInt]
theorem Vt (x:Str) (t:Tok):Hy (.inr x) (.str x t) = true:=by simp [Hy,Value.isStrOf]
theorem f9 (a b:Int):decide ((Sum.inl a:Dh) = Sum.inl b) = (a == b):=by
 by_cases e:a = b
 ·subst e; simp
 ·have h:¬ (Sum.inl a:Dh) = Sum.inl b:=fun q=>e (Sum.inl.inj q)
  rw [decide_eq_false h]
  exact (beq_eq_false_iff_ne.mpr e).symm
theorem ff (a b:Str):decide ((Sum.inr a:Dh) = Sum.inr b) = decide (a = b):=by
 by_cases e:a = b
 ·subst e; simp
 ·have h:¬ (Sum.inr a:Dh) = Sum.inr b:=fun q=>e (Sum.inr.inj q)
  rw [decide_eq_false h,decide_eq_false e]
theorem fb (a:Int) (b:Str):decide ((Sum.inl a:Dh) = Sum.inr b) = false:=decide_eq_false (fun q=>nomatch q)
theorem fc (a:Str) (b:Int):decide ((Sum.inr a:Dh) = Sum.inl b) = false:=decide_eq_false (fun q=>nomatch q)
def Da (prog:Program) (w:World):PySem.KeyKind prog w Dh where
 is:=Hy
 hash:=pc w
 inj:=fun v a b ha hb=>by
  rcases Cd ha with ⟨i,t,rfl,rfl⟩ | ⟨x,t,rfl,rfl⟩
  ·rcases Cd hb with ⟨j,u,rfl,e⟩ | ⟨y,u,rfl,e⟩
   ·injection e with e1 _; rw [e1]
   ·exact nomatch e
  ·rcases Cd hb with ⟨j,u,rfl,e⟩ | ⟨y,u,rfl,e⟩
   ·exact nomatch e
   ·injection e with e1 _; rw [e1]
 byValue:=fun k v h=>by
  rcases Cd h with ⟨i,t,rfl,rfl⟩ | ⟨x,t,rfl,rfl⟩ <;> rfl
 pyHash:=fun hv h=>by
  rcases Cd hv with ⟨i,t,rfl,rfl⟩ | ⟨x,t,rfl,rfl⟩
  ·exact wpAny_pyHash_int h
  ·exact wpAny_pyHash_str h
 eqBool:=fun hu hv h=>by
  rcases Cd hu with ⟨i,t,rfl,rfl⟩ | ⟨x,t,rfl,rfl⟩
  ·rcases Cd hv with ⟨j,u,rfl,rfl⟩ | ⟨y,u,rfl,rfl⟩
   ·rw [f9] at h; exact wpAny_eqBool_int h
   ·rw [fb] at h; exact SeqAt.EqAt.int_str i t y u _ _ _ _ h
  ·rcases Cd hv with ⟨j,u,rfl,rfl⟩ | ⟨y,u,rfl,rfl⟩
   ·rw [fc] at h; exact SeqAt.EqAt.str_int x t j u _ _ _ _ h
   ·rw [ff] at h; exact wpAny_eqBool_str h
 «strs» := fun k x t v h=>by
  rcases Cd h with ⟨i,u,rfl,e⟩ | ⟨y,u,rfl,e⟩
  ·exact nomatch e
  ·injection e with e1 _
   subst e1
   cases v <;> rfl
theorem R0 (prog:Program) (w:World) (i:Int) (t:Tok):(Da prog w).is (.inl i) (.int i t) = true:=Vs i t
theorem R6 (prog:Program) (w:World) (x:Str) (t:Tok):(Da prog w).is (.inr x) (.str x t) = true:=Vt x t
inductive V where
 | aW | bl (b:Bool) | int (i:Int) | str (x:Str) | lB (b:Array UInt8) | BU (b:UInt64) | ref (a:Addr) | ty (n:String)
 deriving DecidableEq
def Aw:V -> Value -> Prop
 | .aW,u=>u = Value.none
 | .bl b,u=>u = Value.bool b
 | .int i,u=>∃ t,u = Value.int i t
 | .str x,u=>∃ t,u = Value.str x t
 | .lB b,u=>∃ t,u = Value.bytes b t
 | .BU b,u=>∃ t,u = Value.float b t
 | .ref a,u=>u = Value.ref a
 | .ty n,u=>u = Value.type n
abbrev Az:List V -> List Value -> Prop:=Paired Aw
theorem Az.length {xs:List V} {us:List Value} (r:Az xs us):xs.length = us.length:=Paired.length r
theorem Az.get:∀ {xs:List V} {us:List Value} {i:Nat} {x:V},Az xs us -> xs[i]? = some x -> ∃ u,us[i]? = some u /\ Aw x u
 | _,_,_,_,.nil,e=>by simp at e
 | _,_,0,_,.cons r _,e=>by simp at e; subst e; exact ⟨_,rfl,r⟩
 | _,_,i + 1,x,.cons _ t,e=>by
  obtain ⟨u,h1,h2⟩ := Az.get (i:=i) (x:=x) t (by simpa using e)
  exact ⟨u,by simpa using h1,h2⟩
theorem Az.set {x:V} {u:Value} (r:Aw x u):∀ {xs:List V} {us:List Value} (i:Nat),Az xs us -> Az (xs.set i x) (us.set i u)
 | _,_,_,.nil=>.nil
 | _,_,0,.cons _ t=>.cons r t
 | _,_,i + 1,.cons q t=>.cons q (Az.set r i t)
theorem Az.append {xs ys:List V} {us ws:List Value} (h:Az xs us) (s:Az ys ws):Az (xs ++ ys) (us ++ ws):=by
 induction h with
 | nil=>exact s
 | cons r t ih=>exact .cons r ih
theorem Az.take:∀ {xs:List V} {us:List Value} (n:Nat),Az xs us -> Az (xs.take n) (us.take n)
 | _,_,0,_=>.nil
 | _,_,_ + 1,.nil=>.nil
 | _,_,n + 1,.cons r t=>.cons r (Az.take n t)
theorem Az.drop:∀ {xs:List V} {us:List Value} (n:Nat),Az xs us -> Az (xs.drop n) (us.drop n)
 | _,_,0,r=>r
 | _,_,_ + 1,.nil=>.nil
 | _,_,n + 1,.cons _ t=>Az.drop n t
def Hq:Option V -> Option Value -> Prop
 | some v,some u=>Aw v u
 | none,none=>True
 | _,_=>False
def KV {κ:Type}:List (κ × V) -> List (κ × Value) -> Prop:=Paired fun (p:κ × V) (q:κ × Value)=>p.1 = q.1 /\ Aw p.2 q.2
def kV:Dh -> V
 | .inl i=>.int i
 | .inr x=>.str x
section
variable {prog:Program} {w:World}
def Bq (prog:Program) (w:World) (h:Heap) (k:List Int × Int) (a:Addr):Prop :=
 ∃ o n u t,h.get? a = some o /\ o.cls = .type "tuple" /\ o.data = .seq #[.ref u,.int k.2 t] n /\ IsTupleKey (intKind prog w) h k.1 u
theorem Bq.typeIs {s:Shared} {k:List Int × Int} {a:Addr} (x:Bq prog w s.heap k a):s.TypeIs (.ref a) "tuple" := let ⟨o,_,_,_,ho,hc,_⟩ := x; ⟨o,ho,hc⟩
theorem Bq.inj {h:Heap} {a:Addr} {x y:List Int × Int} (hx:Bq prog w h x a) (hy:Bq prog w h y a):x = y:=by
 obtain ⟨o,n,u,t,ho,_,hd,hi⟩ := hx
 obtain ⟨o',n',u',t',lW,_,sS,fH⟩ := hy
 obtain rfl:o = o':=Option.some.inj (ho.symm.trans lW)
 rw [hd] at sS
 injection sS with h1 _
 simp only [Array.mk.injEq,List.cons.injEq,Value.ref.injEq,Value.int.injEq,and_true] at h1
 obtain ⟨rfl,h2,_⟩ := h1
 exact Prod.ext (hi.inj fH) h2
theorem Bq.keeps {h h':Heap} {k:List Int × Int} {a d:Addr} {o:Obj} {es ep} (x:Bq prog w h k a) (ho:h.get? d = some o) (hd:o.data = .dict es ep) (hs:Heap.SameBut d h h'):Bq prog w h' k a:=by
 obtain ⟨o',n,u,t,lW,hc,sS,hi⟩ := x
 have fA:a ≠ d:=by
  rintro rfl
  obtain rfl:o' = o:=Option.some.inj (lW.symm.trans ho)
  rw [hd] at sS
  exact nomatch sS
 exact ⟨o',n,u,t,(hs.2 a fA).trans lW,hc,sS,hi.keeps ho hd hs⟩
def Go (prog:Program) (w:World) (k:List Int × Int):Int:=reduceHash (Builtin.Tuple.tupleHashOf [tupleKeyHash (intKind prog w) k.1,(intKind prog w).hash k.2])
theorem Tr {A : Around} {E : Value -> Shared -> Prop} {s : Shared} {k : List Int × Int} {a : Addr} {Q : Int -> Shared -> Prop} (hu : A.units + 8 < cLine) (hk : Bq prog w s.heap k a) (h : Q (Go prog w k) { s with toks := s.toks + (k.1.length + 3) }) :
  wpAny (model prog w) A (pyHash (.ref a)) Q E s:=by
 have hT:=hk.typeIs
 obtain ⟨o,n,u,t,ho,_,hd,hi⟩ := hk
 unfold pyHash
 first | unfold pyHashByItsType | skip
 first | refine wpAny_bind (wpAny_cRoomFor_or (.inr (by omega)) ?_) | skip
 refine wpAny_bind (wpAny_specialOf hT F.slot_tuple_hash.lookup ?_)
 show wpAny _ _ (if (some (Value.builtin "tuple.__hash__") == some Value.none) = true then _ else _) Q E s
 rw [if_neg (by rw [beq_builtin_none]; exact Bool.false_ne_true)]
 refine wpAny_bind (wpAny_specialOf hT F.slot_tuple_hash.lookup ?_)
 show wpAny _ _ (callSpecialIfBoundUnlessNone? (.ref a) "__hash__" _ >>= _) Q E s
 refine wpAny_bind (wpAny_callSpecialIfBoundUnlessNone?_slot hT F.slot_tuple_hash (wpAny_call_entry F.slot_tuple_hash hT F.entry_tuple_hash ?_ (F.args_tuple_hash_1 _)))
 show wpAny _ _ (Builtin.Tuple.tupleItemsOf (.ref a) >>= _) _ _ s
 refine wpAny_bind (wpAny_tupleItemsOf ho hd ?_)
 refine wpAny_bind ?_
 rw [<- Array.forIn_toList]
 show wpAny _ _ (forIn [Value.ref u,Value.int k.2 t] _ _) _ _ _
 rw [List.forIn_cons]
 have iU:A.in1.units < cLine:=by
  first | (show A.units + 1 < cLine; omega) | (show A.units < cLine; omega) | (simp only [Around.in1]; omega)
 refine wpAny_bind (wpAny_bind (wpAny_pyHash_tuple (knd:=intKind prog w) iU hi ?_))
 refine wpAny_pure ?_
 show wpAny _ _ (forIn [Value.int k.2 t] _ _) _ _ _
 rw [List.forIn_cons]
 refine wpAny_bind (wpAny_bind ((intKind prog w).pyHash (k:=k.2) (by simp [intKind,Value.isInt]) ?_))
 refine wpAny_pure ?_
 show wpAny _ _ (forIn [] _ _) _ _ _
 rw [List.forIn_nil]
 refine wpAny_pure ?_
 show wpAny _ _ (retInt (Builtin.Tuple.tupleHashOf [tupleKeyHash (intKind prog w) k.1,(intKind prog w).hash k.2])) _ _ _
 refine wpAny_ret_mkInt ?_
 generalize e:Builtin.Tuple.tupleHashOf [tupleKeyHash (intKind prog w) k.1,(intKind prog w).hash k.2] = z
 show wpAny _ _ (if (decide (-(2:Int) ^ 63 <= z) && decide (z < 2 ^ 63)) = true then _ else _) Q E _
 unfold Go reduceHash at h
 rw [e] at h
 by_cases hr:(decide (-(2:Int) ^ 63 <= z) && decide (z < 2 ^ 63)) = true
 ·rw [if_pos hr]
  rw [if_pos hr] at h
  exact wpAny_pure (by simpa [Nat.add_assoc] using h)
 ·rw [if_neg hr]
  rw [if_neg hr] at h
  exact wpAny_bind (wpAny_rule (wpAny_pure (by simpa [Nat.add_assoc] using h)))
theorem Ys {A : Around} {E : Value -> Shared -> Prop} {s : Shared} {x y : List Int × Int} {a b : Addr} {Q : Bool -> Shared -> Prop} (hu : A.units + 8 < cLine) (hx : Bq prog w s.heap x a) (hy : Bq prog w s.heap y b) (h : Q (decide (x = y)) s) :
  wpAny (model prog w) A (eqBool (.ref a) (.ref b)) Q E s:=by
 unfold eqBool
 try with_reducible refine wpAny_holding ?_
 show wpAny _ _ (if (Value.ref a == Value.ref b) = true then _ else _) Q E s
 by_cases vD:(Value.ref a == Value.ref b) = true
 ·rw [if_pos vD]
  have e:a = b:=by have:=eq_of_beq vD; injection this
  subst e
  obtain rfl:=hx.inj hy
  exact wpAny_bind (wpAny_rule (wpAny_pure (by simpa using h)))
 ·rw [if_neg vD]
  refine wpAny_bind (wpAny_richCompare_same_room (op := .Eq) hx.typeIs hy.typeIs F.slot_tuple_eq
   (wpAny_call_entry F.slot_tuple_eq hx.typeIs F.entry_tuple_eq ?_ (F.args_tuple_eq_2 _ _)) (by omega))
  have hTb:=hy.typeIs
  obtain ⟨oa,na,ua,ta,hoa,_,hda,hia⟩ := hx
  obtain ⟨ob,nb,ub,tb,hob,_,lC,hib⟩ := hy
  show wpAny _ _ (isInstance (.ref b) (.type "tuple") >>= _) _ _ s
  refine wpAny_bind (wpAny_isInstance hTb isSubtype_tuple_tuple ?_)
  simp only [Bool.not_true,Bool.false_eq_true,if_false]
  refine wpAny_bind (wpAny_tupleItemsOf hoa hda ?_)
  refine wpAny_bind (wpAny_tupleItemsOf hob lC ?_)
  refine wpAny_bind ?_
  show wpAny _ _ (forIn [(Value.ref ua,Value.ref ub),(Value.int x.2 ta,Value.int y.2 tb)] _ _) _ _ _
  rw [List.forIn_cons]
  have iU:A.in1.units < cLine:=by
   first | (show A.units + 1 < cLine; omega) | (show A.units < cLine; omega) | (simp only [Around.in1]; omega)
  refine wpAny_bind (wpAny_bind (wpAny_eqBool_tuple (knd:=intKind prog w) iU hia hib ?_))
  by_cases h1:x.1 = y.1
  ·rw [decide_eq_true h1]
   simp only [Bool.not_true,Bool.false_eq_true,if_false]
   refine wpAny_pure ?_
   show wpAny _ _ (forIn [(Value.int x.2 ta,Value.int y.2 tb)] _ _) _ _ _
   rw [List.forIn_cons]
   refine wpAny_bind (wpAny_bind ((intKind prog w).eqBool (a:=x.2) (b:=y.2) (by simp [intKind,Value.isInt]) (by simp [intKind,Value.isInt]) ?_))
   by_cases h2:x.2 = y.2
   ·rw [decide_eq_true h2]
    simp only [Bool.not_true,Bool.false_eq_true,if_false]
    refine wpAny_pure ?_
    show wpAny _ _ (forIn [] _ _) _ _ _
    rw [List.forIn_nil]
    refine wpAny_pure ?_
    have e:decide (x = y) = true:=decide_eq_true (Prod.ext h1 h2)
    rw [e] at h
    exact wpAny_pure ⟨_,rfl,(fun e=>nomatch e),wpAny_truthy_bool h⟩
   ·rw [decide_eq_false h2]
    simp only [Bool.not_false,if_true]
    have e:decide (x = y) = false:=decide_eq_false fun z=>h2 (by rw [z])
    rw [e] at h
    exact wpAny_bind (wpAny_pure (wpAny_pure (wpAny_pure (wpAny_pure ⟨_,rfl,(fun e=>nomatch e),wpAny_truthy_bool h⟩))))
  ·rw [decide_eq_false h1]
   simp only [Bool.not_false,if_true]
   have e:decide (x = y) = false:=decide_eq_false fun z=>h1 (by rw [z])
   rw [e] at h
   exact wpAny_bind (wpAny_pure (wpAny_pure (wpAny_pure (wpAny_pure ⟨_,rfl,(fun e=>nomatch e),wpAny_truthy_bool h⟩))))
theorem i6 {A:Around} {E:Value -> Shared -> Prop} {s:Shared} {ks:List Int} {a:Addr} {Q:Bool -> Shared -> Prop} (hk:IsTupleKey (intKind prog w) s.heap ks a) (h:Q true s):wpAny (model prog w) A (eqIsQuiet 7 (.ref a)) Q E s:=by
 have hT:=hk.typeIs
 obtain ⟨o,items,n,ho,_,hd,hi⟩ := hk
 unfold eqIsQuiet
 refine wpAny_bind (wpAny_specialOf hT F.slot_tuple_eq.lookup ?_)
 show wpAny _ _ (isInstance (.ref a) (.type "tuple") >>= _) _ _ s
 refine wpAny_bind (wpAny_isInstance hT isSubtype_tuple_tuple ?_)
 simp only [Bool.not_true,Bool.false_eq_true,if_false]
 refine wpAny_bind (wpAny_seqItems ho hd ?_)
 refine wpAny_bind ?_
 show wpAny _ _ (forIn items _ _) _ _ s
 rw [<- Array.forIn_toList]
 refine wpAny_forIn_list _ (fun rest r s'=>r.1 = none /\ s' = s /\ ∀ v ∈ rest,carriedByValue v = true) _ ?_ ?_ _ _ ⟨rfl,rfl,hi.byValue⟩
 ·rintro v rest r s' ⟨hr,rfl,hall⟩
  rw [eqIsQuiet_byValue _ (hall v List.mem_cons_self)]
  refine wpAny_bind (wpAny_pure ?_)
  simp only [Bool.not_true,Bool.false_eq_true,if_false]
  exact wpAny_pure ⟨rfl,rfl,fun u NJ=>hall u (List.mem_cons_of_mem _ NJ)⟩
 ·rintro ⟨r1,r2⟩ s' ⟨hr,rfl,_⟩
  simp only at hr
  subst hr
  exact wpAny_pure h
theorem Ri {A:Around} {E:Value -> Shared -> Prop} {s:Shared} {k:List Int × Int} {a:Addr} {Q:Bool -> Shared -> Prop} (hk:Bq prog w s.heap k a) (h:Q true s):wpAny (model prog w) A (eqIsQuiet 8 (.ref a)) Q E s:=by
 have hT:=hk.typeIs
 obtain ⟨o,n,u,t,ho,_,hd,hi⟩ := hk
 unfold eqIsQuiet
 refine wpAny_bind (wpAny_specialOf hT F.slot_tuple_eq.lookup ?_)
 show wpAny _ _ (isInstance (.ref a) (.type "tuple") >>= _) _ _ s
 refine wpAny_bind (wpAny_isInstance hT isSubtype_tuple_tuple ?_)
 simp only [Bool.not_true,Bool.false_eq_true,if_false]
 refine wpAny_bind (wpAny_seqItems ho hd ?_)
 refine wpAny_bind ?_
 show wpAny _ _ (forIn #[Value.ref u,Value.int k.2 t] _ _) _ _ s
 rw [<- Array.forIn_toList]
 show wpAny _ _ (forIn [Value.ref u,Value.int k.2 t] _ _) _ _ s
 rw [List.forIn_cons]
 refine wpAny_bind (wpAny_bind (i6 hi ?_))
 simp only [Bool.not_true,Bool.false_eq_true,if_false]
 refine wpAny_pure ?_
 show wpAny _ _ (forIn [Value.int k.2 t] _ _) _ _ s
 rw [List.forIn_cons,eqIsQuiet_byValue _ rfl]
 refine wpAny_bind (wpAny_bind (wpAny_pure ?_))
 simp only [Bool.not_true,Bool.false_eq_true,if_false]
 refine wpAny_pure ?_
 show wpAny _ _ (forIn [] _ _) _ _ s
 rw [List.forIn_nil]
 exact wpAny_pure (wpAny_pure h)
def C6 (prog:Program) (w:World):HeapKind prog w (List Int × Int) where
 is:=Bq prog w
 hash:=Go prog w
 draws:=fun k=>k.1.length + 3
 room:=fun A=>A.units + 8 < cLine
 inj:=fun hx hy=>hx.inj hy
 keeps:=fun x ho hd hs=>x.keeps ho hd hs
 pyHash:=fun hu hk h=>Tr hu hk h
 eqBool:=fun hu hx hy h=>Ys hu hx hy h
 quiet:=fun hk h=>Ri hk h
end
set_option genInjectivity false in
set_option genSizeOf false in
inductive HO where
  | lst (xs:List V)
  | tup (xs:List V)
  | dK (kvs:List (Dh × V)) | dT (kvs:List ((List Int × Int) × V))
  | set (S:Int -> Bool) (n:Nat)
  | ins (C dx:Addr) (fs:List (Str × V))
  | own (x:Addr)
  | xd (fs:List (Str × V))
  | met (f x:Addr)
  | LO (lo hi:Int)
  | bO (o:Obj) (u:HO)
  | qP (ps:Array Value)
  | ext (φ:Heap -> Prop)
abbrev Hp:=Addr -> Option HO
def E9 (H:Hp) (b:Addr) (k:List Int × Int):Prop := ∃ u,H b = some (.tup [.ref u,.int k.2]) /\ H u = some (.tup (k.1.map V.int))
theorem E9.up {H H2:Hp} {b:Addr} {k:List Int × Int} (ht:∀ b xs,H b = some (.tup xs) -> H2 b = some (.tup xs)) (h:E9 H b k):E9 H2 b k:=let ⟨u,a1,a2⟩ := h; ⟨u,ht _ _ a1,ht _ _ a2⟩
def upd (H:Hp) (a:Addr) (o:HO):Hp:=fun b=>if b = a then some o else H b
theorem A5 {H:Hp} {a:Addr} {o:HO}:upd H a o a = some o:=by unfold upd; rw [if_pos rfl]
theorem Ac {H:Hp} {a b:Addr} {o:HO} (h:b ≠ a):upd H a o b = H b:=by unfold upd; rw [if_neg h]
theorem Bw {H:Hp} {a b:Addr} {o u:HO} (h:H a = some o) (h':H b = some u) (d:o ≠ u):a ≠ b:=by
 intro e; subst e; rw [h] at h'; exact d (Option.some.inj h')
theorem Ae {H:Hp} {a b:Addr} {o:HO} (h:H a = some o) (h':H b = none):a ≠ b:=by
 intro e; subst e; rw [h] at h'; cases h'
section
variable (P:Program) (w:World)
def Bn (H:Hp) (h:Heap) (a:Addr):HO -> Prop
 | .lst xs=>xs.length <= sizeLine /\ ∃ (aL:List Value) (n:Nat),Az xs aL /\ h.get? a = some { cls := .type "list",data := .seq aL.toArray n }
 | .tup xs=>(xs.length <= sizeLine /\ ∃ o,h.get? a = some o /\ o.dict = none) /\ ∃ aL:List Value,Az xs aL /\ IsTup h a aL.toArray
 | .dK kvs=>kvs.length <= sizeLine /\ (a == sysModules) = false /\ ∃ vs,KV kvs vs /\ h.DictOf (Da P w) a vs
 | .dT kvs => kvs.length <= sizeLine /\ (a == sysModules) = false /\ ∃ xs : List ((List Int × Int) × Addr × Value),
   Paired (fun (p:(List Int × Int) × V) (q:(List Int × Int) × Addr × Value)=>p.1 = q.1 /\ E9 H q.2.1 p.1 /\ Aw p.2 q.2.2) kvs xs /\
   ∃ o es ep,h.get? a = some o /\ o.ExactDict /\ o.data = .dict es ep /\ es.toList = xs.map (entryOfKey (C6 P w)) /\ (xs.map (·.1)).Nodup
 | .set S n=>h.SetOf (intKind P w) a S n
 | .ins C dx fs => H dx = some (.own a) /\ fs.length <= 1000 /\ dx ≠ a /\ h.get? a = some (PySem.W.instObj C dx) /\
   ∃ mA,h.Ns1 dx mA /\ (∀ f,Hq (fs.lookup f) (mA f)) /\ PySem.Within mA (fs.map (·.1))
 | .own _=>∃ o,h.get? a = some o
 | .xd fs=>∃ mA,h.Ns1 a mA /\ ∀ f,Hq (fs.lookup f) (mA f)
 | .LO lo hi=>∃ t u v,h.get? a = some { cls := .type "range",data := .fields #[.int lo t,.int hi u,.int 1 v] }
 | .bO o u=>h.get? a = some o /\ Bn H h a u
 | .qP ps=>h.get? a = some { cls := .none,data := .fields ps }
 | .met f x=>h.get? a = some (PySem.W.methodObj (.ref f) (.ref x))
 | .ext φ=>φ h /\ (∃ o,h.get? a = some o) /\ ∀ h1 h2:Heap,φ h1 -> (∀ o,h1.get? a = some o -> h2.get? a = some o) -> φ h2
def Ft (H:Hp) (h:Heap):Prop := ∀ a o,H a = some o -> Bn P w H h a o
end
section
variable {P:Program} {w:World} {H H':Hp} {h h':Heap} {a:Addr} {o:HO}
theorem Bn.lt (x:Bn P w H h a o):a < h.objs.size:=by
 cases o with
 | lst xs=>obtain ⟨_,_,_,_,e⟩ := x; exact Heap.lt_size e
 | tup xs=>obtain ⟨_,_,_,p⟩ := x; exact p.lt
 | dK kvs=>obtain ⟨_,_,_,_,o,_,_,e,_⟩ := x; exact Heap.lt_size e
 | dT kvs=>obtain ⟨_,_,_,_,o,_,_,e,_⟩ := x; exact Heap.lt_size e
 | set S n=>obtain ⟨o,_,_,_,e,_⟩ := x; exact Heap.lt_size e
 | ins C dx fs=>obtain ⟨_,_,_,e,_⟩ := x; exact Heap.lt_size e
 | own y=>obtain ⟨_,e⟩ := x; exact Heap.lt_size e
 | xd fs=>obtain ⟨_,⟨_,_,_,e,_⟩,_⟩ := x; exact Heap.lt_size e
 | LO lo hi=>obtain ⟨_,_,_,e⟩ := x; exact Heap.lt_size e
 | bO ob u=>obtain ⟨e,_⟩ := x; exact Heap.lt_size e
 | qP ps=>exact Heap.lt_size (show h.get? a = some _ from x)
 | met f y=>exact Heap.lt_size (show h.get? a = some _ from x)
 | ext φ=>obtain ⟨_,⟨_,e⟩,_⟩ := x; exact Heap.lt_size e
theorem Paired.CZ {α β:Type} {F G:α -> β -> Prop} {l₁:List α} {l₂:List β} (h:Paired F l₁ l₂) (f:∀ a b,F a b -> G a b):Paired G l₁ l₂:=by
 induction h with
 | nil=>exact .nil
 | cons r t ih=>exact .cons (f _ _ r) ih
theorem Bn.dR (x : Bn P w H h a o) (k : ∀ b u, (b = a \/ H b = some (.own a)) -> h.get? b = some u -> h'.get? b = some u)
  (ho:∀ b,H b = some (.own a) -> H' b = some (.own a)) (ht:∀ b xs,H b = some (.tup xs) -> H' b = some (.tup xs)):Bn P w H' h' a o:=by
 induction o with
 | lst xs=>obtain ⟨z,aL,n,r,e⟩ := x; exact ⟨z,aL,n,r,k _ _ (.inl rfl) e⟩
 | tup xs=>obtain ⟨z,aL,r,ob,e,c⟩ := x; exact ⟨⟨z.1,let ⟨o,e2,d⟩ := z.2; ⟨o,k _ _ (.inl rfl) e2,d⟩⟩,aL,r,ob,k _ _ (.inl rfl) e,c⟩
 | dK kvs=>obtain ⟨z,y,vs,r,ob,es,ep,e,c⟩ := x; exact ⟨z,y,vs,r,ob,es,ep,k _ _ (.inl rfl) e,c⟩
 | dT kvs =>
  obtain ⟨z,y,xs,r,ob,es,ep,e,c⟩ := x
  exact ⟨z,y,xs,Paired.CZ r fun p q z=>⟨z.1,z.2.1.up ht,z.2.2⟩,ob,es,ep,k _ _ (.inl rfl) e,c⟩
 | set S n=>obtain ⟨ob,es,ep,t,e,c⟩ := x; exact ⟨ob,es,ep,t,k _ _ (.inl rfl) e,c⟩
 | ins C dx fs =>
  obtain ⟨d,z,ne,e,mA,⟨od,es,ep,e2,c⟩,r⟩ := x
  exact ⟨ho _ d,z,ne,k _ _ (.inl rfl) e,mA,⟨od,es,ep,k _ _ (.inr d) e2,c⟩,r⟩
 | own y=>obtain ⟨ob,e⟩ := x; exact ⟨ob,k _ _ (.inl rfl) e⟩
 | xd fs=>obtain ⟨mA,⟨od,es,ep,e,c⟩,r⟩ := x; exact ⟨mA,⟨od,es,ep,k _ _ (.inl rfl) e,c⟩,r⟩
 | LO lo hi=>obtain ⟨t,u,v,e⟩ := x; exact ⟨t,u,v,k _ _ (.inl rfl) e⟩
 | bO ob u ih=>obtain ⟨e,q⟩ := x; exact ⟨k _ _ (.inl rfl) e,ih q⟩
 | qP ps =>
  have e:h.get? a = some { cls := .none,data := .fields ps }:=x
  show h'.get? a = some { cls := .none,data := .fields ps }
  exact k a _ (.inl rfl) e
 | met f y =>
  have e:h.get? a = some (PySem.W.methodObj (.ref f) (.ref y)):=x
  show h'.get? a = some (PySem.W.methodObj (.ref f) (.ref y))
  exact k a _ (.inl rfl) e
 | ext φ=>obtain ⟨p,⟨o,e⟩,st⟩ := x; exact ⟨st _ _ p fun o q=>k _ _ (.inl rfl) q,⟨o,k _ _ (.inl rfl) e⟩,st⟩
theorem Ft.lt (x:Ft P w H h) (e:H a = some o):a < h.objs.size:=(x a o e).lt
theorem Ft.fresh (x:Ft P w H h) (e:h.objs.size <= a):H a = none:=by
 cases q:H a with
 | none=>rfl
 | some u=>exact absurd (Nat.lt_of_lt_of_le (x.lt q) e) (Nat.lt_irrefl _)
theorem Ft.kept (x:Ft P w H h) (k:∀ b u,h.get? b = some u -> h'.get? b = some u):Ft P w H h':=fun a o e =>
 (x a o e).dR (fun b u _ q=>k b u q) (fun _ q=>q) fun _ _ q=>q
theorem Ft.laid (x:Ft P w H h) (k:∀ b u,h.get? b = some u -> h'.get? b = some u) (hp:h.objs.size <= a) (new:Bn P w (upd H a o) h' a o):Ft P w (upd H a o) h':=fun b u e=>by
 have hn:=x.fresh hp
 by_cases hb:b = a
 ·subst hb; rw [A5] at e; cases e; exact new
 ·rw [Ac hb] at e
  exact (x b u e).dR (fun c v _ q=>k c v q) (fun c q=>by rw [Ac (Ae q hn)]; exact q) fun c xs q=>by rw [Ac (Ae q hn)]; exact q
end
def Rd (H:Hp) (a:Addr) (u:HO):Prop:=H a = some u \/ ∃ o,H a = some (.bO o u)
theorem Rd.ok {P:Program} {w:World} {H:Hp} {h:Heap} {a:Addr} {u:HO} (r:Rd H a u) (x:Ft P w H h):Bn P w H h a u:=by
 rcases r with r | ⟨o,r⟩
 ·exact x a u r
 ·obtain ⟨_,q⟩ := x a _ r
  exact q
def jq:Option HO -> Prop
 | some (.lst _)=>True
 | some (.dK _)=>True
 | some (.dT _)=>True
 | some (.set _ _)=>True
 | some (.ins _ _ _)=>True
 | some (.ext _)=>True
 | _=>False
section
variable {P:Program} {w:World} {H:Hp} {h h':Heap} {x e:Addr} {o':HO}
theorem Ft.write (ok : Ft P w H h) (mu : jq (H x)) (he : e = x \/ H e = some (.own x)) (k : ∀ b u, b ≠ e -> h.get? b = some u -> h'.get? b = some u) (BV : ∃ u, h'.get? e = some u)
  (new:Bn P w (upd H x o') h' x o'):Ft P w (upd H x o') h':=fun b u q=>by
 have DA:∀ c y,H c = some (.own y) -> c ≠ x:=fun c y r z=>by subst z; rw [r] at mu; exact mu
 have NK:∀ c xs,H c = some (.tup xs) -> c ≠ x:=fun c xs r z=>by subst z; rw [r] at mu; exact mu
 by_cases hb:b = x
 ·subst hb; rw [A5] at q; cases q; exact new
 ·rw [Ac hb] at q
  by_cases lD:b = e
  ·have q' : H b = some (.own x) := by
    rcases he with z | z
    ·exact absurd (lD.trans z) hb
    ·rw [lD]; exact z
   rw [q] at q'; cases q'
   obtain ⟨v,hv⟩ := BV
   exact ⟨v,by rw [lD]; exact hv⟩
  ·refine (ok b u q).dR (fun c v hc r=>k c v ?_ r) (fun c r=>by rw [Ac (DA c b r)]; exact r) fun c xs r=>by rw [Ac (NK c xs r)]; exact r
   rcases hc with rfl | hc
   ·exact lD
   ·rintro rfl
    rcases he with z | z
    ·exact DA c b hc z
    ·rw [hc] at z; cases z; exact hb rfl
end
structure Un (fs ex:List Addr) (H H':Hp) (h h':Heap):Prop where
 keep:∀ b o,h.get? b = some o -> H b = none -> b ∉ fs -> b ∉ ex -> h'.get? b = some o
 slot:∀ b o,h.get? b = some o -> H b = none -> b ∈ fs -> b ∉ ex -> ∃ sl,h'.get? b = some { o with slots:=sl }
 free:∀ b o,h.get? b = some o -> H b = none -> b ∉ ex -> H' b = none
 there:∀ b o,h.get? b = some o -> b ∉ ex -> ∃ o',h'.get? b = some o'
 dU:∀ b xs,H b = some (.tup xs) -> H' b = some (.tup xs)
 cQ:∀ b o u,H b = some (.bO o u) -> H' b = some (.bO o u)
 dW:∀ b ps,H b = some (.qP ps) -> ∃ more,H' b = some (.qP (ps ++ more))
section
variable {fs fs' ex ex':List Addr} {H H1 H2:Hp} {h h1 h2 h':Heap} {a x e:Addr} {o:HO}
theorem Un.any (u:Un fs ex H H1 h h1) {b:Addr} {ob:Obj} (q:h.get? b = some ob) (n:H b = none) (hx:b ∉ ex):∃ sl,h1.get? b = some { ob with slots:=sl }:=by
 by_cases hb:b ∈ fs
 ·exact u.slot b ob q n hb hx
 ·exact ⟨ob.slots,u.keep b ob q n hb hx⟩
theorem Un.trans (a:Un fs ex H H1 h h1) (b:Un fs ex H1 H2 h1 h2):Un fs ex H H2 h h2 where
 keep:=fun c ob q n hc hx=>b.keep c ob (a.keep c ob q n hc hx) (a.free c ob q n hx) hc hx
 slot:=fun c ob q n hc hx=>by
  obtain ⟨sl,e1⟩ := a.slot c ob q n hc hx
  obtain ⟨DB,e2⟩ := b.slot c _ e1 (a.free c ob q n hx) hc hx
  exact ⟨DB,e2⟩
 free:=fun c ob q n hx=>by
  obtain ⟨o',e1⟩ := a.there c ob q hx
  exact b.free c o' e1 (a.free c ob q n hx) hx
 there:=fun c ob q hx=>by
  obtain ⟨o',e1⟩ := a.there c ob q hx
  exact b.there c o' e1 hx
 dU:=fun c xs q=>b.dU c xs (a.dU c xs q)
 cQ:=fun c ob xs q=>b.cQ c ob xs (a.cQ c ob xs q)
 dW:=fun c ps q=>by
  obtain ⟨m1,e1⟩ := a.dW c ps q
  obtain ⟨m2,e2⟩ := b.dW c _ e1
  exact ⟨m1 ++ m2,by rw [e2,Array.append_assoc]⟩
theorem Un.kept (k:∀ b u,h.get? b = some u -> h'.get? b = some u):Un fs ex H H h h' :=
 ⟨fun b ob q _ _ _=>k b ob q,fun b ob q _ _ _=>⟨ob.slots,k b ob q⟩,fun _ _ _ n _=>n,fun b ob q _=>⟨ob,k b ob q⟩,fun _ _ q=>q,fun _ _ _ q=>q,fun _ ps q=>⟨#[],by rw [q]; simp⟩⟩
theorem Un.refl:Un fs ex H H h h:=Un.kept fun _ _ q=>q
theorem Un.laid (k:∀ b u,h.get? b = some u -> h'.get? b = some u) (hp:h.objs.size <= a) (hn:H a = none):Un fs ex H (upd H a o) h h' where
 keep:=fun b u q _ _ _=>k b u q
 slot:=fun b u q _ _ _=>⟨u.slots,k b u q⟩
 free:=fun b u q n _=>by rw [Ac (Nat.ne_of_lt (Nat.lt_of_lt_of_le (Heap.lt_size q) hp))]; exact n
 there:=fun b u q _=>⟨u,k b u q⟩
 dU:=fun b xs q=>by rw [Ac (Ae q hn)]; exact q
 cQ:=fun b u xs q=>by rw [Ac (Ae q hn)]; exact q
 dW:=fun b ps q=>⟨#[],by rw [Ac (Ae q hn),q]; simp⟩
theorem Un.write (mu:jq (H x)) (he:e = x \/ H e = some (.own x)) (k:∀ b u,b ≠ e -> h.get? b = some u -> h'.get? b = some u) (BV:∃ u,h'.get? e = some u):Un fs ex H (upd H x o) h h':=by
 have hx:∀ b,H b = none -> b ≠ x:=fun b n z=>by subst z; rw [n] at mu; exact mu
 have hb:∀ b,H b = none -> b ≠ e:=fun b n z=>by
  subst z
  rcases he with r | r
  ·exact hx b n r
  ·rw [n] at r; cases r
 have hm:∀ b u,H b = some u -> ¬ jq (some u) -> b ≠ x:=fun b u q nm z=>by subst z; rw [q] at mu; exact nm mu
 refine ⟨fun b u q n _ _=>k b u (hb b n) q,fun b u q n _ _=>⟨u.slots,k b u (hb b n) q⟩,fun b u q n _=>by rw [Ac (hx b n)]; exact n,fun b u q _=>?_,
  fun b xs q=>by rw [Ac (hm b _ q fun z=>z)]; exact q,fun b u xs q=>by rw [Ac (hm b _ q fun z=>z)]; exact q,fun b ps q=>⟨#[],by rw [Ac (hm b _ q fun z=>z),q]; simp⟩⟩
 by_cases lD:b = e
 ·subst lD; exact BV
 ·exact ⟨u,k b u lD q⟩
end
def ny (h:Heap) (H:Hp):List Addr:=(List.range h.objs.size).filter fun a=>(H a).isSome
def Oq (h:Heap) (H:Hp):Heap:=PySem.W.hideAll h (ny h H)
theorem Vp (h:Heap) (H:Hp):(Oq h H).objs.size = h.objs.size:=PySem.W.hideAll_size _ _
theorem Xg {h:Heap} {H:Hp} {b:Addr} {o:Obj} (e:h.get? b = some o) (n:H b = none):(Oq h H).get? b = some o :=
 PySem.W.hideAll_get _ e fun hm=>by
  have q:(H b).isSome = true:=(List.mem_filter.mp hm).2
  rw [n] at q; simp at q
theorem aj {h:Heap} {H:Hp} {b:Addr} {o:Obj} (e:(Oq h H).get? b = some o):h.get? b = some o /\ H b = none:=by
 have e':h.get? b = some o:=PySem.W.of_hideAll (ny h H) e
 refine ⟨e',?_⟩
 cases q:H b with
 | none=>rfl
 | some x =>
  have hm:b ∈ ny h H:=List.mem_filter.mpr ⟨List.mem_range.mpr (Heap.lt_size e'),by simp [q]⟩
  have z:(Oq h H).get? b = none:=PySem.W.hideAll_none (ny h H) hm
  rw [z] at e; cases e
structure Mod (K:PySem.W.Frag) (mg:Str -> Option Value) (base:Heap):Prop where
 iV:K.In base
 glob:base.Ns mainGlobals mg
 blt:∃ mb,base.Ns builtinsNs mb /\ ∀ x:Str,x ≠ "__name__" -> mb x = bootBuiltins x
 nolimit:base.NoLimit
set_option genInjectivity false in
set_option genSizeOf false in
structure Cx where
 prog:Program
 w:World
 K:PySem.W.Frag
 mg:Str -> Option Value
 base:Heap
 A:Around
 N:List Str
 s₀:Shared
 H₀:Hp
 env:Env
 outer:List Env
 stack:List Env
 ex:List Addr
 fn:Str -> Bool
 calm:Bool
 pn:List (Addr × Obj)
 xe:Value -> Shared -> Prop
def eK (l:List Env):List Addr:=l.filterMap (·.frame)
abbrev Cx.fs (X:Cx):List Addr:=eK X.outer
def om (sc:Scope) (x:Str):Prop:=sc.names.lookup x = some .local \/ sc.names.lookup x = some .cell \/ sc.names.lookup x = some .free
def nk (sc:Scope) (x:Str):Prop:=sc.names.lookup x = some .local \/ sc.names.lookup x = some .cell
def o9 (env:Env) (h:Heap) (m:Str -> Option Value) (x:Str) (u:Value):Prop :=
 (env.kindOf x = some .local /\ m x = some u) \/ ((env.kindOf x = some .cell \/ env.kindOf x = some .free) /\ ∃ c,env.cells.lookup x = some c /\ h.IsCell c (some u))
structure Cx.Ok (X:Cx):Prop where
 mod:Mod X.K X.mg X.base
 kind:X.env.scope.kind = .function
 glob:X.env.globals = mainGlobals
 blt:X.env.builtins = builtinsNs
 above:X.s₀.heap.objs.size <= X.env.locals
 inj:∀ x y c,X.env.cells.lookup x = some c -> X.env.cells.lookup y = some c -> x = y
 has:∀ x,(X.env.kindOf x = some .cell \/ X.env.kindOf x = some .free) -> ∃ c,X.env.cells.lookup x = some c
 vE:∀ x c,X.fn x = true -> X.env.cells.lookup x = some c -> X.s₀.heap.objs.size <= c
 hd:X.calm = true -> X.A.handled = none
 frames:X.A.frames = some X.stack
 BW:X.stack = X.outer \/ (X.stack = X.env :: X.outer /\ X.env.frame = some X.env.locals)
 DC:∀ b ∈ X.ex,b ≠ X.env.locals /\ ∀ x c,X.env.cells.lookup x = some c -> c ≠ b
 bs:∀ b o,X.base.get? b = some o -> X.s₀.heap.get? b = some o /\ X.H₀ b = none
 qQ:X.base.objs.size <= X.s₀.heap.objs.size
 jP:∀ b o,X.base.get? b = some o -> b ∉ X.ex
 jQ:∀ b ∈ X.ex,b ∉ X.fs
 eM:X.s₀.heap.FunFrames X.base X.outer
 sT:∀ b ∈ X.fs,X.H₀ b = none
structure Ag (X:Cx) (pins:List (Addr × Obj)) (σ:List (Option V)) (H:Hp) (s:Shared):Prop where
 ok:X.Ok
 os:s.os = X.s₀.os
 bare:AllBare s.gens
 base:Un X.fs X.ex X.H₀ H X.s₀.heap s.heap
 loc:∃ m,s.heap.Ns X.env.locals m /\ ∀ (i:Nat) (x:Str) (v:V),X.N[i]? = some x -> σ[i]? = some (some v) -> om X.env.scope x -> ∃ u,Aw v u /\ o9 X.env s.heap m x u
 cell:∀ x c,X.env.cells.lookup x = some c -> ∃ v,s.heap.IsCell c v
 free:H X.env.locals = none
 bD:∀ x c,X.env.cells.lookup x = some c -> H c = none
 pin:∀ p ∈ X.pn ++ pins,s.heap.get? p.1 = some p.2 /\ H p.1 = none /\ p.1 ≠ X.env.locals /\ p.1 ∉ X.fs /\ ∀ v,p.2.data ≠ .cell v
 aP:Ft X.prog X.w H s.heap
 len:σ.length = X.N.length
section
variable {X:Cx} {pins:List (Addr × Obj)} {σ:List (Option V)} {H H':Hp} {s:Shared} {h':Heap}
theorem Cx.Ok.NL (ok:X.Ok) {b:Addr} {o:Obj} (e:X.base.get? b = some o):b ∉ X.fs:=fun hb=>by
 have:=(ok.eM.mem hb).1
 rw [e] at this; cases this
theorem Ag.bs (I:Ag X pins σ H s):∀ b o,X.base.get? b = some o -> s.heap.get? b = some o /\ H b = none:=fun b o e =>
 ⟨I.base.keep b o (I.ok.bs b o e).1 (I.ok.bs b o e).2 (I.ok.NL e) (I.ok.jP b o e),I.base.free b o (I.ok.bs b o e).1 (I.ok.bs b o e).2 (I.ok.jP b o e)⟩
theorem Ag.bk (I:Ag X pins σ H s):∀ b o,X.base.get? b = some o -> s.heap.get? b = some o:=fun b o e=>(I.bs b o e).1
theorem Ag.mod (I:Ag X pins σ H s):Mod X.K X.mg X.base:=I.ok.mod
theorem Ag.fW (I:Ag X pins σ H s):X.K.In s.heap:=I.ok.mod.iV.keeps I.bk
theorem Ag.lt (I:Ag X pins σ H s):X.env.locals < s.heap.objs.size:=let ⟨_,hn,_⟩ := I.loc; hn.lt
theorem Ag.sz (I:Ag X pins σ H s):X.s₀.heap.objs.size <= s.heap.objs.size:=Nat.le_trans I.ok.above (Nat.le_of_lt I.lt)
theorem Ag.NM (I:Ag X pins σ H s) {a:Addr} (h:s.heap.objs.size <= a):a ∉ X.fs:=fun hb=>by
 obtain ⟨_,o,ho,_⟩ := I.ok.eM.mem hb
 exact absurd (Nat.lt_of_lt_of_le (Heap.lt_size ho) (Nat.le_trans I.sz h)) (Nat.lt_irrefl _)
theorem Ag.rD (I:Ag X pins σ H s):∀ x c,X.env.cells.lookup x = some c -> c ≠ X.env.locals:=fun x c e z=>by
 obtain ⟨v,o,ho,hd⟩ := I.cell x c e
 obtain ⟨m,⟨o',es,ep,lW,sS,_⟩,_⟩ := I.loc
 rw [z,lW] at ho; cases ho; rw [sS] at hd; cases hd
theorem Ag.eM (I:Ag X pins σ H s):s.heap.FunFrames X.base X.outer:=by
 have all:∀ (l:List Env),(∀ b ∈ eK l,b ∈ X.fs) -> X.s₀.heap.FunFrames X.base l -> s.heap.FunFrames X.base l:=by
  intro l
  induction l with
  | nil=>intro _ _; trivial
  | cons env r ih =>
   intro hs hl
   obtain ⟨hk,⟨L,o,hf,hn,ho,hd⟩,hr⟩ := hl
   have hL:L ∈ X.fs:=hs L (by unfold eK; rw [List.filterMap_cons,hf]; exact List.mem_cons_self)
   obtain ⟨sl,e⟩ := I.base.slot L o ho (I.ok.sT L hL) hL fun z=>I.ok.jQ L z hL
   exact ⟨hk,⟨L,_,hf,hn,e,hd⟩,ih (fun b hb=>hs b (by unfold eK; rw [List.filterMap_cons,hf]; exact List.mem_cons_of_mem _ hb)) hr⟩
 exact all X.outer (fun _ hb=>hb) I.ok.eM
theorem Ag.stack (I:Ag X pins σ H s):s.heap.FunFrames X.base X.stack:=by
 rcases I.ok.BW with e | ⟨e,hf⟩
 ·rw [e]; exact I.eM
 ·rw [e]
  obtain ⟨m,hn,_⟩ := I.loc
  refine .cons (by rw [I.ok.kind]; decide) hf hn ?_ I.eM
  exact Heap.get?_none_of_le (Nat.le_trans I.ok.qQ I.ok.above)
theorem Ag.jR (I:Ag X pins σ H s):∀ b ∈ eK X.stack,b ∈ X.env.locals :: X.fs:=fun b hb=>by
 rcases I.ok.BW with e | ⟨e,hf⟩
 ·rw [e] at hb; exact List.mem_cons_of_mem _ hb
 ·rw [e] at hb
  unfold eK at hb
  rw [List.filterMap_cons,hf] at hb
  exact hb
theorem Ag.cO (I:Ag X pins σ H s):∀ b ∈ eK X.stack,H b = none:=fun b hb=>by
 rcases List.mem_cons.mp (I.jR b hb) with e | hb
 ·rw [e]; exact I.free
 ·obtain ⟨_,o,ho,_⟩ := I.ok.eM.mem hb
  exact I.base.free b o ho (I.ok.sT b hb) fun z=>I.ok.jQ b z hb
theorem Ag.step {g' : Array GenState} {t' : Nat} {d' : Drawn} {ch : List Addr} (I : Ag X pins σ H s)
  (fX:∀ b ∈ ch,(b ∈ X.ex \/ X.s₀.heap.objs.size <= b) /\ b ≠ X.env.locals /\ (∀ x c,X.env.cells.lookup x = some c -> c ≠ b) /\ ∀ p ∈ X.pn ++ pins,p.1 ≠ b)
  (keep:∀ b o,b ≠ X.env.locals -> b ∉ X.fs -> b ∉ ch -> s.heap.get? b = some o -> H b = none -> h'.get? b = some o)
  (slot:∀ b o,b ≠ X.env.locals -> b ∈ X.fs -> b ∉ ch -> s.heap.get? b = some o -> H b = none -> ∃ sl,h'.get? b = some { o with slots:=sl }) (free:∀ b o,b ∉ ch -> s.heap.get? b = some o -> H b = none -> H' b = none)
  (there:∀ b o,b ∉ ch -> s.heap.get? b = some o -> ∃ o',h'.get? b = some o')
  (dU:∀ b xs,H b = some (.tup xs) -> H' b = some (.tup xs)) (cQ:∀ b o u,H b = some (.bO o u) -> H' b = some (.bO o u)) (dW:∀ b ps,H b = some (.qP ps) -> ∃ more,H' b = some (.qP (ps ++ more)))
  (ns:∀ m,s.heap.Ns X.env.locals m -> h'.Ns X.env.locals m) (aP:Ft X.prog X.w H' h') (hg:AllBare g') :
  Ag X pins σ H' { s with heap:=h',gens:=g',drawn:=d',toks:=t' }:=by
 have BX:∀ b o,X.s₀.heap.get? b = some o -> b ≠ X.env.locals:=fun b o e=>Nat.ne_of_lt (Nat.lt_of_lt_of_le (Heap.lt_size e) I.ok.above)
 have LP:∀ b o,X.s₀.heap.get? b = some o -> b ∉ X.ex -> b ∉ ch:=fun b o e hx hb=>by
  rcases (fX b hb).1 with z | z
  ·exact hx z
  ·exact absurd (Nat.lt_of_lt_of_le (Heap.lt_size e) z) (Nat.lt_irrefl _)
 have cellK:∀ x c,X.env.cells.lookup x = some c -> ∀ v,s.heap.IsCell c v -> h'.IsCell c v:=fun x c e v ⟨o,ho,hd⟩=>by
  have DD:c ∉ ch:=fun z=>(fX c z).2.2.1 x c e rfl
  by_cases hc:c ∈ X.fs
  ·obtain ⟨sl,q⟩ := slot c o (I.rD x c e) hc DD ho (I.bD x c e)
   exact ⟨_,q,hd⟩
  ·exact ⟨o,keep c o (I.rD x c e) hc DD ho (I.bD x c e),hd⟩
 refine ⟨I.ok,I.os,hg,⟨fun b o e n hb hx=>?_,fun b o e n hb hx=>?_,fun b o e n hx=>?_,fun b o e hx=>?_,fun b xs e=>dU b xs (I.base.dU b xs e),fun b o xs e=>cQ b o xs (I.base.cQ b o xs e),fun b ps e=>?_⟩,?_,fun x c e=>?_,?_,fun x c e=>?_,fun p hp=>?_,aP,I.len⟩
 ·exact keep b o (BX b o e) hb (LP b o e hx) (I.base.keep b o e n hb hx) (I.base.free b o e n hx)
 ·obtain ⟨sl,e1⟩ := I.base.slot b o e n hb hx
  obtain ⟨DB,e2⟩ := slot b _ (BX b o e) hb (LP b o e hx) e1 (I.base.free b o e n hx)
  exact ⟨DB,e2⟩
 ·obtain ⟨o',e1⟩ := I.base.there b o e hx
  exact free b o' (LP b o e hx) e1 (I.base.free b o e n hx)
 ·obtain ⟨o',e1⟩ := I.base.there b o e hx
  exact there b o' (LP b o e hx) e1
 ·obtain ⟨m1,e1⟩ := I.base.dW b ps e
  obtain ⟨m2,e2⟩ := dW b _ e1
  exact ⟨m1 ++ m2,by rw [e2,Array.append_assoc]⟩
 ·obtain ⟨m,hn,hl⟩ := I.loc
  refine ⟨m,ns m hn,fun i x v e1 e2 e3=>?_⟩
  obtain ⟨u,r,l⟩ := hl i x v e1 e2 e3
  refine ⟨u,r,?_⟩
  rcases l with l | ⟨k,c,e,z⟩
  ·exact .inl l
  ·exact .inr ⟨k,c,e,cellK x c e _ z⟩
 ·obtain ⟨v,z⟩ := I.cell x c e
  exact ⟨v,cellK x c e v z⟩
 ·obtain ⟨m,⟨o,_,_,ho,_⟩,_⟩ := I.loc
  exact free _ o (fun z=>(fX _ z).2.1 rfl) ho I.free
 ·obtain ⟨v,o,ho,hd⟩ := I.cell x c e
  exact free c o (fun z=>(fX c z).2.2.1 x c e rfl) ho (I.bD x c e)
 ·obtain ⟨e,n,ne,nf,d⟩ := I.pin p hp
  have DD:p.1 ∉ ch:=fun z=>(fX p.1 z).2.2.2 p hp rfl
  exact ⟨keep p.1 p.2 ne nf DD e n,free p.1 p.2 DD e n,ne,nf,d⟩
theorem Ag.un {t':Nat} (I:Ag X pins σ H s) (u:Un X.fs [] H H' s.heap h') (aP:Ft X.prog X.w H' h'):Ag X pins σ H' { s with heap:=h',toks:=t' }:=by
 obtain ⟨m,⟨o,es,ep,ho,r⟩,_⟩ := id I.loc
 obtain ⟨sl,hL⟩ := u.any ho I.free (by simp)
 exact I.step (g':=s.gens) (d':=s.drawn) (ch:=[]) (fun _ z=>nomatch z) (fun b o _ hb _ e n=>u.keep b o e n hb (by simp)) (fun b o _ hb _ e n=>u.slot b o e n hb (by simp)) (fun b o _ e n=>u.free b o e n (by simp)) (fun b o _ e=>u.there b o e (by simp)) u.dU u.cQ u.dW (fun m' hm=>by
  obtain ⟨o',rE,rF,lW,r'⟩ := hm
  rw [ho] at lW; cases lW
  exact ⟨_,rE,rF,hL,r'⟩) aP I.bare
theorem Ag.call {g' : Array GenState} {t' : Nat} {d' : Drawn} {ch : List Addr} (I : Ag X pins σ H s) (u : Un (eK X.stack) ch H H' s.heap h') (aP : Ft X.prog X.w H' h') (hg : AllBare g')
  (fX:∀ b ∈ ch,(b ∈ X.ex \/ X.s₀.heap.objs.size <= b) /\ b ≠ X.env.locals /\ (∀ x c,X.env.cells.lookup x = some c -> c ≠ b) /\ ∀ p ∈ X.pn ++ pins,p.1 ≠ b) :
  Ag X pins σ H' { s with heap:=h',gens:=g',drawn:=d',toks:=t' }:=by
 obtain ⟨m,⟨o,es,ep,ho,r⟩,_⟩ := id I.loc
 obtain ⟨sl,hL⟩ := u.any ho I.free fun z=>(fX _ z).2.1 rfl
 exact I.step (ch:=ch) fX (fun b o hL hb hc e n=>u.keep b o e n (fun z=>(List.mem_cons.mp (I.jR b z)).elim hL hb) hc) (fun b o _ _ hc e n=>u.any e n hc) (fun b o hc e n=>u.free b o e n hc) (fun b o hc e=>u.there b o e hc) u.dU u.cQ u.dW (fun m' hm=>by
  obtain ⟨o',rE,rF,lW,r'⟩ := hm
  rw [ho] at lW; cases lW
  exact ⟨_,rE,rF,hL,r'⟩) aP hg
theorem Ag.turned {t' : Nat} {it : Addr} (I : Ag X pins σ H s) (k : ∀ b o, b ≠ it -> s.heap.get? b = some o -> h'.get? b = some o) (hn : H it = none) (hL : it ≠ X.env.locals)
  (h1:it ∈ X.ex \/ X.s₀.heap.objs.size <= it) (h2:∀ x c,X.env.cells.lookup x = some c -> c ≠ it) (h3:∀ p ∈ X.pn ++ pins,p.1 ≠ it):Ag X pins σ H { s with heap:=h',toks:=t' }:=by
 have nit:∀ b u,H b = some u -> b ≠ it:=fun b u e z=>by rw [z,hn] at e; cases e
 refine I.step (g':=s.gens) (d':=s.drawn) (ch:=[it]) (fun b hb=>?_) (fun b o _ _ hc e _=>k b o (fun z=>hc (by simp [z])) e) (fun b o _ _ hc e _=>⟨o.slots,k b o (fun z=>hc (by simp [z])) e⟩) (fun _ _ _ _ n=>n)
  (fun b o hc e=>⟨o,k b o (fun z=>hc (by simp [z])) e⟩) (fun _ _ e=>e) (fun _ _ _ e=>e) (fun b ps e=>⟨#[],by rw [e]; simp⟩) (fun m hm=>?_) (fun b u e=>?_) I.bare
 ·have e:b = it:=by simpa using hb
  subst e
  exact ⟨h1,hL,h2,h3⟩
 ·obtain ⟨o,es,ep,ho,r⟩ := hm
  exact ⟨o,es,ep,k _ o (Ne.symm hL) ho,r⟩
 ·refine (I.aP b u e).dR (fun c v hc q=>k c v ?_ q) (fun _ q=>q) fun _ _ q=>q
  rcases hc with z | z
  ·rw [z]; exact nit b u e
  ·exact nit c _ z
theorem Ag.tok (I:Ag X pins σ H s) (t:Nat):Ag X pins σ H { s with toks:=t }:=I.un (h':=s.heap) (t':=t) Un.refl I.aP
theorem Ag.kept {t':Nat} (I:Ag X pins σ H s) (k:∀ b u,s.heap.get? b = some u -> h'.get? b = some u):Ag X pins σ H { s with heap:=h',toks:=t' }:=I.un (Un.kept k) (I.aP.kept k)
theorem Ag.laid {a : Addr} {o : HO} {t' : Nat} (I : Ag X pins σ H s) (k : ∀ b u, s.heap.get? b = some u -> h'.get? b = some u) (hp : s.heap.objs.size <= a) (new : Bn X.prog X.w (upd H a o) h' a o) :
  Ag X pins σ (upd H a o) { s with heap:=h',toks:=t' }:=I.un (Un.laid k hp (I.aP.fresh hp)) (I.aP.laid k hp new)
theorem Ag.write {x e : Addr} {o : HO} {t' : Nat} (I : Ag X pins σ H s) (mu : jq (H x)) (he : e = x \/ H e = some (.own x)) (k : ∀ b u, b ≠ e -> s.heap.get? b = some u -> h'.get? b = some u) (BV : ∃ u, h'.get? e = some u)
  (new:Bn X.prog X.w (upd H x o) h' x o):Ag X pins σ (upd H x o) { s with heap:=h',toks:=t' }:=I.un (Un.write mu he k BV) (I.aP.write mu he k BV new)
theorem Ag.weak {σ':List (Option V)} (I:Ag X pins σ H s) (hl:σ'.length = σ.length) (w:∀ (i:Nat) v,σ'[i]? = some (some v) -> σ[i]? = some (some v)):Ag X pins σ' H s :=
 ⟨I.ok,I.os,I.bare,I.base,let ⟨m,hn,hl'⟩ := I.loc; ⟨m,hn,fun i x v e1 e2 e3=>hl' i x v e1 (w i v e2) e3⟩,I.cell,I.free,I.bD,I.pin,I.aP,hl.trans I.len⟩
theorem Ag.kO {iW:List (Addr × Obj)} (I:Ag X pins σ H s) (h:∀ p ∈ iW,s.heap.get? p.1 = some p.2 /\ H p.1 = none /\ p.1 ≠ X.env.locals /\ p.1 ∉ X.fs /\ ∀ v,p.2.data ≠ .cell v):Ag X iW σ H s :=
 ⟨I.ok,I.os,I.bare,I.base,I.loc,I.cell,I.free,I.bD,fun p hp=>(List.mem_append.mp hp).elim (fun z=>I.pin p (List.mem_append_left _ z)) (h p),I.aP,I.len⟩
theorem L7 {N:List Str} (hN:N.Nodup) {i j:Nat} {x:Str} (a:N[i]? = some x) (b:N[j]? = some x):i = j:=by
 obtain ⟨h1,e1⟩ := List.getElem?_eq_some_iff.mp a
 obtain ⟨h2,e2⟩ := List.getElem?_eq_some_iff.mp b
 exact (List.getElem_inj hN).mp (e1.trans e2.symm)
theorem Ob {M : Model} {A : Around} {E : Value -> Shared -> Prop} {i : Nat} {x : Str} {v : V} {u : Value} {Q : Unit -> Shared -> Prop} (I : Ag X pins σ H s) (hN : X.N.Nodup) (hi : X.N[i]? = some x) (hx : nk X.env.scope x) (r : Aw v u)
  (h:∀ s',Ag X pins (σ.set i (some v)) H s' -> (∃ a,Heap.SameBut a s.heap s'.heap /\ (a = X.env.locals \/ X.env.cells.lookup x = some a)) -> Q () s') (hf:X.fn x = true \/ X.env.scope.names.lookup x = some .local:=by first | exact .inl rfl | exact .inr rfl | assumption):wpAny M A (storeName X.env x u) Q E s:=by
 obtain ⟨m,hn,hl⟩ := id I.loc
 have fI:(X.env.scope.kind == .class || (X.env.scope.kind == .module && X.env.locals != X.env.globals)) = false:=by rw [I.ok.kind]; rfl
 have hiσ:i < σ.length:=by rw [I.len]; exact (List.getElem?_eq_some_iff.mp hi).1
 have rD:=I.rD
 have tracked:∀ {a:Addr} {h':Heap},(∃ o,s.heap.get? a = some o /\ H a = none) -> Heap.SameBut a s.heap h' -> Ft X.prog X.w H h':=fun {a h'} ha hs b ob e=>by
  obtain ⟨_,_,sU⟩ := ha
  refine (I.aP b ob e).dR (fun c w' hc q=>(hs.2 c ?_).trans q) (fun _ q=>q) fun _ _ q=>q
  rintro rfl
  rcases hc with rfl | hc
  ·rw [sU] at e; cases e
  ·rw [sU] at hc; cases hc
 rcases hx with hk | hk
 ·refine wpAny_storeName_local hk hn (fun h' NN hs=>?_) fI
  obtain ⟨oL,_,_,DE,_⟩ := id hn
  refine h _ ⟨I.ok,I.os,I.bare,⟨fun b o e n hb hx=>?_,fun b o e n hb hx=>?_,I.base.free,fun b o e hx=>?_,I.base.dU,I.base.cQ,I.base.dW⟩,⟨_,NN,fun j y v' e1 e2 e3=>?_⟩,fun y c e=>?_,I.free,I.bD,fun p hp=>?_,tracked ⟨oL,DE,I.free⟩ hs,by simpa using I.len⟩ ⟨_,hs,.inl rfl⟩
  ·exact (hs.2 b (Nat.ne_of_lt (Nat.lt_of_lt_of_le (Heap.lt_size e) I.ok.above))).trans (I.base.keep b o e n hb hx)
  ·obtain ⟨sl,e1⟩ := I.base.slot b o e n hb hx
   exact ⟨sl,(hs.2 b (Nat.ne_of_lt (Nat.lt_of_lt_of_le (Heap.lt_size e) I.ok.above))).trans e1⟩
  ·obtain ⟨o',e1⟩ := I.base.there b o e hx
   exact ⟨o',(hs.2 b (Nat.ne_of_lt (Nat.lt_of_lt_of_le (Heap.lt_size e) I.ok.above))).trans e1⟩
  ·by_cases hj:j = i
   ·subst hj
    rw [hi] at e1; cases e1
    rw [List.getElem?_set_self hiσ] at e2
    cases e2
    exact ⟨u,r,.inl ⟨hk,by simp⟩⟩
   ·rw [List.getElem?_set_ne (Ne.symm hj)] at e2
    obtain ⟨u',r',q⟩ := hl j y v' e1 e2 e3
    refine ⟨u',r',?_⟩
    rcases q with ⟨k,e⟩ | ⟨k,c,e,z⟩
    ·refine .inl ⟨k,?_⟩
     have:y ≠ x:=fun e=>hj (L7 hN e1 (e ▸ hi))
     simp [this,e]
    ·exact .inr ⟨k,c,e,z.sameBut hs (rD y c e)⟩
  ·obtain ⟨w',z⟩ := I.cell y c e
   exact ⟨w',z.sameBut hs (rD y c e)⟩
  ·obtain ⟨e,n,ne,nf,d⟩ := I.pin p hp
   exact ⟨(hs.2 p.1 ne).trans e,n,ne,nf,d⟩
 ·have NO : X.fn x = true := by
   rcases hf with z | z
   ·exact z
   ·rw [z] at hk; cases hk
  obtain ⟨c,hc⟩ := I.ok.has x (.inl hk)
  obtain ⟨w',z⟩ := I.cell x c hc
  refine wpAny_storeName_cell I.ok.kind hk hc z (fun h' iQ hs=>?_)
  obtain ⟨oc,hoc,NP⟩ := id z
  refine h { s with heap:=h' } ⟨I.ok,I.os,I.bare,⟨fun b o e n hb hx=>?_,fun b o e n hb hx=>?_,I.base.free,fun b o e hx=>?_,I.base.dU,I.base.cQ,I.base.dW⟩,⟨m,hn.sameBut hs (Ne.symm (rD x c hc)),fun j y v' e1 e2 e3=>?_⟩,fun y c' e=>?_,I.free,I.bD,fun p hp=>?_,tracked ⟨oc,hoc,I.bD x c hc⟩ hs,by simpa using I.len⟩ ⟨c,hs,.inr hc⟩
  ·exact (hs.2 b (Nat.ne_of_lt (Nat.lt_of_lt_of_le (Heap.lt_size e) (I.ok.vE x c NO hc)))).trans (I.base.keep b o e n hb hx)
  ·obtain ⟨sl,e1⟩ := I.base.slot b o e n hb hx
   exact ⟨sl,(hs.2 b (Nat.ne_of_lt (Nat.lt_of_lt_of_le (Heap.lt_size e) (I.ok.vE x c NO hc)))).trans e1⟩
  ·obtain ⟨o',e1⟩ := I.base.there b o e hx
   exact ⟨o',(hs.2 b (Nat.ne_of_lt (Nat.lt_of_lt_of_le (Heap.lt_size e) (I.ok.vE x c NO hc)))).trans e1⟩
  ·by_cases hj:j = i
   ·subst hj
    rw [hi] at e1; cases e1
    rw [List.getElem?_set_self hiσ] at e2
    cases e2
    exact ⟨u,r,.inr ⟨.inl hk,c,hc,iQ⟩⟩
   ·rw [List.getElem?_set_ne (Ne.symm hj)] at e2
    obtain ⟨u',r',q⟩ := hl j y v' e1 e2 e3
    refine ⟨u',r',?_⟩
    rcases q with q | ⟨k,c',e,z'⟩
    ·exact .inl q
    ·refine .inr ⟨k,c',e,z'.sameBut hs ?_⟩
     rintro rfl
     exact hj (L7 hN e1 (I.ok.inj _ _ _ e hc ▸ hi))
  ·by_cases hcc:c' = c
   ·subst hcc; exact ⟨_,iQ⟩
   ·obtain ⟨w2,z2⟩ := I.cell y c' e
    exact ⟨w2,z2.sameBut hs hcc⟩
  ·obtain ⟨e,n,ne,nf,d⟩ := I.pin p hp
   refine ⟨(hs.2 p.1 ?_).trans e,n,ne,nf,d⟩
   intro q
   rw [q,hoc] at e
   have q':oc = p.2:=Option.some.inj e
   exact d w' (by rw [<- q']; exact NP)
theorem Lx {M : Model} {A : Around} {E : Value -> Shared -> Prop} {i : Nat} {x : Str} {v : V} {u : Value} {Q : Unit -> Shared -> Prop} (I : Ag X pins σ H s) (hN : X.N.Nodup) (hi : X.N[i]? = some x) (hx : nk X.env.scope x) (r : Aw v u)
  (h:∀ s',Ag X pins (σ.set i (some v)) H s' -> Q () s') (hf:X.fn x = true \/ X.env.scope.names.lookup x = some .local:=by first | exact .inl rfl | exact .inr rfl | assumption):wpAny M A (storeName X.env x u) Q E s :=
 Ob I hN hi hx r (fun s' I' _=>h s' I') hf
theorem Ag.sW {s' : Shared} {ch : List Addr} (I : Ag X pins σ H s) (ho : s'.os = s.os) (u : Un (eK X.stack) ch H H' s.heap s'.heap) (aP : Ft X.prog X.w H' s'.heap) (hg : AllBare s'.gens)
  (fX:∀ b ∈ ch,(b ∈ X.ex \/ X.s₀.heap.objs.size <= b) /\ b ≠ X.env.locals /\ (∀ x c,X.env.cells.lookup x = some c -> c ≠ b) /\ ∀ p ∈ X.pn ++ pins,p.1 ≠ b):Ag X pins σ H' s':=by
 obtain ⟨h',g',d',t',o'⟩ := s'
 have e:o' = s.os:=ho
 subst e
 exact I.call (g':=g') (t':=t') (d':=d') u aP hg fX
end
abbrev XK:=Value -> Option Addr -> Hp -> Prop
abbrev St:=List (Option V)
abbrev VK:=V -> Hp -> Prop
abbrev TE:=St -> Hp -> VK -> Prop
abbrev TT:=St -> Hp -> (Bool -> Hp -> Prop) -> Prop
abbrev TA:=St -> Hp -> (List V -> Hp -> Prop) -> Prop
set_option genInjectivity false in
set_option genSizeOf false in
structure Ha where
 nx:St -> Hp -> Prop
 rt:VK
 bk:St -> Hp -> Prop:=fun _ _=>False
 ct:St -> Hp -> Prop:=fun _ _=>False
abbrev TS:=Ha -> St -> Hp -> Prop
def EP (X:Cx) (pins:List (Addr × Obj)) (σ:St) (Q:VK) (u:Value) (s':Shared):Prop := ∃ v H',Ag X pins σ H' s' /\ Aw v u /\ Q v H'
def TP (X:Cx) (pins:List (Addr × Obj)) (σ:St) (Q:Bool -> Hp -> Prop) (b:Bool) (s':Shared):Prop := ∃ H',Ag X pins σ H' s' /\ Q b H'
def AP (X:Cx) (pins:List (Addr × Obj)) (σ:St) (Q:List V -> Hp -> Prop) (us:List Value) (s':Shared):Prop := ∃ vs H',Ag X pins σ H' s' /\ Az vs us /\ Q vs H'
def SP (X:Cx) (pins:List (Addr × Obj)) (D:Ha) (f:Flow) (s':Shared):Prop :=
 match f with
 | .next=>∃ σ' H',Ag X pins σ' H' s' /\ D.nx σ' H'
 | .brk=>∃ σ' H',Ag X pins σ' H' s' /\ D.bk σ' H'
 | .cont=>∃ σ' H',Ag X pins σ' H' s' /\ D.ct σ' H'
 | .ret u=>∃ v σ' H',Ag X pins σ' H' s' /\ Aw v u /\ D.rt v H'
def PE (X:Cx) (e:Expr) (t:TE):Prop :=
 ∀ (pins:List (Addr × Obj)) (s:Shared) (σ:St) (H:Hp) (Q:VK),Ag X pins σ H s -> t σ H Q -> wpAny (model X.prog X.w) X.A (eval e X.env) (EP X pins σ Q) X.xe s
def PT (X:Cx) (e:Expr) (t:TT):Prop :=
 ∀ (pins:List (Addr × Obj)) (s:Shared) (σ:St) (H:Hp) (Q:Bool -> Hp -> Prop),Ag X pins σ H s -> t σ H Q -> wpAny (model X.prog X.w) X.A (isTrue e X.env (eval e X.env)) (TP X pins σ Q) X.xe s
def PW (X:Cx) (e:Expr) (t:TT):Prop :=
 ∀ (whole:Sem Value) (pins:List (Addr × Obj)) (s:Shared) (σ:St) (H:Hp) (Q:Bool -> Hp -> Prop),Ag X pins σ H s -> t σ H Q -> wpAny (model X.prog X.w) X.A (isTrue e X.env whole) (TP X pins σ Q) X.xe s
theorem PW.pt {X:Cx} {e:Expr} {t:TT} (h:PW X e t):PT X e t:=h _
def PA (X:Cx) (es:List Expr) (t:TA):Prop :=
 ∀ (pos:Pos) (pins:List (Addr × Obj)) (s:Shared) (σ:St) (H:Hp) (Q:List V -> Hp -> Prop),Ag X pins σ H s -> t σ H Q -> wpAny (model X.prog X.w) X.A (spliced (backTo pos (starEach es X.env))) (AP X pins σ Q) X.xe s
def PS (X:Cx) (st:Stmt) (t:TS):Prop :=
 ∀ (pins:List (Addr × Obj)) (s:Shared) (σ:St) (H:Hp) (D:Ha),Ag X pins σ H s -> t D σ H -> wpAny (model X.prog X.w) X.A (exec st X.env) (SP X pins D) X.xe s
def Mc (X:Cx) (st:List Stmt) (t:TS):Prop :=
 ∀ (pins:List (Addr × Obj)) (s:Shared) (σ:St) (H:Hp) (D:Ha),Ag X pins σ H s -> t D σ H -> wpAny (model X.prog X.w) X.A (execs st X.env) (SP X pins D) X.xe s
theorem Ci {α:Type} {t:Sem α} {Q Q':α -> Shared -> Prop} {M:Model} {A:Around} {E:Value -> Shared -> Prop} {s:Shared} (h:wpAny M A t Q E s) (hQ:∀ a s,Q a s -> Q' a s):wpAny M A t Q' E s:=wpAny_mono h hQ fun _ _ x=>x
section
variable {X:Cx}
def nc (i:Nat):TE:=fun σ H Q=>∃ v,σ[i]? = some (some v) /\ Q v H
def tC (v:V):TE:=fun _ H Q=>Q v H
theorem gz {i:Nat} {x:Str} {pos:Pos} (hN:X.N[i]? = some x) (hv:om X.env.scope x) (hd:(x == ("__debug__" : Str)) = false:=by decide) (lE:(x == ("__classdict__" : Str)) = false:=by decide):PE X (.Name x pos) (nc i):=by
 intro pins s σ H Q I h
 obtain ⟨v,e,h⟩ := h
 obtain ⟨m,hn,hl⟩ := I.loc
 obtain ⟨u,r,l⟩ := hl i x v hN e hv
 have fin:EP X pins σ Q u s:=⟨v,H,I,r,h⟩
 rcases l with ⟨hk,hm⟩ | ⟨hk,c,hc,sX⟩
 ·exact wpAny_Name (wpAny_loadName_local I.ok.kind hk hn hm fin) hd
 ·rcases hk with hk | hk
  ·exact wpAny_Name (wpAny_loadName_cell I.ok.kind hk hc sX fin) hd
  ·exact wpAny_Name (wpAny_loadName_free I.ok.kind hk hc sX fin lE) hd
theorem A8 {i j pos}:PE X (.Constant (.int i) j pos) (tC (.int i)):=fun _ _ _ H _ I h=>wpAny_Constant_int ⟨.int i,H,I.tok _,⟨_,rfl⟩,h⟩
theorem Fo {b j pos}:PE X (.Constant (.bool b) j pos) (tC (.bl b)):=fun _ _ _ H _ I h=>Constant_bool ⟨.bl b,H,I,rfl,h⟩
theorem Cy {j pos}:PE X (.Constant .none j pos) (tC .aW):=fun _ _ _ H _ I h=>Constant_none ⟨.aW,H,I,rfl,h⟩
theorem gy {x j pos}:PE X (.Constant (.str x) j pos) (tC (.str x)):=fun _ _ _ H _ I h=>Calls.Constant_str ⟨.str x,H,I.tok _,⟨_,rfl⟩,h⟩
def Gl (X:Cx) (x:Str):Prop:=X.env.kindOf x = some .globalImplicit
theorem Jz {E : Value -> Shared -> Prop} {pins : List (Addr × Obj)} {s : Shared} {σ : St} {H : Hp} {x : Str} {u : Value} {pos : Pos} {Q : Value -> Shared -> Prop} (I : Ag X pins σ H s) (hg : Gl X x) (hm : X.mg x = some u) (h : Q u s)
  (hd:(x == ("__debug__" : Str)) = false:=by decide):wpAny (model X.prog X.w) X.A (eval (.Name x pos) X.env) Q E s :=
 Calls.Name_function_global I.ok.kind hg (Calls.loadGlobal_global (by rw [I.ok.glob]; exact I.mod.glob.keeps I.bk) hm h) hd
theorem Ku {E : Value -> Shared -> Prop} {pins : List (Addr × Obj)} {s : Shared} {σ : St} {H : Hp} {x : Str} {u : Value} {pos : Pos} {Q : Value -> Shared -> Prop} (I : Ag X pins σ H s) (hg : Gl X x) (hm : X.mg x = none) (hv : bootBuiltins x = some u) (h : Q u s)
  (hn:x ≠ "__name__" := by decide) (hd:(x == ("__debug__" : Str)) = false:=by decide):wpAny (model X.prog X.w) X.A (eval (.Name x pos) X.env) Q E s:=by
 obtain ⟨mb,h1,h2⟩ := I.mod.blt
 exact Calls.Name_function_global I.ok.kind hg (Calls.loadGlobal_builtin (by rw [I.ok.glob]; exact I.mod.glob.keeps I.bk) hm (by rw [I.ok.blt]; exact h1.keeps I.bk) ((h2 x hn).trans hv) h) hd
theorem Uu {x:Str} {v:V} {u:Value} {pos:Pos} (hg:Gl X x) (hm:X.mg x = some u) (r:Aw v u) (hd:(x == ("__debug__" : Str)) = false:=by decide):PE X (.Name x pos) (tC v) :=
 fun _ _ _ H _ I h=>Jz I hg hm ⟨v,H,I,r,h⟩ hd
theorem ar {x:Str} {v:V} {u:Value} {pos:Pos} (hg:Gl X x) (hm:X.mg x = none) (hv:bootBuiltins x = some u) (r:Aw v u) (hn:x ≠ "__name__" := by decide) (hd:(x == ("__debug__" : Str)) = false:=by decide):PE X (.Name x pos) (tC v) :=
 fun _ _ _ H _ I h=>Ku I hg hm hv ⟨v,H,I,r,h⟩ hn hd
variable {a b:Expr} {ta tb:TE} {pos:Pos}
def PC (X:Cx) (op:CmpOp) (a b:Expr) (t:TE):Prop :=
 ∀ (pins:List (Addr × Obj)) (s:Shared) (σ:St) (H:Hp) (Q:VK),Ag X pins σ H s -> t σ H Q ->
  wpAny (model X.prog X.w) X.A (eval a X.env) (fun v s₁=>wpAny (model X.prog X.w) X.A (eval b X.env) (fun u s₂=>wpAny (model X.prog X.w) X.A (compareOp op v u) (EP X pins σ Q) X.xe s₂) X.xe s₁) X.xe s
def tB (t:TE):TT:=fun σ H Q=>t σ H fun x H1=>∃ c,x = .bl c /\ Q c H1
theorem J2 {op:CmpOp} {t:TE} (h:PC X op a b t) (h1:behindInMarks op b = false:=by first | exact DF _ (by decide) (by decide) | rfl):PT X (.Compare a [op] [b] pos) (tB t):=by
 intro pins s σ H Q I hw
 refine wpAny_isTrue_Compare1 (Ci (h pins s σ H _ I hw) fun v s1 h1=>Ci h1 fun u s2 h2=>Ci h2 fun c s3 ⟨x,H1,I1,r1,q1⟩=>?_) h1
 obtain ⟨d,rfl,q⟩ := q1
 cases r1
 exact wpAny_truthy_bool ⟨H1,I1,q⟩
theorem D4 {e:Expr} {t:TE} (h:PE X e t) (he:∀ whole,isTrue e X.env whole = (do let v <- whole; standAt e.pos; holding [v] (truthy v)):=by intro _; rfl):PT X e (tB t):=by
 intro pins s σ H Q I hw
 refine isTrue_plain (Ci (h pins s σ H _ I hw) fun v s1 ⟨x,H1,I1,r1,q1⟩=>?_) (he _)
 obtain ⟨d,rfl,q⟩ := q1
 cases r1
 exact wpAny_truthy_bool ⟨H1,I1,q⟩
variable {tA BZ:TT} {rest:List Expr}
def qj (t:TT):TT:=fun σ H Q=>t σ H fun c H1=>Q (!c) H1
theorem aw (ha:PT X a tA):PW X (.BoolOp .And [a] pos) tA:=by
 intro wh pins s σ H Q I h
 refine isTrue_and (Ci (ha pins s σ H Q I h) fun c s1 e=>?_)
 cases c with
 | true=>exact isTrue_and_nil e
 | false=>exact e
theorem Li (ha:PT X a tA):PW X (.BoolOp .Or [a] pos) tA:=by
 intro wh pins s σ H Q I h
 refine isTrue_or (Ci (ha pins s σ H Q I h) fun c s1 e=>?_)
 cases c with
 | false=>exact isTrue_or_nil e
 | true=>exact e
theorem Dr (ha:PT X a tA):PT X (.UnaryOp .Not a pos) (qj tA):=by
 intro pins s σ H Q I h
 exact isTrue_not (ha pins s σ H (fun c H1=>Q (!c) H1) I h)
theorem Lb {op} {t:TE} (h:PE X a t):PE X (.BoolOp op [a] pos) t:=fun pins s σ H Q I hw=>BoolOp_one (h pins s σ H Q I hw)
def uc (t:TT) (ta tb:TE):TE:=fun σ H Q=>t σ H fun c H1=>if c = true then ta σ H1 Q else tb σ H1 Q
theorem Y2 {c:Expr} (hc:PT X c tA) (ha:PE X a ta) (hb:PE X b tb):PE X (.IfExp c a b pos) (uc tA ta tb):=by
 intro pins s σ H Q I h
 refine wpAny_IfExp (Ci (hc pins s σ H _ I h) fun d s1 bA=>?_)
 obtain ⟨H1,I1,q1⟩ := bA
 cases d with
 | true=>exact ha pins s1 σ H1 Q I1 q1
 | false=>exact hb pins s1 σ H1 Q I1 q1
end
def B9 (K:PySem.W.Frag) (H:Hp) (a:Addr) (xs:List V):Prop :=
 Rd H a (.lst xs) \/
  ∃ (o:Obj) (aL:Array Value) (n:Nat),K.lookup a = some o /\ o.cls = .type "list" /\ o.dict = none /\ o.data = .seq aL n /\ aL.size <= sizeLine /\ Az xs aL.toList
def Cj (K:PySem.W.Frag) (H:Hp) (a:Addr) (xs:List V):Prop :=
 Rd H a (.tup xs) \/
  ∃ (o:Obj) (aL:Array Value) (n:Nat),K.lookup a = some o /\ o.cls = .type "tuple" /\ o.data = .seq aL n /\ aL.size <= sizeLine /\ Az xs aL.toList
def oq:Value -> Option V
 | .none=>some .aW
 | .bool b=>some (.bl b)
 | .int i _=>some (.int i)
 | .str x _=>some (.str x)
 | .bytes b _=>some (.lB b)
 | .float b _=>some (.BU b)
 | .ref a=>some (.ref a)
 | .type n=>some (.ty n)
 | _=>none
theorem Aw.abs {x:V} {u:Value} (r:Aw x u):oq u = some x:=by
 cases x with
 | aW=>cases r; rfl
 | bl _=>cases r; rfl
 | int _=>obtain ⟨t,rfl⟩ := r; rfl
 | str _=>obtain ⟨t,rfl⟩ := r; rfl
 | lB _=>obtain ⟨t,rfl⟩ := r; rfl
 | BU _=>obtain ⟨t,rfl⟩ := r; rfl
 | ref _=>cases r; rfl
 | ty _=>cases r; rfl
theorem Aw.inj {x y:V} {u:Value} (r:Aw x u) (q:Aw y u):x = y:=Option.some.inj (r.abs.symm.trans q.abs)
theorem Az.inj {xs ys:List V} {us:List Value} (h:Az xs us) (g:Az ys us):xs = ys:=by
 induction h generalizing ys with
 | nil =>
  cases g
  rfl
 | cons r t ih =>
  cases g with
  | cons r' t'=>rw [r.inj r',ih t']
section
variable {X:Cx} {pins:List (Addr × Obj)} {σ:St} {H:Hp} {s:Shared} {a:Addr} {xs ys:List V}
theorem B9.of {K:PySem.W.Frag} (h:H a = some (.lst xs)):B9 K H a xs := .inl (.inl h)
theorem Cj.of {K:PySem.W.Frag} (h:H a = some (.tup xs)):Cj K H a xs := .inl (.inl h)
theorem Ag.list (I:Ag X pins σ H s) (h:B9 X.K H a xs):∃ aL:List Value,Az xs aL /\ PlainL s.heap a aL.toArray /\ xs.length <= sizeLine:=by
 rcases h with h | ⟨o,aL,n,hk,hc,hd,hs,hz,r⟩
 ·obtain ⟨z,aL,n,r,e⟩ := h.ok I.aP
  exact ⟨aL,r,⟨_,n,e,rfl,rfl,rfl⟩,z⟩
 ·refine ⟨aL.toList,r,⟨o,n,I.fW a o hk,hc,hd,by simpa using hs⟩,?_⟩
  have e:=r.length
  simp only [Array.length_toList] at e
  omega
theorem Ag.tuple (I:Ag X pins σ H s) (h:Cj X.K H a xs):∃ aL:List Value,Az xs aL /\ IsTup s.heap a aL.toArray /\ xs.length <= sizeLine:=by
 rcases h with h | ⟨o,aL,n,hk,hc,hs,hz,r⟩
 ·obtain ⟨z,aL,r,p⟩ := h.ok I.aP
  exact ⟨aL,r,p,z.1⟩
 ·refine ⟨aL.toList,r,⟨o,I.fW a o hk,hc,n,by simpa using hs⟩,?_⟩
  have e:=r.length
  simp only [Array.length_toList] at e
  omega
theorem Ag.mF (I:Ag X pins σ H s) (h:B9 X.K H a xs) (h':B9 X.K H a ys):xs = ys:=by
 obtain ⟨aL,r,⟨o,n,e,_,_,d⟩,_⟩ := I.list h
 obtain ⟨its',r',⟨o',n',e',_,_,d'⟩,_⟩ := I.list h'
 rw [e] at e'; cases e'
 rw [d] at d'
 injection d' with d1 _
 have:aL = its':=by simpa using congrArg Array.toList d1
 subst this
 exact r.inj r'
theorem Ag.lF (I:Ag X pins σ H s) (h:Cj X.K H a xs) (h':Cj X.K H a ys):xs = ys:=by
 obtain ⟨aL,r,⟨o,e,_,n,d⟩,_⟩ := I.tuple h
 obtain ⟨its',r',⟨o',e',_,n',d'⟩,_⟩ := I.tuple h'
 rw [e] at e'; cases e'
 rw [d] at d'
 injection d' with d1 _
 have:aL = its':=by simpa using congrArg Array.toList d1
 subst this
 exact r.inj r'
end
abbrev Cx.fZ (X:Cx) (E:Value -> Shared -> Prop):Cx:={ X with xe:=E }
abbrev Cx.sY (X:Cx):Cx:=X.fZ fun _ _=>False
theorem Cx.Ok.fZ {X:Cx} (ok:X.Ok) (E:Value -> Shared -> Prop):(X.fZ E).Ok :=
 ⟨ok.mod,ok.kind,ok.glob,ok.blt,ok.above,ok.inj,ok.has,ok.vE,ok.hd,ok.frames,ok.BW,ok.DC,ok.bs,ok.qQ,ok.jP,ok.jQ,ok.eM,ok.sT⟩
theorem Cx.Ok.cB {X:Cx} {E:Value -> Shared -> Prop} (ok:(X.fZ E).Ok):X.Ok :=
 ⟨ok.mod,ok.kind,ok.glob,ok.blt,ok.above,ok.inj,ok.has,ok.vE,ok.hd,ok.frames,ok.BW,ok.DC,ok.bs,ok.qQ,ok.jP,ok.jQ,ok.eM,ok.sT⟩
section
variable {X:Cx} {pins:List (Addr × Obj)} {σ:St} {H:Hp} {s:Shared} {E:Value -> Shared -> Prop}
theorem Ag.fZ (I:Ag X pins σ H s) (E:Value -> Shared -> Prop):Ag (X.fZ E) pins σ H s:=⟨I.ok.fZ E,I.os,I.bare,I.base,I.loc,I.cell,I.free,I.bD,I.pin,I.aP,I.len⟩
theorem Ag.cB (I:Ag (X.fZ E) pins σ H s):Ag X pins σ H s:=⟨I.ok.cB,I.os,I.bare,I.base,I.loc,I.cell,I.free,I.bD,I.pin,I.aP,I.len⟩
theorem SP.cB {D:Ha} {f:Flow} {s':Shared} (h:SP (X.fZ E) pins D f s'):SP X pins D f s':=by
 cases f with
 | next=>obtain ⟨σ',H',I,q⟩ := h; exact ⟨σ',H',I.cB,q⟩
 | brk=>obtain ⟨σ',H',I,q⟩ := h; exact ⟨σ',H',I.cB,q⟩
 | cont=>obtain ⟨σ',H',I,q⟩ := h; exact ⟨σ',H',I.cB,q⟩
 | ret u=>obtain ⟨v,σ',H',I,r,q⟩ := h; exact ⟨v,σ',H',I.cB,r,q⟩
theorem Mc.sY {st:List Stmt} {t:TS} (h:Mc X.sY st t):Mc X st t:=fun pins s σ H D I hw =>
 wpAny_mono (h pins s σ H D (I.fZ _) hw) (fun _ _ q=>q.cB) fun _ _ z=>False.elim z
end
section
variable {X:Cx} {st:Stmt} {rest:List Stmt} {t u:TS} {e:Expr} {te:TE} {pos:Pos}
def mw:TS:=fun D σ H=>D.nx σ H
def n8 (t u:TS):TS:=fun D σ H=>t { D with nx:=u D } σ H
theorem As:Mc X [] mw:=fun _ _ σ H _ I h=>wpAny_execs_nil ⟨σ,H,I,h⟩
theorem A6 (h1:PS X st t) (h2:Mc X rest u):Mc X (st :: rest) (n8 t u):=by
 intro pins s σ H D I h
 refine wpAny_execs_cons (Ci (h1 pins s σ H { D with nx:=u D } I h) fun f s1 q=>?_)
 cases f with
 | next =>
  obtain ⟨σ',H',I',q⟩ := q
  exact h2 pins s1 σ' H' D I' q
 | ret v=>exact q
 | brk=>exact q
 | cont=>exact q
theorem Ab (h1:PS X st t):Mc X [st] t:=by
 intro pins s σ H D I h
 refine wpAny_execs_cons (Ci (h1 pins s σ H D I h) fun f s1 q=>?_)
 cases f with
 | next=>exact wpAny_execs_nil q
 | ret v=>exact q
 | brk=>exact q
 | cont=>exact q
theorem Ag.quiet {pins:List (Addr × Obj)} {σ:St} {H:Hp} {s:Shared} (I:Ag X pins σ H s):interactive X.env = false:=by simp [interactive,I.ok.kind]
def ms (te:TE):TS:=fun D σ H=>te σ H fun _ H1=>D.nx σ H1
theorem Ce (he:PE X e te) (hs:swapsWith e none pos.line X.env = pure false:=by rfl):PS X (.Expr e pos) (ms te):=by
 intro pins s σ H D I h
 exact wpAny_Expr_any (Ci (he pins s σ H _ I h) fun v s1 ⟨x,H1,I1,r1,q1⟩=>⟨σ,H1,I1,q1⟩) I.quiet hs
def qm (te:TE):TS:=fun D σ H=>te σ H D.rt
theorem Ak (he:PE X e te):PS X (.Return (some e) pos) (qm te):=by
 intro pins s σ H D I h
 exact wpAny_Return_some (Ci (he pins s σ H _ I h) fun v s1 ⟨x,H1,I1,r1,q1⟩=>⟨x,σ,H1,I1,r1,q1⟩)
def qg (c:TT) (t u:TS):TS:=fun D σ H=>c σ H fun b H1=>if b = true then t D σ H1 else u D σ H1
theorem Cg {c:Expr} {a b:List Stmt} {tc:TT} (hc:PT X c tc) (ha:Mc X a t) (hb:Mc X b u):PS X (.If c a b pos) (qg tc t u):=by
 intro pins s σ H D I h
 refine wpAny_If (Ci (hc pins s σ H _ I h) fun d s1 bA=>?_)
 obtain ⟨H1,I1,q1⟩ := bA
 cases d with
 | true=>exact ha pins s1 σ H1 D I1 q1
 | false=>exact hb pins s1 σ H1 D I1 q1
def j6:TS:=fun _ _ _=>False
theorem Ra:PS X st j6:=fun _ _ _ _ _ _ h=>h.elim
end
abbrev TG:=V -> St -> Hp -> (St -> Hp -> Prop) -> Prop
abbrev Zg:=List V -> St -> Hp -> (St -> Hp -> Prop) -> Prop
def PG (X:Cx) (target:Expr) (t:TG):Prop :=
 ∀ (pins:List (Addr × Obj)) (s:Shared) (σ:St) (H:Hp) (v:V) (u:Value) (Q:St -> Hp -> Prop),Ag X pins σ H s -> Aw v u -> t v σ H Q ->
  wpAny (model X.prog X.w) X.A (assign target X.env u) (fun _ s'=>∃ σ' H',Ag X pins σ' H' s' /\ Q σ' H') X.xe s
def jt (X:Cx) (ts:List Expr) (t:Zg):Prop :=
 ∀ (pins:List (Addr × Obj)) (s:Shared) (σ:St) (H:Hp) (vs:List V) (us:List Value) (Q:St -> Hp -> Prop),Ag X pins σ H s -> Az vs us -> t vs σ H Q ->
  wpAny (model X.prog X.w) X.A (assignInOrder ((assignEach ts X.env).map (·.2)) us) (fun _ s'=>∃ σ' H',Ag X pins σ' H' s' /\ Q σ' H') X.xe s
abbrev dh:=V -> V -> V -> Hp -> (Hp -> Prop) -> Prop
def ju (X:Cx) (t:dh):Prop :=
 ∀ (pins:List (Addr × Obj)) (s:Shared) (σ:St) (H:Hp) (o i v:V) (ov iv u:Value) (Q:Hp -> Prop),Ag X pins σ H s -> Aw o ov -> Aw i iv -> Aw v u -> t o i v H Q ->
  wpAny (model X.prog X.w) X.A (setItem ov iv u) (fun _ s'=>∃ H',Ag X pins σ H' s' /\ Q H') X.xe s
section
variable {X:Cx} {pos:Pos}
def Fw (i:Nat):TG:=fun v σ H Q=>Q (σ.set i (some v)) H
theorem Ax {i:Nat} {x:Str} (hN:X.N.Nodup) (hi:X.N[i]? = some x) (hx:nk X.env.scope x) (hf:X.fn x = true \/ X.env.scope.names.lookup x = some .local:=by first | exact .inl rfl | exact .inr rfl | assumption):PG X (.Name x pos) (Fw i):=by
 intro pins s σ H v u Q I r h
 exact wpAny_assign_Name (Lx I hN hi hx r (fun s' I'=>⟨_,H,I',h⟩) hf)
def ef:Zg:=fun vs σ H Q=>vs = [] /\ Q σ H
def N5 (t:TG) (u:Zg):Zg:=fun vs σ H Q=>∃ v r,vs = v :: r /\ t v σ H fun σ' H'=>u r σ' H' Q
theorem K3:jt X [] ef:=by
 intro pins s σ H vs us Q I r h
 obtain ⟨e,h⟩ := h
 subst e
 cases r
 exact assignInOrder_nil ⟨σ,H,I,h⟩
theorem Dl {e : Expr} {es : List Expr} {t : TG} {u : Zg} (h1 : PG X e t) (h2 : jt X es u)
  (hs:(assignEach (e :: es) X.env).map (·.2) = assign e X.env :: (assignEach es X.env).map (·.2):=by rfl):jt X (e :: es) (N5 t u):=by
 intro pins s σ H vs us Q I r h
 obtain ⟨v,vr,e1,h⟩ := h
 subst e1
 cases r with
 | cons r rr =>
  rw [hs]
  refine assignInOrder_cons (Ci (h1 pins s σ H _ _ _ I r h) fun _ s1 bA=>?_)
  obtain ⟨σ1,H1,I1,q1⟩ := bA
  exact h2 pins s1 σ1 H1 _ _ Q I1 rr q1
def Zw (K:PySem.W.Frag) (n:Nat) (t:Zg):TG:=fun v σ H Q=>∃ a xs,v = .ref a /\ Cj K H a xs /\ xs.length = n /\ t xs σ H Q
theorem i4 {es : List Expr} {k : Nat} {t : Zg} {n : Nat} (hc : X.calm = true) (h : jt X es t)
  (hn:(assignEach es X.env).length = n:=by rfl) (dQ:(assignEach es X.env).findIdx? (·.1) = none:=by rfl):PG X (.Tuple es k pos) (Zw X.K n t):=by
 intro pins s σ H v u Q I r hw
 obtain ⟨a,xs,e1,hq,hl,hw⟩ := hw
 subst e1
 cases r
 obtain ⟨aL,rv,ht,hz⟩ := I.tuple hq
 refine assign_Tuple_tuple (I.ok.hd hc) ht (by simp [hn,<- hl,rv.length]) dQ fun h' hx=>?_
 have I1:Ag X pins σ H { s with heap:=h' }:=I.kept (t':=s.toks) fun b o e=>hx b o (Nat.ne_of_lt (Heap.lt_size e)) e
 exact h pins _ σ H xs _ Q I1 (by simpa using rv) hw
def ow (to ti:TE) (t:dh):TG:=fun v σ H Q=>to σ H fun o H1=>ti σ H1 fun i H2=>t o i v H2 fun H3=>Q σ H3
theorem Sr {o i : Expr} {to ti : TE} {t : dh} (ho : PE X o to) (hi : PE X i ti) (hs : ju X t)
  (ha:∀ v,assign (.Subscript o i pos) X.env v = (do
   let ov <- holding [v] (eval o X.env)
   let iv <- holding [v,ov] (eval i X.env)
   standAt pos
   holding [v,ov,iv] (setItem ov iv v)
   release [v,ov,iv] []):=by intro _; rfl):PG X (.Subscript o i pos) (ow to ti t):=by
 intro pins s σ H v u Q I r h
 rw [ha]
 refine wpAny_bind (wpAny_holding (Ci (ho pins s σ H _ I h) fun ov s1 bA=>?_))
 obtain ⟨x,H1,I1,r1,q1⟩ := bA
 refine wpAny_bind (wpAny_holding (Ci (hi pins s1 σ H1 _ I1 q1) fun iv s2 bA=>?_))
 obtain ⟨y,H2,I2,r2,q2⟩ := bA
 refine wpAny_bind (wpAny_standAt (wpAny_bind (wpAny_holding (Ci (hs pins s2 σ H2 x y v ov iv u _ I2 r1 r2 r q2) fun _ s3 bA=>?_))))
 obtain ⟨H3,I3,q3⟩ := bA
 exact wpAny_release ⟨σ,H3,I3,q3⟩
def mm (te:TE) (g:TG):TS:=fun D σ H=>te σ H fun x H1=>g x σ H1 D.nx
theorem Ss {tg e : Expr} {te : TE} {g : TG} (he : PE X e te) (hg : PG X tg g) (hs : swapsWithSole [tg] e pos.line X.env = pure false := by rfl) (hw : swappedStores [tg] e X.env = pure none := by rfl)
  (h1:(assignEach [tg] X.env).map (·.2) = [assign tg X.env]:=by rfl):PS X (.Assign [tg] e pos) (mm te g):=by
 intro pins s σ H D I h
 refine wpAny_Assign_stores (Ci (he pins s σ H _ I h) fun v s1 ⟨x,H1,I1,r1,q1⟩=>?_) hs hw
 rw [h1]
 exact Ci (hg pins s1 σ H1 x v _ I1 r1 q1) fun _ s2 q=>q
theorem Ah {i : Nat} {x : Str} {e : Expr} {te : TE} {pos' : Pos} (hN : X.N.Nodup) (hi : X.N[i]? = some x) (hx : nk X.env.scope x) (he : PE X e te) (hs : swapsWith e (some (.Name x pos')) pos.line X.env = pure false := by rfl) (hf : X.fn x = true \/ X.env.scope.names.lookup x = some .local := by first | exact .inl rfl | exact .inr rfl | assumption) :
  PS X (.Assign [.Name x pos'] e pos) (mm te (Fw i)):=by
 intro pins s σ H D I h
 refine wpAny_Assign_Name (Ci (he pins s σ H _ I h) fun v s1 ⟨y,H1,I1,r1,q1⟩=>?_) hs
 exact Lx I1 hN hi hx r1 (fun s2 I2=>⟨_,H1,I2,q1⟩) hf
end
section
variable {X:Cx} {pos:Pos}
def Ps (c:TT) (tb:TS):TS:=fun D σ H=>∃ W:Nat -> St -> Hp -> Prop,(∃ m,W m σ H) /\ ∀ m σ H,W m σ H ->
 c σ H fun b H1=>if b = true then ∃ N:St -> Hp -> Prop,(∀ σ' H',N σ' H' -> ∃ m',m' < m /\ W m' σ' H') /\ tb { D with nx:=N,ct:=N,bk:=D.nx } σ H1 else D.nx σ H1
theorem Lg {c:Expr} {body:List Stmt} {tc:TT} {tb:TS} (hp:PassesOwn (model X.prog X.w) X.A X.env X.xe) (hc:PT X c tc) (hb:Mc X body tb):PS X (.While c body [] pos) (Ps tc tb):=by
 intro pins s σ H D I h
 obtain ⟨W,⟨m0,w0⟩,turn⟩ := h
 refine wpAny_While (codeAny_whileLoop (fun n s'=>∃ σ' H',Ag X pins σ' H' s' /\ W n σ' H') ?_ m0 ⟨σ,H,I,w0⟩)
 rintro n s1 ⟨σ1,H1,I1,w1⟩
 refine wpAny_passesOwn hp (Ci (hc pins s1 σ1 H1 _ I1 (turn n σ1 H1 w1)) fun b s2 bA=>?_)
 obtain ⟨H2,I2,q2⟩ := bA
 cases b with
 | true =>
  obtain ⟨N,hN,q2⟩ := q2
  rw [if_pos rfl]
  refine wpAny_passesOwn hp (Ci (hb pins s2 σ1 H2 _ I2 q2) fun f s3 q3=>?_)
  cases f with
  | next =>
   obtain ⟨σ3,H3,I3,n3⟩ := q3
   obtain ⟨m',hm,w3⟩ := hN σ3 H3 n3
   exact ⟨m',hm,σ3,H3,I3,w3⟩
  | cont =>
   obtain ⟨σ3,H3,I3,n3⟩ := q3
   obtain ⟨m',hm,w3⟩ := hN σ3 H3 n3
   exact ⟨m',hm,σ3,H3,I3,w3⟩
  | brk=>exact q3
  | ret v=>exact q3
 | false =>
  rw [if_neg Bool.false_ne_true]
  exact wpAny_execs_nil ⟨σ1,H2,I2,q2⟩
end
set_option genInjectivity false in
set_option genSizeOf false in
structure It where
 go:Nat -> Hp -> Prop
 vF:Nat -> Hp -> V -> Hp -> Prop
 stop:Nat -> Hp -> Prop
def Ka (X:Cx) (pins:List (Addr × Obj)) (H:Hp) (b:Addr):Prop :=
 H b = none /\ b ≠ X.env.locals /\ b ∉ X.fs /\ (b ∈ X.ex \/ X.s₀.heap.objs.size <= b) /\ (∀ x c,X.env.cells.lookup x = some c -> c ≠ b) /\ ∀ p ∈ X.pn ++ pins,p.1 ≠ b
theorem Ag.mG {X:Cx} {pins:List (Addr × Obj)} {σ:St} {H H':Hp} {s:Shared} {b:Addr} (I:Ag X pins σ H s) (hb:s.heap.objs.size <= b) (hn:H' b = none):Ka X pins H' b:=by
 refine ⟨hn,Nat.ne_of_gt (Nat.lt_of_lt_of_le I.lt hb),I.NM hb,.inr (Nat.le_trans I.sz hb),fun x c e z=>?_,fun p hp z=>?_⟩
 ·obtain ⟨v,q⟩ := I.cell x c e
  exact absurd (Nat.lt_of_lt_of_le q.lt (by rw [z]; exact hb)) (Nat.lt_irrefl _)
 ·exact absurd (Nat.lt_of_lt_of_le (Heap.lt_size (I.pin p hp).1) (by rw [z]; exact hb)) (Nat.lt_irrefl _)
structure V7 (P:Program) (w:World) (K:PySem.W.Frag) (tg:Expr) (J:It) (fp:List Addr) (it:Addr) (tn:Nat -> Heap -> Prop):Prop where
 mem:it ∈ fp
 obj:∀ i h,tn i h -> ∀ b ∈ fp,∃ o,h.get? b = some o /\ ∀ v,o.data ≠ .cell v
 keep:∀ i h h',tn i h -> (∀ b ∈ fp,∀ o,h.get? b = some o -> h'.get? b = some o) -> tn i h'
 item:∀ (X:Cx),X.prog = P -> X.w = w -> X.K = K -> X.calm = true -> ∀ (i:Nat) (pins:List (Addr × Obj)) (s:Shared) (σ:St) (H:Hp) (E:Value -> Shared -> Prop),Ag X pins σ H s -> (∀ b ∈ fp,Ka X pins H b) -> tn i s.heap -> J.go i H ->
  wpAny (model P w) X.A (pyNext (.ref it)) (fun r s1=>∃ u,r = some u /\
   wpAny (model P w) X.A (letOwnedTupleGo tg (.ref it) u) (fun _ s2=>∃ x H',Ag X pins σ H' s2 /\ Aw x u /\ J.vF i H x H' /\ tn (i + 1) s2.heap /\ ∀ b ∈ fp,H' b = none) E s1) E s
 done:∀ (X:Cx),X.prog = P -> X.w = w -> X.K = K -> X.calm = true -> ∀ (i:Nat) (pins:List (Addr × Obj)) (s:Shared) (σ:St) (H:Hp) (E:Value -> Shared -> Prop),Ag X pins σ H s -> (∀ b ∈ fp,Ka X pins H b) -> tn i s.heap -> J.stop i H ->
  wpAny (model P w) X.A (pyNext (.ref it)) (fun r s1=>r = none /\ Ag X pins σ H s1) E s
 self:∀ (A:Around) (i:Nat) (s:Shared) (Q:Value -> Shared -> Prop) (E:Value -> Shared -> Prop),tn i s.heap -> Q (.ref it) s -> wpAny (model P w) A (pyIter (.ref it)) Q E s
abbrev TI:=St -> Hp -> (It -> Hp -> Prop) -> Prop
def qz (X:Cx) (pins:List (Addr × Obj)) (σ:St) (tg:Expr) (R:It -> Hp -> Prop) (LQ:Value) (s2:Shared):Prop :=
 ∃ (it:Addr) (fp:List Addr) (tn:Nat -> Heap -> Prop) (J:It) (H':Hp),LQ = .ref it /\ Ag X pins σ H' s2 /\ V7 X.prog X.w X.K tg J fp it tn /\ tn 0 s2.heap /\ (∀ b ∈ fp,Ka X pins H' b) /\ R J H'
def PI (X:Cx) (tg iter:Expr) (wi:TI):Prop :=
 ∀ (pins:List (Addr × Obj)) (s:Shared) (σ:St) (H:Hp) (R:It -> Hp -> Prop),Ag X pins σ H s -> wi σ H R ->
  wpAny (model X.prog X.w) X.A (eval iter X.env) (fun v s1=>wpAny (model X.prog X.w) X.A (pyIter v) (qz X pins σ tg R) X.xe s1) X.xe s
theorem Xe {M : Model} {A : Around} {E : Value -> Shared -> Prop} {s : Shared} {tg : Expr} {it : Addr} {u : Value} {o : Obj} {n : String} {vs : Array Value} {Q : Unit -> Shared -> Prop} (ho : s.heap.get? it = some o) (hc : o.cls = .type n) (hd : o.data = .fields vs)
  (hn:["enumerate","zip","dict_itemiterator","dict_reverseitemiterator","odict_iterator","itertools.zip_longest","itertools.pairwise"].contains n = false) (hQ:Q () s):wpAny M A (letOwnedTupleGo tg (.ref it) u) Q E s:=by
 unfold letOwnedTupleGo
 cases tg <;> first
  | exact wpAny_pure hQ
  | (cases u <;> first
    | exact wpAny_pure hQ
    | (refine wpAny_bind (wpAny_load ho ?_)
       rw [hc,hd]
       show wpAny M A (if (["enumerate","zip","dict_itemiterator","dict_reverseitemiterator","odict_iterator","itertools.zip_longest","itertools.pairwise"].contains n && vs[0]? == some (rawInt _)) = true then _ else _) Q E s
       rw [if_neg (by intro h; rw [hn,Bool.false_and] at h; cases h)]
       exact wpAny_pure hQ))
def je (K:PySem.W.Frag) (a:Addr):It :=
 ⟨fun i H=>∃ xs x,B9 K H a xs /\ xs[i]? = some x,fun i H x H'=>H' = H /\ ∀ xs,B9 K H a xs -> xs[i]? = some x,fun i H=>∃ xs,B9 K H a xs /\ xs.length <= i⟩
def jf (K:PySem.W.Frag) (a:Addr):It :=
 ⟨fun i H=>∃ xs x,Cj K H a xs /\ xs[i]? = some x,fun i H x H'=>H' = H /\ ∀ xs,Cj K H a xs -> xs[i]? = some x,fun i H=>∃ xs,Cj K H a xs /\ xs.length <= i⟩
def c6 (lo:Int) (n:Nat):It:=⟨fun i _=>i < n,fun i H x H'=>H' = H /\ x = .int (lo + i),fun i _=>n <= i⟩
theorem Wm {P:Program} {w:World} {K:PySem.W.Frag} {tg:Expr} (a it:Addr):V7 P w K tg (je K a) [it] it (fun i h=>h.IsListIter it a i) where
 mem:=by simp
 obj:=fun i h st b hb=>by
  have e:b = it:=by simpa using hb
  subst e
  obtain ⟨o,e,c,d⟩ := st
  exact ⟨o,e,fun v z=>by rw [d] at z; cases z⟩
 keep:=fun i h h' st k=>st.at fun o e=>k it (by simp) o e
 item:=by
  intro X hP hw hK hc i pins s σ H E I hf st hg
  subst hP hw hK
  obtain ⟨xs,x,hq,hx⟩ := hg
  obtain ⟨aL,rv,p,hz⟩ := I.list hq
  obtain ⟨u,hu,ru⟩ := rv.get hx
  obtain ⟨f0,f1,f2,f3,f4,f5⟩ := hf it (by simp)
  refine wpAny_pyNext_list_item st p.isList (x:=u) (by simpa using hu) fun h' aO sb=>?_
  have I1:Ag X pins σ H { s with heap:=h' }:=I.turned (t':=s.toks) (fun b o hb e=>(sb.2 b hb).trans e) f0 f1 f3 f4 f5
  obtain ⟨o,e,c,d⟩ := id aO
  exact ⟨u,rfl,Xe (s:={ s with heap:=h' }) e c d (by decide) ⟨x,H,I1,ru,⟨rfl,fun ys hy=>by rw [I.mF hy hq]; exact hx⟩,aO,fun b hb=>(hf b hb).1⟩⟩
 done:=by
  intro X hP hw hK hc i pins s σ H E I hf st hg
  subst hP hw hK
  obtain ⟨xs,hq,hx⟩ := hg
  obtain ⟨aL,rv,p,hz⟩ := I.list hq
  obtain ⟨f0,f1,f2,f3,f4,f5⟩ := hf it (by simp)
  have hl:=rv.length
  exact wpAny_pyNext_list_end (I.ok.hd hc) st p.isList (by simp; omega) fun h' eb=>⟨rfl,I.turned (t':=s.toks) (fun b o hb e=>eb b o hb e) f0 f1 f3 f4 f5⟩
 self:=fun _ _ _ _ _ st h=>wpAny_pyIter_listiter st h
theorem Tw {P:Program} {w:World} {K:PySem.W.Frag} {tg:Expr} (a it:Addr):V7 P w K tg (jf K a) [it] it (fun i h=>h.IsTupleIter it a i) where
 mem:=by simp
 obj:=fun i h st b hb=>by
  have e:b = it:=by simpa using hb
  subst e
  obtain ⟨o,e,c,d⟩ := st
  exact ⟨o,e,fun v z=>by rw [d] at z; cases z⟩
 keep:=fun i h h' st k=>st.at fun o e=>k it (by simp) o e
 item:=by
  intro X hP hw hK hc i pins s σ H E I hf st hg
  subst hP hw hK
  obtain ⟨xs,x,hq,hx⟩ := hg
  obtain ⟨aL,rv,p,hz⟩ := I.tuple hq
  obtain ⟨u,hu,ru⟩ := rv.get hx
  obtain ⟨f0,f1,f2,f3,f4,f5⟩ := hf it (by simp)
  refine wpAny_pyNext_tuple_item st (show s.heap.IsTuple a aL.toArray from p) (x:=u) (by simpa using hu) fun h' aO sb=>?_
  have I1:Ag X pins σ H { s with heap:=h' }:=I.turned (t':=s.toks) (fun b o hb e=>(sb.2 b hb).trans e) f0 f1 f3 f4 f5
  obtain ⟨o,e,c,d⟩ := id aO
  exact ⟨u,rfl,Xe (s:={ s with heap:=h' }) e c d (by decide) ⟨x,H,I1,ru,⟨rfl,fun ys hy=>by rw [I.lF hy hq]; exact hx⟩,aO,fun b hb=>(hf b hb).1⟩⟩
 done:=by
  intro X hP hw hK hc i pins s σ H E I hf st hg
  subst hP hw hK
  obtain ⟨xs,hq,hx⟩ := hg
  obtain ⟨aL,rv,p,hz⟩ := I.tuple hq
  obtain ⟨f0,f1,f2,f3,f4,f5⟩ := hf it (by simp)
  have hl:=rv.length
  exact wpAny_pyNext_tuple_end (I.ok.hd hc) st (show s.heap.IsTuple a aL.toArray from p) (by simp; omega) fun h' eb=>⟨rfl,I.turned (t':=s.toks) (fun b o hb e=>eb b o hb e) f0 f1 f3 f4 f5⟩
 self:=fun _ _ _ _ _ st h=>wpAny_pyIter_tupleiter st h
theorem Tv {P:Program} {w:World} {K:PySem.W.Frag} {tg:Expr} (it:Addr) (lo:Int) (n:Nat):V7 P w K tg (c6 lo n) [it] it (fun i h=>IsRangeIter h it (lo + (i:Nat) * 1) ((n:Int) - (i:Nat)) 1) where
 mem:=by simp
 obj:=fun i h st b hb=>by
  have e:b = it:=by simpa using hb
  subst e
  exact ⟨_,st,fun v z=>by
   have z':Data.fields _ = Data.cell v:=z
   cases z'⟩
 keep:=fun i h h' st k=>k it (by simp) _ st
 item:=by
  intro X hP hw hK hc i pins s σ H E I hf st hg
  subst hP hw hK
  obtain ⟨f0,f1,f2,f3,f4,f5⟩ := hf it (by simp)
  have W:=Walks.range (prog:=X.prog) (w:=X.w) (I.ok.hd hc) it lo 1 n
  refine W.item i s _ _ hg st fun v h' tk hv aO kk=>?_
  obtain ⟨t,rfl⟩ := hv
  have I1:Ag X pins σ H { s with heap:=h',toks:=tk }:=I.turned (fun b o hb e=>kk b o (by simpa using hb) e) f0 f1 f3 f4 f5
  refine ⟨_,rfl,Xe (s:={ s with heap:=h',toks:=tk }) (n := "range_iterator") aO rfl rfl (by decide) ⟨.int (lo + i),H,I1,⟨t,?_⟩,⟨rfl,rfl⟩,aO,fun b hb=>(hf b hb).1⟩⟩
  rw [Int.mul_one]
 done:=by
  intro X hP hw hK hc i pins s σ H E I hf st hg
  subst hP hw hK
  obtain ⟨f0,f1,f2,f3,f4,f5⟩ := hf it (by simp)
  exact wpAny_pyNext_range_end (I.ok.hd hc) st (by have:n <= i:=hg; omega) fun h' eb=>⟨rfl,I.turned (t':=s.toks) (fun b o hb e=>eb b o hb e) f0 f1 f3 f4 f5⟩
 self:=fun _ _ _ _ _ st h=>wpAny_pyIter_rangeiter st h
section
variable {X:Cx} {tg:Expr}
theorem Re {pins : List (Addr × Obj)} {σ : St} {H : Hp} {s : Shared} {R : It -> Hp -> Prop} {E : Value -> Shared -> Prop} {lo hi : Int} {t u v : Tok} {tk : Nat} (I : Ag X pins σ H s) (h1 : -(2 ^ 62) <= lo) (h2 : lo < 2 ^ 62) (h3 : -(2 ^ 62) <= hi) (h4 : hi < 2 ^ 62)
  (q:R (c6 lo (hi - lo).toNat) H):wpAny (model X.prog X.w) X.A (pyIter (.ref s.heap.objs.size)) (qz X pins σ tg R) E { s with heap:=s.heap.push { cls := .type "range",data := .fields #[.int lo t,.int hi u,.int 1 v] },toks:=tk }:=by
 refine wpAny_pyIter_range (IsRange.new ..) (small_one h1 h2 h3 h4) ?_
 have I1:Ag X pins σ H { s with heap:=s.heap.push { cls := .type "range",data := .fields #[.int lo t,.int hi u,.int 1 v] },toks:=tk }:=I.kept fun b o e=>Heap.get?_push_of_some _ e
 refine ⟨(s.heap.push { cls := .type "range",data := .fields #[.int lo t,.int hi u,.int 1 v] }).objs.size,[(s.heap.push { cls := .type "range",data := .fields #[.int lo t,.int hi u,.int 1 v] }).objs.size],_,_,H,rfl,
  I1.kept (t':=tk) fun b o e=>Heap.get?_push_of_some _ e,Tv _ lo (hi - lo).toNat,?_,fun b hb=>?_,q⟩
 ·have e1:lo + ((0:Nat):Int) * 1 = lo:=by simp
  have e2:(((hi - lo).toNat:Nat):Int) - ((0:Nat):Int) = Builtin.Range.rangeSize lo hi 1:=by rw [rangeSize_one]; split <;> omega
  show IsRangeIter _ _ (lo + ((0:Nat):Int) * 1) ((((hi - lo).toNat:Nat):Int) - ((0:Nat):Int)) 1
  rw [e1,e2]
  exact Heap.get?_push_size _ rfl
 ·have e:b = (s.heap.push { cls := .type "range",data := .fields #[.int lo t,.int hi u,.int 1 v] }).objs.size:=by simpa using hb
  subst e
  exact I1.mG (Nat.le_refl _) (I1.aP.fresh (Nat.le_refl _))
def kd (ta:TA):TI:=fun σ H R=>ta σ H fun vs H1=>∃ j:Int,vs = [.int j] /\ -(2 ^ 62) <= j /\ j < 2 ^ 62 /\ R (c6 0 j.toNat) H1
def kf (ta:TA):TI:=fun σ H R=>ta σ H fun vs H1=>∃ i j:Int,vs = [.int i,.int j] /\ (-(2 ^ 62) <= i /\ i < 2 ^ 62 /\ -(2 ^ 62) <= j /\ j < 2 ^ 62) /\ R (c6 i (j - i).toNat) H1
theorem D7 {a:Expr} {ta:TA} {p pos:Pos} (hg:Gl X "range") (hm:X.mg "range" = none) (ha:PA X [a] ta) (hs:starEach [a] X.env = [(false,eval a X.env)]:=by rfl):PI X tg (.Call (.Name "range" p) [a] [] pos) (kd ta):=by
 intro pins s σ H R I h
 refine Call_ (Ku I hg hm boot_range (PyProof.Rows.callWith_type1 (Ci (ha pos pins s σ H _ I h) fun us s1 ⟨vs,H1,I1,r1,q1⟩=>?_) hs rfl))
 obtain ⟨j,e,q1,q2,q⟩ := q1
 subst e
 cases r1 with
 | cons r rr =>
  cases rr
  obtain ⟨t,rfl⟩ := r
  exact call_range_1 (Re I1 (by omega) (by omega) q1 q2 (by simpa using q))
theorem Wb {a b : Expr} {ta : TA} {p pos : Pos} (hg : Gl X "range") (hm : X.mg "range" = none) (ha : PA X [a, b] ta) (hs : starEach [a, b] X.env = [(false, eval a X.env), (false, eval b X.env)] := by rfl) (rG : starEach [b] X.env = [(false, eval b X.env)] := by rfl) :
  PI X tg (.Call (.Name "range" p) [a,b] [] pos) (kf ta):=by
 intro pins s σ H R I h
 refine Call_ (Ku I hg hm boot_range (PyProof.Rows.callWith_type1 (Ci (ha pos pins s σ H _ I h) fun us s1 ⟨vs,H1,I1,r1,q1⟩=>?_) (by rw [hs,rG]) (by rw [rG]; rfl)))
 obtain ⟨i,j,e,⟨q1,q2,q3,q4⟩,q⟩ := q1
 subst e
 cases r1 with
 | cons r rr =>
  cases rr with
  | cons r' rr =>
   cases rr
   obtain ⟨t,rfl⟩ := r
   obtain ⟨t',rfl⟩ := r'
   exact call_range_2 (Re I1 q1 q2 q3 q4 q)
def qe (wi:TI) (g:TG) (tb:TS):TS:=fun D σ H=>wi σ H fun J H1=>∃ W:Nat -> Nat -> St -> Hp -> Prop,(∃ m,W 0 m σ H1) /\ ∀ i m σ H,W i m σ H ->
 (J.stop i H /\ D.nx σ H) \/ (J.go i H /\ ∃ N:St -> Hp -> Prop,(∀ σ' H',N σ' H' -> ∃ m',m' < m /\ W (i + 1) m' σ' H') /\ ∀ x H',J.vF i H x H' -> g x σ H' fun σ2 H2=>tb { D with nx:=N,ct:=N,bk:=D.nx } σ2 H2)
def Ld (fp:List Addr) (h:Heap):List (Addr × Obj):=fp.filterMap fun b=>(h.get? b).map fun o=>(b,o)
theorem Fg {fp:List Addr} {h:Heap} {b:Addr} {o:Obj} (hb:b ∈ fp) (e:h.get? b = some o):(b,o) ∈ Ld fp h:=List.mem_filterMap.mpr ⟨b,hb,by rw [e]; rfl⟩
theorem W6 {fp:List Addr} {h:Heap} {p:Addr × Obj} (hp:p ∈ Ld fp h):p.1 ∈ fp /\ h.get? p.1 = some p.2:=by
 obtain ⟨b,hb,e⟩ := List.mem_filterMap.mp hp
 cases q:h.get? b with
 | none=>rw [q] at e; cases e
 | some o =>
  rw [q] at e
  have e':(b,o) = p:=Option.some.inj e
  subst e'
  exact ⟨hb,q⟩
theorem Ag.pinned {pins:List (Addr × Obj)} {σ:St} {H:Hp} {s:Shared} {fp:List Addr} (I:Ag X pins σ H s) (hf:∀ b ∈ fp,Ka X pins H b) (ho:∀ b ∈ fp,∃ o,s.heap.get? b = some o /\ ∀ v,o.data ≠ .cell v):Ag X (pins ++ Ld fp s.heap) σ H s :=
 I.kO fun p hp=>(List.mem_append.mp hp).elim (fun z=>I.pin p (List.mem_append_right _ z)) fun z=>by
  obtain ⟨hb,e⟩ := W6 z
  obtain ⟨f0,f1,f2,_⟩ := hf p.1 hb
  obtain ⟨o,e',d⟩ := ho p.1 hb
  rw [e] at e'; cases e'
  exact ⟨e,f0,f1,f2,d⟩
theorem Ag.dX {pins pl:List (Addr × Obj)} {σ:St} {H:Hp} {s:Shared} (I:Ag X (pins ++ pl) σ H s):Ag X pins σ H s:=I.kO fun p hp=>I.pin p (List.mem_append_right _ (List.mem_append_left _ hp))
theorem Co {iter : Expr} {body : List Stmt} {wi : TI} {g : TG} {tb : TS} {pos : Pos} (hp : PassesOwn (model X.prog X.w) X.A X.env X.xe) (hc : X.calm = true) (hi : PI X tg iter wi) (hg : PG X tg g) (hb : Mc X body tb)
  (hs:∀ x,foldedSetIterable iter X.env x = pure x:=by intro _; rfl):PS X (.For tg iter body [] pos) (qe wi g tb):=by
 intro pins s σ H D I h
 refine wpAny_For (Ci (hi pins s σ H _ I h) fun v s1 h1=>Ci h1 fun LQ s2 h2=>?_) hs
 obtain ⟨it,fp,tn,J,H2,e,I2,T,aU,f2,W,⟨m0,w0⟩,turn⟩ := h2
 subst e
 have stat:∀ {H':Hp},(∀ b ∈ fp,H' b = none) -> ∀ b ∈ fp,Ka X pins H' b:=fun hn b hb=>⟨hn b hb,(f2 b hb).2⟩
 refine codeAny_forLoop_any (fun n s'=>∃ i σ' H',Ag X pins σ' H' s' /\ tn i s'.heap /\ (∀ b ∈ fp,H' b = none) /\ W i n σ' H') ?_ m0 ⟨0,σ,H2,I2,aU,fun b hb=>(f2 b hb).1,w0⟩
 rintro n s3 ⟨i,σ3,H3,I3,fB,LR,w3⟩
 rcases turn i n σ3 H3 w3 with ⟨stop,qn⟩ | ⟨go,N,hN,step⟩
 ·refine wpAny_passesOwn hp (Ci (T.done X rfl rfl rfl hc i pins s3 σ3 H3 X.xe I3 (stat LR) fB stop) fun r s4 bA=>?_)
  obtain ⟨hr,I4⟩ := bA
  subst hr
  exact wpAny_execs_nil ⟨σ3,H3,I4,qn⟩
 ·refine wpAny_passesOwn hp (Ci (T.item X rfl rfl rfl hc i pins s3 σ3 H3 X.xe I3 (stat LR) fB go) fun r s4 bA=>?_)
  obtain ⟨u,hr,h4⟩ := bA
  subst hr
  refine wpAny_passesOwn hp (Ci h4 fun _ s5 bA=>?_)
  obtain ⟨x,H5,I5,r5,y5,DG,fr5⟩ := bA
  have I5':=I5.pinned (stat fr5) (T.obj _ _ DG)
  refine wpAny_passesOwn hp (Ci (hg _ s5 σ3 H5 x u _ I5' r5 (step x H5 y5)) fun _ s6 bA=>?_)
  obtain ⟨σ6,H6,I6,q6⟩ := bA
  refine wpAny_passesOwn hp (Ci (hb _ s6 σ6 H6 _ I6 q6) fun f s7 q7=>?_)
  have again:∀ {σ7:St} {H7:Hp},Ag X (pins ++ Ld fp s5.heap) σ7 H7 s7 -> N σ7 H7 -> ∃ m,m < n /\ ∃ i σ' H',Ag X pins σ' H' s7 /\ tn i s7.heap /\ (∀ b ∈ fp,H' b = none) /\ W i m σ' H':=fun {σ7 H7} I7 n7=>by
   obtain ⟨m',hm,w7⟩ := hN σ7 H7 n7
   refine ⟨m',hm,i + 1,σ7,H7,I7.dX,T.keep _ _ _ DG fun b hb o e=>(I7.pin (b,o) (List.mem_append_right _ (List.mem_append_right _ (Fg hb e)))).1,fun b hb=>?_,w7⟩
   obtain ⟨o,e,d⟩ := T.obj _ _ DG b hb
   exact (I7.pin (b,o) (List.mem_append_right _ (List.mem_append_right _ (Fg hb e)))).2.1
  cases f with
  | next=>obtain ⟨σ7,H7,I7,n7⟩ := q7; exact again I7 n7
  | cont=>obtain ⟨σ7,H7,I7,n7⟩ := q7; exact again I7 n7
  | brk=>obtain ⟨σ7,H7,I7,q7⟩ := q7; exact ⟨σ7,H7,I7.dX,q7⟩
  | ret v=>obtain ⟨x7,σ7,H7,I7,r7,q7⟩ := q7; exact ⟨x7,σ7,H7,I7.dX,r7,q7⟩
end
theorem D3 {K : PySem.W.Frag} {a : Addr} {xs : List V} {g : TG} {tb : TS} {D : Ha} {σ : St} {H : Hp} (Pv : Nat -> St -> Hp -> Prop) (h0 : Pv 0 σ H) (hl : ∀ i σ H, i <= xs.length -> Pv i σ H -> B9 K H a xs)
  (hs:∀ i x σ H,xs[i]? = some x -> Pv i σ H -> g x σ H fun σ2 H2=>tb { D with nx:=Pv (i + 1),ct:=Pv (i + 1),bk:=D.nx } σ2 H2) (hd:∀ σ H,Pv xs.length σ H -> D.nx σ H) :
  ∃ W:Nat -> Nat -> St -> Hp -> Prop,(∃ m,W 0 m σ H) /\ ∀ i m σ H,W i m σ H ->
   ((je K a).stop i H /\ D.nx σ H) \/ ((je K a).go i H /\ ∃ N:St -> Hp -> Prop,(∀ σ' H',N σ' H' -> ∃ m',m' < m /\ W (i + 1) m' σ' H') /\ ∀ x H',(je K a).vF i H x H' -> g x σ H' fun σ2 H2=>tb { D with nx:=N,ct:=N,bk:=D.nx } σ2 H2):=by
 refine ⟨fun i m σ H=>m = xs.length - i /\ i <= xs.length /\ Pv i σ H,⟨xs.length,by simp,Nat.zero_le _,h0⟩,?_⟩
 rintro i m σ H ⟨rfl,hi,p⟩
 have q:=hl i σ H hi p
 by_cases aZ:i < xs.length
 ·refine .inr ⟨⟨xs,xs[i],q,by simp [aZ]⟩,Pv (i + 1),fun σ' H' p'=>⟨xs.length - (i + 1),by omega,rfl,aZ,p'⟩,fun x H' y=>?_⟩
  obtain ⟨e,y⟩ := y
  subst e
  exact hs i x σ _ (y xs q) p
 ·have e:i = xs.length:=by omega
  subst e
  exact .inl ⟨⟨xs,q,Nat.le_refl _⟩,hd σ H p⟩
theorem Um {K : PySem.W.Frag} {a : Addr} {xs : List V} {g : TG} {tb : TS} {D : Ha} {σ : St} {H : Hp} (Pv : Nat -> St -> Hp -> Prop) (h0 : Pv 0 σ H) (hl : ∀ i σ H, i <= xs.length -> Pv i σ H -> Cj K H a xs)
  (hs:∀ i x σ H,xs[i]? = some x -> Pv i σ H -> g x σ H fun σ2 H2=>tb { D with nx:=Pv (i + 1),ct:=Pv (i + 1),bk:=D.nx } σ2 H2) (hd:∀ σ H,Pv xs.length σ H -> D.nx σ H) :
  ∃ W:Nat -> Nat -> St -> Hp -> Prop,(∃ m,W 0 m σ H) /\ ∀ i m σ H,W i m σ H ->
   ((jf K a).stop i H /\ D.nx σ H) \/ ((jf K a).go i H /\ ∃ N:St -> Hp -> Prop,(∀ σ' H',N σ' H' -> ∃ m',m' < m /\ W (i + 1) m' σ' H') /\ ∀ x H',(jf K a).vF i H x H' -> g x σ H' fun σ2 H2=>tb { D with nx:=N,ct:=N,bk:=D.nx } σ2 H2):=by
 refine ⟨fun i m σ H=>m = xs.length - i /\ i <= xs.length /\ Pv i σ H,⟨xs.length,by simp,Nat.zero_le _,h0⟩,?_⟩
 rintro i m σ H ⟨rfl,hi,p⟩
 have q:=hl i σ H hi p
 by_cases aZ:i < xs.length
 ·refine .inr ⟨⟨xs,xs[i],q,by simp [aZ]⟩,Pv (i + 1),fun σ' H' p'=>⟨xs.length - (i + 1),by omega,rfl,aZ,p'⟩,fun x H' y=>?_⟩
  obtain ⟨e,y⟩ := y
  subst e
  exact hs i x σ _ (y xs q) p
 ·have e:i = xs.length:=by omega
  subst e
  exact .inl ⟨⟨xs,q,Nat.le_refl _⟩,hd σ H p⟩
theorem Ey {lo : Int} {n : Nat} {g : TG} {tb : TS} {D : Ha} {σ : St} {H : Hp} (Pv : Nat -> St -> Hp -> Prop) (h0 : Pv 0 σ H)
  (hs:∀ i σ H,i < n -> Pv i σ H -> g (.int (lo + i)) σ H fun σ2 H2=>tb { D with nx:=Pv (i + 1),ct:=Pv (i + 1),bk:=D.nx } σ2 H2) (hd:∀ σ H,Pv n σ H -> D.nx σ H) :
  ∃ W:Nat -> Nat -> St -> Hp -> Prop,(∃ m,W 0 m σ H) /\ ∀ i m σ H,W i m σ H ->
   ((c6 lo n).stop i H /\ D.nx σ H) \/ ((c6 lo n).go i H /\ ∃ N:St -> Hp -> Prop,(∀ σ' H',N σ' H' -> ∃ m',m' < m /\ W (i + 1) m' σ' H') /\ ∀ x H',(c6 lo n).vF i H x H' -> g x σ H' fun σ2 H2=>tb { D with nx:=N,ct:=N,bk:=D.nx } σ2 H2):=by
 refine ⟨fun i m σ H=>m = n - i /\ i <= n /\ Pv i σ H,⟨n,by simp,Nat.zero_le _,h0⟩,?_⟩
 rintro i m σ H ⟨rfl,hi,p⟩
 by_cases aZ:i < n
 ·refine .inr ⟨aZ,Pv (i + 1),fun σ' H' p'=>⟨n - (i + 1),by omega,rfl,aZ,p'⟩,fun x H' y=>?_⟩
  obtain ⟨e,y⟩ := y
  subst e y
  exact hs i σ _ aZ p
 ·have e:i = n:=by omega
  subst e
  exact .inl ⟨Nat.le_refl _,hd σ H p⟩
theorem M7 {c : TT} {tb : TS} {D : Ha} {σ : St} {H : Hp} (Pv : St -> Hp -> Prop) (μ : St -> Hp -> Nat) (h0 : Pv σ H)
  (hs:∀ σ H,Pv σ H -> c σ H fun b H1=>if b = true then tb { D with nx:=fun σ' H'=>Pv σ' H' /\ μ σ' H' < μ σ H,ct:=fun σ' H'=>Pv σ' H' /\ μ σ' H' < μ σ H,bk:=D.nx } σ H1 else D.nx σ H1)
  (mono:∀ σ H Q Q',(∀ b H1,Q b H1 -> Q' b H1) -> c σ H Q -> c σ H Q'):Ps c tb D σ H:=by
 refine ⟨fun m σ H=>m = μ σ H /\ Pv σ H,⟨_,rfl,h0⟩,?_⟩
 rintro m σ H ⟨rfl,p⟩
 refine mono σ H _ _ (fun b H1 q=>?_) (hs σ H p)
 cases b with
 | true=>exact ⟨_,fun σ' H' ⟨p',l⟩=>⟨_,l,rfl,p'⟩,q⟩
 | false=>exact q
abbrev R2:=V -> V -> Hp -> VK -> Prop
def Hk (X:Cx) (f:Value -> Value -> Sem Value) (r:R2):Prop :=
 ∀ (pins:List (Addr × Obj)) (s:Shared) (σ:St) (H:Hp) (x y:V) (v u:Value) (Q:VK),Ag X pins σ H s -> Aw x v -> Aw y u -> r x y H Q ->
  wpAny (model X.prog X.w) X.A (f v u) (EP X pins σ Q) X.xe s
def Dt (X:Cx) (f:Value) (r:List V -> Hp -> VK -> Prop):Prop :=
 ∀ (pins:List (Addr × Obj)) (s:Shared) (σ:St) (H:Hp) (xs:List V) (us:List Value) (Q:VK),Ag X pins σ H s -> Az xs us -> r xs H Q ->
  wpAny (model X.prog X.w) X.A (call f us) (EP X pins σ Q) X.xe s
def ol (X:Cx) (r:V -> Hp -> (Bool -> Hp -> Prop) -> Prop):Prop :=
 ∀ (pins:List (Addr × Obj)) (s:Shared) (σ:St) (H:Hp) (x:V) (v:Value) (Q:Bool -> Hp -> Prop),Ag X pins σ H s -> Aw x v -> r x H Q ->
  wpAny (model X.prog X.w) X.A (truthy v) (TP X pins σ Q) X.xe s
def nv (r:R2) (ta tb:TE):TE:=fun σ H Q=>ta σ H fun x H1=>tb σ H1 fun y H2=>r x y H2 Q
def rI (C:Int -> Int -> Prop) (g:Int -> Int -> V):R2:=fun x y H Q=>∃ i j,x = .int i /\ y = .int j /\ C i j /\ Q (g i j) H
def i9 (g:Int -> Int -> V):R2:=fun x y H Q=>∃ i j,x = .int i /\ y = .int j /\ Q (g i j) H
section
variable {X:Cx} {a b c:Expr} {ta tb tc:TE} {pos:Pos}
theorem dl (ha : PE X a ta) (hb : PE X b tb) {pins : List (Addr × Obj)} {s : Shared} {σ : St} {H : Hp} {R : V -> V -> Hp -> Prop} (I : Ag X pins σ H s)
  (h:ta σ H fun x H1=>tb σ H1 fun y H2=>R x y H2) {Q:Value -> Shared -> Prop} {f:Value -> Value -> Sem Value}
  (hf:∀ v u s2 x y H2,Ag X pins σ H2 s2 -> Aw x v -> Aw y u -> R x y H2 -> wpAny (model X.prog X.w) X.A (f v u) Q X.xe s2) :
  wpAny (model X.prog X.w) X.A (eval a X.env) (fun v s₁=>wpAny (model X.prog X.w) X.A (eval b X.env) (fun u s₂=>wpAny (model X.prog X.w) X.A (f v u) Q X.xe s₂) X.xe s₁) X.xe s:=by
 refine Ci (ha pins s σ H _ I h) fun v s1 bA=>?_
 obtain ⟨x,H1,I1,r1,q1⟩ := bA
 refine Ci (hb pins s1 σ H1 _ I1 q1) fun u s2 bA=>?_
 obtain ⟨y,H2,I2,r2,q2⟩ := bA
 exact hf v u s2 x y H2 I2 r1 r2 q2
theorem Al {op:Operator} {r:R2} (ho:Hk X (binaryOp op) r) (ha:PE X a ta) (hb:PE X b tb):PE X (.BinOp a op b pos) (nv r ta tb):=by
 intro pins s σ H Q I h
 exact wpAny_BinOp (dl ha hb I h fun v u s2 x y H2 I2 rx ry q=>ho pins s2 σ H2 x y v u Q I2 rx ry q)
theorem nq {f : Value -> Value -> Sem Value} {C : Int -> Int -> Prop} {g : Int -> Int -> Int}
  (rule:∀ (i j:Int) (t u:Tok) (s:Shared) (Q:Value -> Shared -> Prop) (E:Value -> Shared -> Prop),C i j -> Q (.int (g i j) s.toks) { s with toks:=s.toks + 1 } -> wpAny (model X.prog X.w) X.A (f (.int i t) (.int j u)) Q E s) :
  Hk X f (rI C fun i j=>.int (g i j)):=by
 intro pins s σ H x y v u Q I rx ry h
 obtain ⟨i,j,rfl,rfl,hc,q⟩ := h
 obtain ⟨t,rfl⟩ := rx
 obtain ⟨t',rfl⟩ := ry
 exact rule i j t t' s _ _ hc ⟨.int (g i j),H,I.tok _,⟨_,rfl⟩,q⟩
theorem l6 {f : Value -> Value -> Sem Value} {g : Int -> Int -> Int}
  (rule:∀ (i j:Int) (t u:Tok) (s:Shared) (Q:Value -> Shared -> Prop) (E:Value -> Shared -> Prop),Q (.int (g i j) s.toks) { s with toks:=s.toks + 1 } -> wpAny (model X.prog X.w) X.A (f (.int i t) (.int j u)) Q E s) :
  Hk X f (i9 fun i j=>.int (g i j)):=by
 intro pins s σ H x y v u Q I rx ry h
 obtain ⟨i,j,rfl,rfl,q⟩ := h
 obtain ⟨t,rfl⟩ := rx
 obtain ⟨t',rfl⟩ := ry
 exact rule i j t t' s _ _ ⟨.int (g i j),H,I.tok _,⟨_,rfl⟩,q⟩
theorem gr {f : Value -> Value -> Sem Value} {g : Int -> Int -> Bool}
  (rule:∀ (i j:Int) (t u:Tok) (s:Shared) (Q:Value -> Shared -> Prop) (E:Value -> Shared -> Prop),Q (.bool (g i j)) s -> wpAny (model X.prog X.w) X.A (f (.int i t) (.int j u)) Q E s) :
  Hk X f (i9 fun i j=>.bl (g i j)):=by
 intro pins s σ H x y v u Q I rx ry h
 obtain ⟨i,j,rfl,rfl,q⟩ := h
 obtain ⟨t,rfl⟩ := rx
 obtain ⟨t',rfl⟩ := ry
 exact rule i j t t' s _ _ ⟨.bl (g i j),H,I,rfl,q⟩
def nz (i j:Int):Prop:=0 < j /\ j < 1073741824
def o0 (i j:Int):Prop:=0 <= j /\ j <= 1000000 /\ i.natAbs < 2 ^ 64
theorem C7:Hk X (binaryOp .Add) (i9 fun i j=>.int (i + j)):=l6 fun _ _ _ _ _ _ _ q=>add_int q
theorem P5:Hk X (binaryOp .Sub) (i9 fun i j=>.int (i - j)):=l6 fun _ _ _ _ _ _ _ q=>sub_int q
theorem Cr:Hk X (binaryOp .FloorDiv) (rI nz fun i j=>.int (i / j)):=nq fun i j _ _ _ _ _ hc q=>by
 have h1:(0:Int) < j:=hc.1
 have h2:j < 1073741824:=hc.2
 exact floordiv_int (by omega) (by rw [Int.fdiv_eq_ediv_of_nonneg i (by omega)]; exact q) (.inl (PyProof.noPylong_small (by omega)))
theorem Br:Hk X (binaryOp .Mod) (rI (fun _ j=>0 < j) fun i j=>.int (i % j)):=nq fun i j _ _ _ _ _ hc q=>by
 have h1:(0:Int) < j:=hc
 exact mod_int' (by omega) (by rw [Int.fmod_eq_emod_of_nonneg i (by omega)]; exact q)
theorem gw:Hk X (binaryOp .Pow) (rI o0 fun i j=>.int (i ^ j.toNat)):=nq fun _ _ _ _ _ _ _ hc q=>pow_int_small hc.1 hc.2.1 hc.2.2 q
end
def md:V -> V -> Bool
 | .aW,.aW=>true | .aW,.int _=>true | .int _,.aW=>true | .aW,.bl _=>true | .bl _,.aW=>true | .aW,.str _=>true | .str _,.aW=>true
 | .int _,.int _=>true | .bl _,.bl _=>true | .str _,.str _=>true | .lB _,.lB _=>true
 | .int _,.str _=>true | .str _,.int _=>true | .bl _,.str _=>true | .str _,.bl _=>true
 | _,_=>false
def u6:R2:=fun x y H Q=>md x y = true /\ Q (.bl (decide (x = y))) H
def u9:R2:=fun x y H Q=>md x y = true /\ Q (.bl (!decide (x = y))) H
theorem Uc {i j:Int}:decide (V.int i = V.int j) = (i == j):=by
 rw [Bool.eq_iff_iff]
 simp
theorem Wy {i j:Bool}:decide (V.bl i = V.bl j) = (i == j):=by
 rw [Bool.eq_iff_iff]
 simp
theorem Ud {i j:Str}:decide (V.str i = V.str j) = (i == j):=by
 rw [Bool.eq_iff_iff]
 simp
theorem Ub {i j:Array UInt8}:decide (V.lB i = V.lB j) = (i.toList == j.toList):=by
 rw [Bool.eq_iff_iff]
 cases i
 cases j
 simp
section
variable {X:Cx} {a b c:Expr} {ta tb tc:TE} {pos:Pos}
theorem Bm {pins:List (Addr × Obj)} {σ:St} {H:Hp} {s:Shared} {Q:VK} {k k':Bool} (I:Ag X pins σ H s) (q:Q (.bl k) H) (e:k = k'):EP X pins σ Q (.bool k') s:=by
 subst e
 exact ⟨.bl k,H,I,rfl,q⟩
theorem Gz:Hk X (compareOp .Eq) u6:=by
 intro pins s σ H x y v u Q I rx ry h
 obtain ⟨hs,q⟩ := h
 cases x with
 | aW =>
  cases rx
  cases y with
  | aW=>cases ry; exact PySem.EqNone.eq_none_none (Bm I q (by simp))
  | bl j=>cases ry; exact PySem.EqNone.eq_none_bool (Bm I q (by simp))
  | int j=>obtain ⟨t',rfl⟩ := ry; exact PySem.EqNone.eq_none_int (Bm I q (by simp))
  | str j=>obtain ⟨t',rfl⟩ := ry; exact PySem.EqNone.eq_none_str (Bm I q (by simp))
  | _=>exact absurd (show false = true from hs) Bool.false_ne_true
 | bl i =>
  cases rx
  cases y with
  | aW=>cases ry; exact PySem.EqNone.eq_bool_none (Bm I q (by simp))
  | bl j=>cases ry; exact eq_bool (Bm I q Wy)
  | str j=>obtain ⟨t',rfl⟩ := ry; exact PySem.EqMixed.eq_bool_str (Bm I q (by simp))
  | _=>exact absurd (show false = true from hs) Bool.false_ne_true
 | int i =>
  obtain ⟨t,rfl⟩ := rx
  cases y with
  | aW=>cases ry; exact PySem.EqNone.eq_int_none (Bm I q (by simp))
  | int j=>obtain ⟨t',rfl⟩ := ry; exact eq_int (Bm I q Uc)
  | str j=>obtain ⟨t',rfl⟩ := ry; exact PySem.EqMixed.eq_int_str (Bm I q (by simp))
  | _=>exact absurd (show false = true from hs) Bool.false_ne_true
 | str i =>
  obtain ⟨t,rfl⟩ := rx
  cases y with
  | aW=>cases ry; exact PySem.EqNone.eq_str_none (Bm I q (by simp))
  | bl j=>cases ry; exact PySem.EqMixed.eq_str_bool (Bm I q (by simp))
  | int j=>obtain ⟨t',rfl⟩ := ry; exact PySem.EqMixed.eq_str_int (Bm I q (by simp))
  | str j=>obtain ⟨t',rfl⟩ := ry; exact eq_str (Bm I q Ud)
  | _=>exact absurd (show false = true from hs) Bool.false_ne_true
 | lB i =>
  obtain ⟨t,rfl⟩ := rx
  cases y with
  | lB j=>obtain ⟨t',rfl⟩ := ry; exact PySem.W.eq_bytes (Bm I q Ub)
  | _=>exact absurd (show false = true from hs) Bool.false_ne_true
 | _=>cases y <;> exact absurd (show false = true from hs) Bool.false_ne_true
theorem Xw:Hk X (compareOp .NotEq) u9:=by
 intro pins s σ H x y v u Q I rx ry h
 obtain ⟨hs,q⟩ := h
 cases x with
 | aW =>
  cases rx
  cases y with
  | aW=>cases ry; exact PySem.EqNone.ne_none_none (Bm I q (by simp))
  | bl j=>cases ry; exact PySem.EqNone.ne_none_bool (Bm I q (by simp))
  | int j=>obtain ⟨t',rfl⟩ := ry; exact PySem.EqNone.ne_none_int (Bm I q (by simp))
  | str j=>obtain ⟨t',rfl⟩ := ry; exact PySem.EqNone.ne_none_str (Bm I q (by simp))
  | _=>exact absurd (show false = true from hs) Bool.false_ne_true
 | bl i =>
  cases rx
  cases y with
  | aW=>cases ry; exact PySem.EqNone.ne_bool_none (Bm I q (by simp))
  | bl j=>cases ry; exact ne_bool (Bm I q (congrArg not Wy))
  | str j=>obtain ⟨t',rfl⟩ := ry; exact PySem.EqMixed.ne_bool_str (Bm I q (by simp))
  | _=>exact absurd (show false = true from hs) Bool.false_ne_true
 | int i =>
  obtain ⟨t,rfl⟩ := rx
  cases y with
  | aW=>cases ry; exact PySem.EqNone.ne_int_none (Bm I q (by simp))
  | int j=>obtain ⟨t',rfl⟩ := ry; exact ne_int (Bm I q (congrArg not Uc))
  | str j=>obtain ⟨t',rfl⟩ := ry; exact PySem.EqMixed.ne_int_str (Bm I q (by simp))
  | _=>exact absurd (show false = true from hs) Bool.false_ne_true
 | str i =>
  obtain ⟨t,rfl⟩ := rx
  cases y with
  | aW=>cases ry; exact PySem.EqNone.ne_str_none (Bm I q (by simp))
  | bl j=>cases ry; exact PySem.EqMixed.ne_str_bool (Bm I q (by simp))
  | int j=>obtain ⟨t',rfl⟩ := ry; exact PySem.EqMixed.ne_str_int (Bm I q (by simp))
  | str j=>obtain ⟨t',rfl⟩ := ry; exact ne_str (Bm I q (congrArg not Ud))
  | _=>exact absurd (show false = true from hs) Bool.false_ne_true
 | lB i =>
  obtain ⟨t,rfl⟩ := rx
  cases y with
  | lB j=>obtain ⟨t',rfl⟩ := ry; exact PySem.W.ne_bytes (Bm I q (congrArg not Ub))
  | _=>exact absurd (show false = true from hs) Bool.false_ne_true
 | _=>cases y <;> exact absurd (show false = true from hs) Bool.false_ne_true
theorem L9:Hk X (compareOp .Lt) (i9 fun i j=>.bl (decide (i < j))):=gr fun _ _ _ _ _ _ _ q=>lt_int q
theorem cg:Hk X (compareOp .Gt) (i9 fun i j=>.bl (decide (j < i))):=gr fun _ _ _ _ _ _ _ q=>gt_int q
theorem cf:Hk X (compareOp .GtE) (i9 fun i j=>.bl (decide (j <= i))):=gr fun _ _ _ _ _ _ _ q=>ge_int q
theorem L8:Hk X (compareOp .Is) (fun x y H Q=>y = .aW /\ Q (.bl (decide (x = .aW))) H):=by
 intro pins s σ H x y v u Q I rx ry h
 obtain ⟨rfl,q⟩ := h
 cases ry
 refine is_none_gen (Bm I q ?_)
 cases x <;> first
  | (cases rx; rfl)
  | (obtain ⟨t,rfl⟩ := rx; rfl)
theorem ao:Hk X (compareOp .IsNot) (fun x y H Q=>y = .aW /\ Q (.bl (!decide (x = .aW))) H):=by
 intro pins s σ H x y v u Q I rx ry h
 obtain ⟨rfl,q⟩ := h
 cases ry
 refine isnot_none_gen (Bm I q ?_)
 cases x <;> first
  | (cases rx; rfl)
  | (obtain ⟨t,rfl⟩ := rx; rfl)
theorem Bh (b:Expr) {op:CmpOp} (h:op ≠ .In:=by decide) (h2:op ≠ .NotIn:=by decide):behindInMarks op b = false:=by
 have e1:(op == CmpOp.In) = false:=by cases op <;> first | rfl | exact absurd rfl h
 have e2:(op == CmpOp.NotIn) = false:=by cases op <;> first | rfl | exact absurd rfl h2
 cases b <;> simp [behindInMarks,e1,e2]
theorem Db {op:CmpOp} {r:R2} (ho:Hk X (compareOp op) r) (ha:PE X a ta) (hb:PE X b tb) (hm:behindInMarks op b = false):PE X (.Compare a [op] [b] pos) (nv r ta tb):=by
 intro pins s σ H Q I h
 exact wpAny_Compare1 (dl ha hb I h fun v u s2 x y H2 I2 rx ry q=>ho pins s2 σ H2 x y v u Q I2 rx ry q) hm
def n9 (t:TE):TT:=fun σ H Q=>t σ H fun x H'=>∃ k,x = .bl k /\ Q k H'
theorem Bc {op:CmpOp} {r:R2} (ho:Hk X (compareOp op) r) (ha:PE X a ta) (hb:PE X b tb) (hm:behindInMarks op b = false):PT X (.Compare a [op] [b] pos) (n9 (nv r ta tb)):=by
 intro pins s σ H Q I h
 refine wpAny_isTrue_Compare1 (Ci (ha pins s σ H _ I h) fun v s1 ⟨x,H1,I1,r1,q1⟩=>Ci (hb pins s1 σ H1 _ I1 q1) fun u s2 ⟨y,H2,I2,r2,q2⟩ =>
  Ci (ho pins s2 σ H2 x y v u _ I2 r1 r2 q2) fun c s3 ⟨z,H3,I3,r3,k,e,q3⟩=>?_) hm
 subst e
 cases r3
 exact wpAny_truthy_bool ⟨H3,I3,q3⟩
def jw (K:PySem.W.Frag) (x:V) (H:Hp) (k:Bool):Prop :=
 match x with
 | .aW=>k = false
 | .bl b=>k = b
 | .int i=>k = (i != 0)
 | .str y=>y.length <= sizeLine /\ k = ((y.length:Int) != 0)
 | .lB y=>y.size <= sizeLine /\ k = ((y.size:Int) != 0)
 | .ref p=>(∃ xs,B9 K H p xs /\ k = !xs.isEmpty) \/ (∃ xs,Cj K H p xs /\ k = !xs.isEmpty) \/ ∃ kvs,H p = some (.dK kvs) /\ k = !kvs.isEmpty
 | _=>False
theorem Sb {κ:Type} {kvs:List (κ × V)} {vs:List (κ × Value)} (r:KV kvs vs):(!vs.isEmpty) = !kvs.isEmpty:=by
 cases r <;> rfl
theorem Ks {xs:List V} {aL:List Value} (r:Az xs aL):(!aL.toArray.isEmpty) = !xs.isEmpty:=by
 cases r <;> simp
theorem He:(sizeLine:Nat) < 2 ^ 63:=by rw [sizeLine_eq]; decide
theorem j8:ol X (fun x H Q=>∃ k,jw X.K x H k /\ Q k H):=by
 intro pins s σ H x v Q I rx h
 obtain ⟨k,e,q⟩ := h
 have hl:=He
 have hs:sizeLine = 16777216:=sizeLine_eq
 cases x with
 | aW =>
  cases rx
  have e':k = false:=e
  subst e'
  exact truthy_none ⟨H,I,q⟩
 | bl b =>
  cases rx
  have e':k = b:=e
  subst e'
  exact wpAny_truthy_bool ⟨H,I,q⟩
 | int i =>
  obtain ⟨t,rfl⟩ := rx
  have e':k = (i != 0):=e
  subst e'
  exact PySem.P.truthy_int ⟨H,I,q⟩
 | str y =>
  obtain ⟨t,rfl⟩ := rx
  obtain ⟨hy,e'⟩ : y.length <= sizeLine /\ k = ((y.length:Int) != 0):=e
  subst e'
  exact PySem.P.truthy_str (by omega) ⟨H,I.tok _,q⟩
 | lB y =>
  obtain ⟨t,rfl⟩ := rx
  obtain ⟨hy,e'⟩ : y.size <= sizeLine /\ k = ((y.size:Int) != 0):=e
  subst e'
  exact PySem.W.truthy_bytes (by omega) ⟨H,I.tok _,q⟩
 | ref p =>
  cases rx
  have e':(∃ xs,B9 X.K H p xs /\ k = !xs.isEmpty) \/ (∃ xs,Cj X.K H p xs /\ k = !xs.isEmpty) \/ ∃ kvs,H p = some (.dK kvs) /\ k = !kvs.isEmpty:=e
  rcases e' with ⟨xs,hx,e'⟩ | ⟨xs,hx,e'⟩ | ⟨kvs,hx,e'⟩
  ·subst e'
   obtain ⟨aL,r,pl,hz⟩ := I.list hx
   have hlen:=r.length
   exact wpAny_truthy_list pl.isList (by simp only [List.size_toArray]; omega) ⟨H,I.tok _,by rw [Ks r]; exact q⟩
  ·subst e'
   obtain ⟨aL,r,pl,hz⟩ := I.tuple hx
   have hlen:=r.length
   exact truthy_tuple pl (by simp only [List.size_toArray]; omega) ⟨H,I.tok _,by rw [Ks r]; exact q⟩
  ·subst e'
   obtain ⟨hz,hS,vs,r,m⟩ : kvs.length <= sizeLine /\ (p == sysModules) = false /\ ∃ vs,KV kvs vs /\ s.heap.DictOf (Da X.prog X.w) p vs:=I.aP p _ hx
   have hlen:kvs.length = vs.length:=Paired.length r
   exact wpAny_truthy_dict hS m (by omega) ⟨H,I.tok _,by rw [Sb r]; exact q⟩
 | _=>exact (show False from e).elim
theorem Rb (ha : PE X a ta) (he : ∀ whole, isTrue a X.env whole = (do let v <- whole; standAt a.pos; holding [v] (truthy v))) :
  PT X a (fun σ H Q=>ta σ H fun x H'=>∃ k,jw X.K x H' k /\ Q k H'):=by
 intro pins s σ H Q I h
 exact isTrue_plain (Ci (ha pins s σ H _ I h) fun v s1 ⟨x,H1,I1,r1,q1⟩=>j8 pins s1 σ H1 x v Q I1 r1 q1) (he _)
theorem Rm {x:V} {us:List Value} (r:Az [x] us):∃ u,us = [u] /\ Aw x u:=by
 cases r with
 | cons r1 r2=>cases r2; exact ⟨_,rfl,r1⟩
theorem Z0 {x y:V} {us:List Value} (r:Az [x,y] us):∃ u w',us = [u,w'] /\ Aw x u /\ Aw y w':=by
 cases r with
 | cons r1 r2 =>
  cases r2 with
  | cons r3 r4=>cases r4; exact ⟨_,_,rfl,r1,r3⟩
theorem Va (hc:X.calm = true):Dt X (.builtin "max") (fun xs H Q=>∃ i j,xs = [.int i,.int j] /\ Q (.int (if j > i then j else i)) H):=by
 intro pins s σ H xs us Q I r h
 obtain ⟨i,j,rfl,q⟩ := h
 obtain ⟨u,w',rfl,⟨t,rfl⟩,⟨t',rfl⟩⟩ := Z0 r
 refine max_two_ints (I.ok.hd hc) fun h' tk k=>⟨_,H,I.kept k,?_,q⟩
 by_cases hj:j > i
 ·rw [if_pos hj,if_pos hj]; exact ⟨_,rfl⟩
 ·rw [if_neg hj,if_neg hj]; exact ⟨_,rfl⟩
theorem Vc (hc:X.calm = true):Dt X (.builtin "min") (fun xs H Q=>∃ i j,xs = [.int i,.int j] /\ Q (.int (if j < i then j else i)) H):=by
 intro pins s σ H xs us Q I r h
 obtain ⟨i,j,rfl,q⟩ := h
 obtain ⟨u,w',rfl,⟨t,rfl⟩,⟨t',rfl⟩⟩ := Z0 r
 refine min_two_ints (I.ok.hd hc) fun h' tk k=>⟨_,H,I.kept k,?_,q⟩
 by_cases hj:j < i
 ·rw [if_pos hj,if_pos hj]; exact ⟨_,rfl⟩
 ·rw [if_neg hj,if_neg hj]; exact ⟨_,rfl⟩
end
structure de (h:Heap) (x dx C:Addr) (mA:Str -> Option Value):Prop where
 obj:h.get? x = some (PySem.W.instObj C dx)
 ns:h.Ns1 dx mA
 ne:dx ≠ x
theorem W0 {h:Heap} {dx:Addr} {mA:Str -> Option Value} (n:h.Ns1 dx mA):∃ od,h.get? dx = some od /\ ∀ name,PySem.W.lookIn name od = some (mA name):=by
 obtain ⟨o,es,ep,ho,hd,hk,_,hm⟩ := n
 refine ⟨o,ho,fun name=>?_⟩
 have e:=hm name
 unfold nsFind findBy at e
 rw [<- Array.find?_toList] at e
 unfold PySem.W.lookIn
 rw [hd]
 dsimp only
 split
 ·rename_i y q
  rw [q] at e
  exact congrArg some e
 ·rename_i q
  rw [q] at e
  have a:es.toList.any (·.refKey) = false:=by
   rw [List.any_eq_false]
   intro y hy
   obtain ⟨z,t,fD⟩ := hk y (Array.mem_toList_iff.mp hy)
   simp [DictEntry.refKey,fD]
  have a':¬ es.toList.any (·.refKey) = true:=by rw [a]; exact Bool.false_ne_true
  rw [if_neg a']
  exact congrArg some e
theorem de.look {h:Heap} {x dx C:Addr} {mA:Str -> Option Value} (I:de h x dx C mA):∃ od,PySem.W.InstAt h x (PySem.W.instObj C dx) C (some od) /\ ∀ name,PySem.W.lookIn name od = some (mA name) :=
 let ⟨od,ho,hl⟩ := W0 I.ns
 ⟨od,⟨I.obj,rfl,rfl,ho⟩,hl⟩
section
variable {prog:Program} {w:World} {A:Around} {E:Value -> Shared -> Prop} {s:Shared} {K:PySem.W.Frag} {x dx C f:Addr} {mA:Str -> Option Value} {name:Str} {v:Value}
end
theorem Hq.some_of {v:V} {o:Option Value} (r:Hq (some v) o):∃ u,o = some u /\ Aw v u:=by
 cases o with
 | none=>exact (show False from r).elim
 | some u=>exact ⟨u,rfl,r⟩
section
variable {P:Program} {w:World} {H H':Hp} {h h':Heap} {a C dx:Addr} {fs fs':List (Str × V)}
theorem a8 (aP:Ft P w H h) (e:H a = some (.ins C dx fs)):∃ mA,de h a dx C mA /\ (∀ f,Hq (fs.lookup f) (mA f)) /\ PySem.Within mA (fs.map (·.1)) /\ fs.length <= 1000 /\ H dx = some (.own a):=by
 obtain ⟨d,z,ne,ob,mA,n,r,q⟩ := (show Bn P w H h a (.ins C dx fs) from aP a _ e)
 exact ⟨mA,⟨ob,n,ne⟩,r,q,z,d⟩
end
structure o6 (K:PySem.W.Frag) (C:Addr):Prop where
 pg:PySem.W.plainGet K C Str.empty = true
 hd:PySem.W.hasDictIn K C = true
 po:PySem.W.plainOver K C = true
 sa:PySem.W.findIn K (.ref C) "__setattr__" = some (some (.builtin "object.__setattr__"))
theorem o6.get {K:PySem.W.Frag} {C:Addr} (c:o6 K C) (f:Str):PySem.W.plainGet K C f = true:=c.pg
section
variable {X:Cx} {pins:List (Addr × Obj)} {σ:St} {H:Hp} {s:Shared} {a C dx:Addr} {fs:List (Str × V)} {f:Str} {v:V} {A:Around} {E:Value -> Shared -> Prop}
end
section
variable {X:Cx} {o e value:Expr} {f:Str} {pos pos' vG:Pos} {ta tv:TE}
end
section
variable {X:Cx} {pins:List (Addr × Obj)} {σ:St} {H:Hp} {s:Shared} {A:Around} {E:Value -> Shared -> Prop} {Q:Value -> Shared -> Prop} {c:Value} {b:Bool}
inductive Iq (K:PySem.W.Frag) (H:Hp):V -> Value -> Prop where
 | aW:Iq K H .aW (.type "NoneType")
 | bl (x:Bool):Iq K H (.bl x) (.type "bool")
 | int (i:Int):Iq K H (.int i) (.type "int")
 | str (x:Str):Iq K H (.str x) (.type "str")
 | BU (x:UInt64):Iq K H (.BU x) (.type "float")
 | lst {a:Addr} {xs:List V} (e:H a = some (.lst xs)):Iq K H (.ref a) (.type "list")
 | bO {a:Addr} {o:Obj} {xs:List V} (e:H a = some (.bO o (.lst xs))):Iq K H (.ref a) (.type "list")
 | tup {a:Addr} {xs:List V} (e:H a = some (.tup xs)):Iq K H (.ref a) (.type "tuple")
 | dK {a:Addr} {kvs:List (Dh × V)} (e:H a = some (.dK kvs)):Iq K H (.ref a) (.type "dict")
 | dT {a:Addr} {kvs:List ((List Int × Int) × V)} (e:H a = some (.dT kvs)):Iq K H (.ref a) (.type "dict")
 | ins {a C dx : Addr} {fs : List (Str × V)} (e : H a = some (.ins C dx fs)) (cl : o6 K C) (ha : PySem.W.findIn K (.ref C) "__class__" = some (some (.builtin "object.__class__")))
   (hn:PySem.W.specialIn K (.builtin "object.__class__") "__get__" = some (some (.builtin "getset_descriptor.__get__"))) (htk:PySem.W.takesIn K (.builtin "object.__class__") = some true)
   (hm:PySem.W.mroIn K C (.type "object") = some true):Iq K H (.ref a) (.ref C)
theorem Vr {x : V} {u t : Value} (I : Ag X pins σ H s) (rx : Aw x u) (ty : Iq X.K H x t) (e : PySem.W.kitOne X.K t c = some b) (h : ∀ tk, Q (.bool b) { s with toks := tk }) :
  wpAny (model X.prog X.w) A (call (.builtin "isinstance") [u,c]) Q E s:=by
 cases ty with
 | aW=>cases (show u = Value.none from rx); exact PySem.W.kia_one PySem.W.kitx_none I.fW True.intro e (fun z=>nomatch z) h
 | bl y=>cases (show u = Value.bool y from rx); exact PySem.W.kia_one PySem.W.kitx_bool I.fW True.intro e (fun z=>nomatch z) h
 | int i=>obtain ⟨t,q⟩ := (show ∃ t,u = Value.int i t from rx); cases q; exact PySem.W.kia_one PySem.W.kitx_int I.fW True.intro e (fun z=>nomatch z) h
 | str y=>obtain ⟨t,q⟩ := (show ∃ t,u = Value.str y t from rx); cases q; exact PySem.W.kia_one PySem.W.kitx_str I.fW True.intro e (fun z=>nomatch z) h
 | BU y=>obtain ⟨t,q⟩ := (show ∃ t,u = Value.float y t from rx); cases q; exact PySem.W.kia_one PySem.W.kitx_float I.fW True.intro e (fun z=>nomatch z) h
 | @lst a xs ea =>
  cases (show u = Value.ref a from rx)
  obtain ⟨_,_,n,_,h1⟩ := (show Bn X.prog X.w H s.heap a (.lst xs) from I.aP a _ ea)
  exact PySem.W.kia_one PySem.W.kitx_list I.fW ⟨_,h1,rfl⟩ e (fun z=>nomatch z) h
 | @bO a ob xs ea =>
  cases (show u = Value.ref a from rx)
  obtain ⟨_,_,_,n,_,h1⟩ := (show Bn X.prog X.w H s.heap a (.bO ob (.lst xs)) from I.aP a _ ea)
  exact PySem.W.kia_one PySem.W.kitx_list I.fW ⟨_,h1,rfl⟩ e (fun z=>nomatch z) h
 | @tup a xs ea =>
  cases (show u = Value.ref a from rx)
  obtain ⟨_,_,_,p⟩ := (show Bn X.prog X.w H s.heap a (.tup xs) from I.aP a _ ea)
  obtain ⟨o,h1,h2,_⟩ := p
  exact PySem.W.kia_one PySem.W.kitx_tuple I.fW ⟨o,h1,h2⟩ e (fun z=>nomatch z) h
 | @dK a kvs ea =>
  cases (show u = Value.ref a from rx)
  obtain ⟨_,_,vs,_,p⟩ := (show Bn X.prog X.w H s.heap a (.dK kvs) from I.aP a _ ea)
  obtain ⟨o,es,ep,h1,h2,_⟩ := p
  exact PySem.W.kia_one PySem.W.kitx_dict I.fW ⟨o,h1,h2.1⟩ e (fun z=>nomatch z) h
 | @dT a kvs ea =>
  cases (show u = Value.ref a from rx)
  obtain ⟨_,_,xs,_,o,es,ep,h1,h2,_⟩ := (show Bn X.prog X.w H s.heap a (.dT kvs) from I.aP a _ ea)
  exact PySem.W.kia_one PySem.W.kitx_dict I.fW ⟨o,h1,h2.1⟩ e (fun z=>nomatch z) h
 | @ins a C dx fs ea cl ha hn htk hm =>
  cases (show u = Value.ref a from rx)
  obtain ⟨mA,O,_⟩ := a8 I.aP ea
  obtain ⟨od,J,_⟩ := O.look
  exact PySem.W.kia_one (PySem.W.kitx_own (cl.get _) cl.hd ha hn htk hm) I.fW J e (fun z=>nomatch z) h
end
structure Ct (k:Nat) (A:Around):Prop where
 hd:A.handled = none
 dp:A.depth + 3 * k + 5 < recursionLimit
 un:A.units + 16 * k + 200 < cLine
theorem Ct.mono {j k:Nat} {A:Around} (r:Ct k A) (h:j <= k):Ct j A:=⟨r.hd,by have:=r.dp; omega,by have:=r.un; omega⟩
theorem Ct.deeper {k:Nat} {A:Around} (r:Ct (k + 1) A) (env:Env):Ct k (A.deeper env) :=
 ⟨r.hd,by have:=r.dp; show A.depth + 1 + 3 * k + 5 < _; omega,by have:=r.un; show A.units + 3 + 16 * k + 200 < _; omega⟩
theorem Ct.depth {k:Nat} {A:Around} (r:Ct k A):A.depth < recursionLimit:=by have:=r.dp; omega
theorem Ct.units {k:Nat} {A:Around} (r:Ct k A):A.units + 64 < cLine:=by have:=r.un; omega
def mz:TA:=fun _ H Q=>Q [] H
def cr (ta:TE) (tr:TA):TA:=fun σ H Q=>ta σ H fun x H1=>tr σ H1 fun xs H2=>Q (x :: xs) H2
section
variable {X:Cx} {e:Expr} {es:List Expr} {te:TE} {t:TA} {pos:Pos}
theorem A7:PA X [] mz:=fun _ _ _ _ H Q I h=>Calls.spliced_nil ⟨[],H,I,.nil,h⟩
theorem A0 (ha:PE X e te) (hr:PA X es t) (hs:starEach (e :: es) X.env = (false,eval e X.env) :: starEach es X.env:=by rfl):PA X (e :: es) (cr te t):=by
 intro pos pins s σ H Q I h
 rw [hs]
 show wpAny _ _ (spliced ((false,eval e X.env) :: backTo pos (starEach es X.env))) _ _ s
 refine Calls.spliced_cons (Ci (ha pins s σ H _ I h) fun u s1 bA=>?_)
 obtain ⟨x,H1,I1,r1,q1⟩ := bA
 exact Ci (hr pos pins s1 σ H1 _ I1 q1) fun us s2 ⟨xs,H2,I2,r2,q2⟩=>⟨x :: xs,H2,I2,.cons r1 r2,q2⟩
def qp (t:TA):TE:=fun σ H Q=>t σ H fun xs H1=>xs.length <= sizeLine /\ ∀ p,H1 p = none -> Q (.ref p) (upd H1 p (.tup xs))
def qh (t:TA):TE:=fun σ H Q=>t σ H fun xs H1=>xs.length <= sizeLine /\ ∀ p,H1 p = none -> Q (.ref p) (upd H1 p (.lst xs))
theorem Bt {x1} (h:PA X es t):PE X (.Tuple es x1 pos) (qp t):=by
 intro pins s σ H Q I hq
 refine wpAny_Tuple_spliced (Ci (h pos pins s σ H _ I hq) fun us s1 ⟨xs,H1,I1,r,z,q⟩=>⟨by rw [<- r.length]; exact z,?_⟩)
 have hf:H1 s1.heap.objs.size = none:=I1.aP.fresh (Nat.le_refl _)
 refine ⟨.ref s1.heap.objs.size,upd H1 s1.heap.objs.size (.tup xs),I1.laid (t':=s1.toks) (fun b u e=>Heap.get?_push_of_some _ e) (Nat.le_refl _) ?_,rfl,q _ hf⟩
 exact ⟨⟨z,⟨_,Heap.get?_push_size _ rfl,rfl⟩⟩,us,r,⟨_,Heap.get?_push_size _ rfl,rfl,_,rfl⟩⟩
theorem Cw (h:PA X es t):PE X (.List es pos) (qh t):=by
 intro pins s σ H Q I hq
 refine wpAny_List_spliced (Ci (h pos pins s σ H _ I hq) fun us s1 ⟨xs,H1,I1,r,z,q⟩=>⟨by rw [<- r.length]; exact z,?_⟩)
 have hf:H1 s1.heap.objs.size = none:=I1.aP.fresh (Nat.le_refl _)
 refine ⟨.ref s1.heap.objs.size,upd H1 s1.heap.objs.size (.lst xs),I1.laid (t':=s1.toks) (fun b u e=>Heap.get?_push_of_some _ e) (Nat.le_refl _) ?_,rfl,q _ hf⟩
 exact ⟨z,us,0,r,Heap.get?_push_size _ rfl⟩
end
abbrev Sp:=List V -> Hp -> VK -> XK -> Prop
abbrev Wo:=List Env -> Hp -> Shared -> XK -> Value -> Shared -> Prop
structure Zc (P:Program) (w:World) (K:PySem.W.Frag) (mg:Str -> Option Value) (base:Heap) (A:Around) (outer:List Env) (s:Shared) (H:Hp):Prop where
 frames:A.frames = some outer
 mod:Mod K mg base
 bs:∀ b o,base.get? b = some o -> s.heap.get? b = some o /\ H b = none
 qQ:base.objs.size <= s.heap.objs.size
 eM:s.heap.FunFrames base outer
 sT:∀ b ∈ eK outer,H b = none
 aP:Ft P w H s.heap
 bare:AllBare s.gens
def CE (outer:List Env) (P:Program) (w:World) (H:Hp) (s:Shared) (Q:VK) (u:Value) (s':Shared):Prop :=
 ∃ v H',s'.os = s.os /\ AllBare s'.gens /\ Un (eK outer) [] H H' s.heap s'.heap /\ Ft P w H' s'.heap /\ Aw v u /\ Q v H'
def CR (CX:Wo) (outer:List Env) (P:Program) (w:World) (H:Hp) (s:Shared) (Q:VK) (E:XK) (r:Result) (s':Shared):Prop :=
 match r with
 | .ok (.ret u)=>CE outer P w H s Q u s'
 | .ok _=>False
 | .error e=>CX outer H s E e s'
structure Ai (P:Program) (w:World) (K:PySem.W.Frag) (mg:Str -> Option Value) (base:Heap) (CX:Wo) (k:Nat) (f:Addr) (fd:FuncData) (ps:List Str) (sp:Sp):Prop where
 len:∀ vs H Q E,sp vs H Q E -> vs.length = ps.length
 run:∀ (A:Around) (outer:List Env) (s:Shared) (H:Hp) (args:Args) (us:List Value) (vs:List V) (Q:VK) (E:XK),Ct k A -> Zc P w K mg base A outer s H -> BindsTo s fd args (ps.zip us) -> Az vs us -> sp vs H Q E ->
  codeAny (model P w) A (.call (.ref f) args) (CR CX outer P w H s Q E) s
section
variable {X:Cx} {pins:List (Addr × Obj)} {σ:St} {H:Hp} {s s':Shared}
theorem Ag.DH (I:Ag X pins σ H s):Zc X.prog X.w X.K X.mg X.base X.A X.stack s H :=
 ⟨I.ok.frames,I.ok.mod,I.bs,Nat.le_trans I.ok.qQ I.sz,I.stack,I.cO,I.aP,I.bare⟩
theorem Ag.after {Q:VK} {u:Value} (I:Ag X pins σ H s) (h:CE X.stack X.prog X.w H s Q u s'):EP X pins σ Q u s':=by
 obtain ⟨v,H',os,bare,un,aP,r,q⟩ := h
 obtain ⟨hh,g,d,t,os'⟩ := s'
 obtain rfl:os' = s.os:=os
 exact ⟨v,H',I.call (h':=hh) (g':=g) (d':=d) (t':=t) (ch:=[]) un aP bare (fun b z=>absurd z (by simp)),r,q⟩
end
def mn (sp:Sp) (jM:List V) (E:XK) (t:TA):TE:=fun σ H Q=>t σ H fun vs H1=>sp (vs ++ jM) H1 Q E
def Ay (K:PySem.W.Frag) (fd:FuncData) (ps:List Str) (ds:List Value):Prop :=
 ∀ (s:Shared) (us:List Value),K.In s.heap -> (us ++ ds).length = ps.length -> BindsTo s fd ⟨us,[]⟩ (ps.zip (us ++ ds))
theorem Ay.all {K:PySem.W.Frag} {fd:FuncData} {ps:List Str} (h:∀ us:List Value,us.length = ps.length -> bindArgs fd ⟨us,[]⟩ = pure (ps.zip us)):Ay K fd ps []:=fun s us _ hl=>by
 rw [List.append_nil] at hl ⊢
 exact .of_eq (h us hl)
def Ru (CX:Wo) (X:Cx) (E:XK):Prop := ∀ (pins:List (Addr × Obj)) (σ:St) (H:Hp) (s:Shared) (e:Value) (s':Shared),Ag X pins σ H s -> CX X.stack H s E e s' -> X.xe e s'
section
variable {X:Cx} {CX:Wo} {k:Nat} {f C:Addr} {fd:FuncData} {ps:List Str} {sp:Sp} {jM:List V} {ds:List Value} {E:XK} {x m:Str} {p pos apos:Pos} {e o:Expr} {es:List Expr} {ta:TE} {t:TA}
theorem ik {pins : List (Addr × Obj)} {σ : St} {H : Hp} {s : Shared} {Q : VK} {us : List Value} {vs : List V} (F : Ai X.prog X.w X.K X.mg X.base CX k f fd ps sp) (hr : Ct k X.A) (hb : Ay X.K fd ps ds) (hd : Az jM ds) (hx : Ru CX X E)
  (I:Ag X pins σ H s) (r:Az vs us) (h:sp (vs ++ jM) H Q E):wpAny (model X.prog X.w) X.A (call (.ref f) us) (EP X pins σ Q) X.xe s:=by
 have r2:Az (vs ++ jM) (us ++ ds):=r.append hd
 have hl:(us ++ ds).length = ps.length:=by rw [<- r2.length]; exact F.len _ _ _ _ h
 refine wpAny_call (codeAny_mono (F.run X.A X.stack s H ⟨us,[]⟩ (us ++ ds) (vs ++ jM) Q E hr I.DH (hb s us I.fW hl) r2 h) fun r s' hq=>?_)
 cases r with
 | error e=>exact hx pins σ H s e s' I hq
 | ok fl =>
  cases fl with
  | ret u=>exact I.after hq
  | next=>exact False.elim hq
  | brk=>exact False.elim hq
  | cont=>exact False.elim hq
theorem Af (F : Ai X.prog X.w X.K X.mg X.base CX k f fd ps sp) (hr : Ct k X.A) (hg : Gl X x) (hm : X.mg x = some (.ref f)) (hk : PySem.W.keepIn X.K (.ref f) = true) (hb : Ay X.K fd ps ds) (hd : Az jM ds) (hx : Ru CX X E)
  (ha:PA X (e :: es) t) (lC:(x == ("__debug__" : Str)) = false:=by decide) (he:starEach (e :: es) X.env = (false,eval e X.env) :: starEach es X.env:=by rfl) (kP:(backTo pos (starEach es X.env)).any (·.1) = false:=by rfl) :
  PE X (.Call (.Name x p) (e :: es) [] pos) (mn sp jM E t):=by
 intro pins s σ H Q I h
 refine wpAny_Call_Name_kw (Jz I hg hm ?_ lC)
 refine PySem.W.callWith_K (h₀:=X.base) I.ok.mod.iV hk (Ci (ha pos pins s σ H _ I h) fun us s1 ⟨vs,H1,I1,r,q⟩=>⟨I1.fW,?_⟩) he kP
 exact ik F hr hb hd hx I1 r q
end
section
variable {X:Cx} {CX:Wo} {k:Nat} {f C:Addr} {fd:FuncData} {ps ks:List Str} {sp:Sp} {E:XK} {x m:Str} {p pos apos NQ:Pos} {e o:Expr} {es:List Expr} {kws:List Keyword} {te ta:TE} {t tk:TA} {nm:Option Str}
variable {g:List Value -> List Value -> List Value} {gV:List V -> List V -> List V}
end
structure Aq (N P:List Str) (sc:Scope):Prop where
 kind:sc.kind = .function
 co:sc.isCoroutine = false
 gen:sc.isGenerator = false
 nd:N.Nodup
 pre:N.take P.length = P
 par:∀ x ∈ P,sc.names.lookup x = some .local \/ sc.names.lookup x = some .cell
 vH:∀ y ∈ sc.names,y.2 ≠ .free
theorem Mx {kindOf:Str -> Option NameKind} {x:Str}:∀ {binds:List (Str × Value)} {m:Str -> Option Value},(∀ v,(x,v) ∉ binds) -> bindL kindOf binds m x = m x
 | [],_,_=>rfl
 | (n,v) :: r,m,h=>by
  unfold bindL
  rw [Mx fun w hw=>h w (List.mem_cons_of_mem _ hw)]
  split
  ·have:x ≠ n:=by rintro rfl; exact h v List.mem_cons_self
   simp [this]
  ·rfl
theorem Mv {kindOf:Str -> Option NameKind} {x:Str}:∀ {binds:List (Str × Value)} {m:Str -> Option Value},(∀ v,(x,v) ∉ binds) -> bindC kindOf binds m x = m x
 | [],_,_=>rfl
 | (n,v) :: r,m,h=>by
  unfold bindC
  rw [Mv fun w hw=>h w (List.mem_cons_of_mem _ hw)]
  split
  ·rfl
  ·have:x ≠ n:=by rintro rfl; exact h v List.mem_cons_self
   simp [this]
theorem Mw {kindOf : Str -> Option NameKind} {x : Str} {v : Value} : ∀ {P : List Str} {vs : List Value} {i : Nat} {m : Str -> Option Value}, P.Nodup -> P[i]? = some x -> vs[i]? = some v -> kindOf x = some .local ->
  bindL kindOf (P.zip vs) m x = some v
 | [],_,_,_,_,h,_,_=>by simp at h
 | _ :: _,[],_,_,_,_,h,_=>by simp at h
 | p :: P,w :: vs,0,m,nd,h1,h2,hk=>by
  simp at h1 h2; subst h1; subst h2
  show bindL kindOf ((p,w) :: P.zip vs) m p = _
  unfold bindL
  rw [Mx fun v hv=>(List.nodup_cons.mp nd).1 (List.of_mem_zip hv).1,if_pos hk]
  simp
 | p :: P,w :: vs,i + 1,m,nd,h1,h2,hk=>by
  show bindL kindOf ((p,w) :: P.zip vs) m x = _
  unfold bindL
  exact Mw (i:=i) (List.nodup_cons.mp nd).2 (by simpa using h1) (by simpa using h2) hk
theorem Mu {kindOf : Str -> Option NameKind} {x : Str} {v : Value} : ∀ {P : List Str} {vs : List Value} {i : Nat} {m : Str -> Option Value}, P.Nodup -> P[i]? = some x -> vs[i]? = some v -> kindOf x ≠ some .local ->
  bindC kindOf (P.zip vs) m x = some v
 | [],_,_,_,_,h,_,_=>by simp at h
 | _ :: _,[],_,_,_,_,h,_=>by simp at h
 | p :: P,w :: vs,0,m,nd,h1,h2,hk=>by
  simp at h1 h2; subst h1; subst h2
  show bindC kindOf ((p,w) :: P.zip vs) m p = _
  unfold bindC
  rw [Mv fun v hv=>(List.nodup_cons.mp nd).1 (List.of_mem_zip hv).1,if_neg hk]
  simp
 | p :: P,w :: vs,i + 1,m,nd,h1,h2,hk=>by
  show bindC kindOf ((p,w) :: P.zip vs) m x = _
  unfold bindC
  exact Mu (i:=i) (List.nodup_cons.mp nd).2 (by simpa using h1) (by simpa using h2) hk
def start (N:List Str) (vs:List V):St:=vs.map some ++ List.replicate (N.length - vs.length) none
def Ev (CX:Wo) (P:Program) (w:World) (K:PySem.W.Frag) (mg:Str -> Option Value) (base:Heap) (N:List Str) (qual:Str) (scope:Scope) (f:Addr) (cd:Value) (A:Around) (outer:List Env) (s:Shared) (H:Hp) (E:XK):Cx where
 prog:=P
 w:=w
 K:=K
 mg:=mg
 base:=base
 A:=A.deeper (envOfC qual scope s.heap.objs.size f cd)
 N:=N
 s₀:=s
 H₀:=H
 env:=envOfC qual scope s.heap.objs.size f cd
 outer:=outer
 stack:=envOfC qual scope s.heap.objs.size f cd :: outer
 ex:=[]
 calm:=true
 fn:=fun _=>true
 pn:=[]
 xe:=fun e s'=>wpAny (model P w) (A.deeper (envOfC qual scope s.heap.objs.size f cd)) (leaving (envOfC qual scope s.heap.objs.size f cd) e) (fun _ NR=>CX outer H s E e NR) (fun e' NR=>CX outer H s E e' NR) s'
theorem Qa {sc:Scope} {n:Nat} {x:Str} (h:sc.names.lookup x = some .cell):∃ c,(cellsFrom n sc.names []).lookup x = some c:=by
 have q:=PySem.W.cellsFrom_some sc.names n [] (.inl h)
 exact Option.isSome_iff_exists.mp q
theorem Vq {CX : Wo} {P : Program} {w : World} {K : PySem.W.Frag} {mg : Str -> Option Value} {base : Heap} {N ps : List Str} {qual : Str} {scope : Scope} {f : Addr} {cd : Value} {A : Around} {outer : List Env} {s s1 : Shared} {H : Hp} {E : XK} {us : List Value} {vs : List V}
  (S:Aq N ps scope) (hd:A.handled = none) (e0:Zc P w K mg base A outer s H) (hl:vs.length = ps.length) (r:Az vs us)
  (x:InCallC s s.heap.objs.size (bindL (envOfC qual scope s.heap.objs.size f cd).kindOf (ps.zip us) fun _=>none) (cellsFrom (s.heap.objs.size + 1) scope.names []) (bindC (envOfC qual scope s.heap.objs.size f cd).kindOf (ps.zip us) fun _=>none) s1) :
  Ag (Ev CX P w K mg base N qual scope f cd A outer s H E) [] (start N vs) H s1:=by
 have kP:ps.length <= N.length:=by have:=congrArg List.length S.pre; rw [List.length_take] at this; omega
 obtain ⟨h1,tk,rfl,hk⟩ := x.done
 have DI:∀ b:Addr,b ∉ (Ev CX P w K mg base N qual scope f cd A outer s H E).ex:=fun b z=>absurd (show b ∈ ([]:List Addr) from z) (by simp)
 refine ⟨⟨e0.mod,S.kind,rfl,rfl,Nat.le_refl _,fun y z c h1 h2=>?_,fun y hy=>?_,fun y c _ h=>?_,fun _=>hd,Around.frames_deeper e0.frames,.inr ⟨rfl,rfl⟩,fun b z=>absurd z (DI b),e0.bs,e0.qQ,fun b _ _=>DI b,fun b z=>absurd z (DI b),e0.eM,e0.sT⟩,
  rfl,e0.bare,Un.kept hk,⟨_,x.toInCall.ns,fun i y v h1 h2 h3=>?_⟩,fun y c h=>⟨_,x.cell y c h⟩,e0.aP.fresh (Nat.le_refl _),fun y c h=>?_,fun p hp=>absurd (show p ∈ ([]:List (Addr × Obj)) from hp) (by simp),e0.aP.kept hk,?_⟩
 ·exact name_of_addr x.apart (PySem.mem_of_lookup h1) (PySem.mem_of_lookup h2)
 ·have hy:scope.names.lookup y = some .cell \/ scope.names.lookup y = some .free:=hy
  rcases hy with hy | hy
  ·exact Qa hy
  ·exact absurd rfl (S.vH _ (PySem.mem_of_lookup hy))
 ·exact Nat.le_of_lt (x.above y c (PySem.mem_of_lookup h))
 ·have hi : i < vs.length := by
   unfold start at h2
   by_cases hi:i < vs.length
   ·exact hi
   ·rw [List.getElem?_append_right (by simpa using hi)] at h2
    rw [List.getElem?_replicate] at h2
    split at h2 <;> cases h2
  have ha:vs[i]? = some v:=by
   unfold start at h2
   rw [List.getElem?_append_left (by simpa using hi),List.getElem?_map] at h2
   cases e:vs[i]? with
   | none=>rw [e] at h2; cases h2
   | some a=>rw [e] at h2; cases h2; rfl
  obtain ⟨u,hu,rv⟩ := r.get ha
  have hp:ps[i]? = some y:=by
   rw [<- S.pre,List.getElem?_take_of_lt (by omega)]; exact h1
  have ndP:ps.Nodup:=by rw [<- S.pre]; exact S.nd.sublist (List.take_sublist _ _)
  refine ⟨u,rv,?_⟩
  rcases S.par y (List.mem_of_getElem? hp) with k | k
  ·exact .inl ⟨k,Mw ndP hp hu k⟩
  ·obtain ⟨c,e⟩ := Qa (n:=s.heap.objs.size + 1) k
   refine .inr ⟨.inl k,c,e,?_⟩
   have q:=x.cell y c e
   rw [Mu ndP hp hu (by show scope.names.lookup y ≠ _; rw [k]; decide)] at q
   exact q
 ·exact e0.aP.fresh (Nat.le_of_lt (x.above y c (PySem.mem_of_lookup h)))
 ·unfold start
  show _ = N.length
  rw [List.length_append,List.length_map,List.length_replicate]
  omega
theorem Xa {CX : Wo} {P : Program} {w : World} {K : PySem.W.Frag} {mg : Str -> Option Value} {base : Heap} {k : Nat} {f : Addr} {name qual : Str} {params : Arguments} {body : List Stmt} {scope : Scope} {dV kV doc pm aV ct oc : Value} {an od : Option Addr}
  {iA:Array (Option Value)} {N ps:List Str} {sp:Sp} (lk:K.lookup f = some ⟨oc,od,.func (PySem.W.fnOf name qual params body scope dV kV doc pm an aV ct),iA⟩) (lE:PySem.W.codeIn K aV qual = true) (S:Aq N ps scope)
  (len:∀ vs H Q E,sp vs H Q E -> vs.length = ps.length)
  (cC:∀ (A:Around) (outer:List Env) (s:Shared) (H:Hp) (vs:List V) (Q:VK) (E:XK),Ct k (A.deeper (envOfC qual scope s.heap.objs.size f aV)) -> sp vs H Q E ->
   ∃ t,Mc (Ev CX P w K mg base N qual scope f aV A outer s H E) body t /\ t { nx:=fun _ H'=>Q .aW H',rt:=Q } (start N vs) H) :
  Ai P w K mg base CX (k + 1) f (PySem.W.fnOf name qual params body scope dV kV doc pm an aV ct) ps sp:=by
 refine ⟨len,fun A outer s H args us vs Q E hr e0 hb r lX=>?_⟩
 have hl:=len _ _ _ _ lX
 have KX:K.In s.heap:=e0.mod.iV.keeps fun b o e=>(e0.bs b o e).1
 have lim:s.heap.NoLimit:=e0.mod.nolimit.keeps fun b o e=>(e0.bs b o e).1
 have DJ:∀ y ∈ ps.zip us,scope.names.lookup y.1 = some .local \/ (scope.names.lookup y.1 = some .cell /\ ((cellsFrom (s.heap.objs.size + 1) scope.names []).lookup y.1).isSome = true):=fun ⟨n,v⟩ hy=>by
  rcases S.par n (List.of_mem_zip hy).1 with q | q
  ·exact .inl q
  ·exact .inr ⟨q,PySem.W.cellsFrom_some _ _ _ (.inl q)⟩
 refine codeAny_call_function hr.depth (KX _ _ lk) rfl S.co S.gen rfl (PySem.W.codeRec_of KX lE) (hb _ _ _ _ ?_)
 refine wpAny_newFunctionEnv_cells S.kind DJ fun env he s1 x=>?_
 subst he
 refine ⟨lim.keeps x.toInCall.keep,codeAny_func ?_⟩
 obtain ⟨t,ht,hq⟩ := cC A outer s H vs Q E (hr.deeper _) lX
 have I:Ag (Ev CX P w K mg base N qual scope f aV A outer s H E) [] (start N vs) H s1:=Vq S hr.hd e0 hl r x
 refine wpAny_mono (ht [] s1 (start N vs) H _ I hq) (fun fl s' hs=>?_) fun e s' hs=>hs
 have fin:∀ {σ':St} {H':Hp} {v:V} {u:Value},Ag (Ev CX P w K mg base N qual scope f aV A outer s H E) [] σ' H' s' -> Aw v u -> Q v H' -> CE outer P w H s Q u s' :=
  fun {σ' H' v u} J rv q=>⟨v,H',J.os,J.bare,J.base,J.aP,rv,q⟩
 cases fl with
 | ret u =>
  obtain ⟨v,σ',H',J,rv,q⟩ := hs
  exact fin J rv q
 | next =>
  obtain ⟨σ',H',J,q⟩ := hs
  exact fin (v:=V.aW) (u:=Value.none) J rfl q
 | brk =>
  obtain ⟨_,_,_,q⟩ := hs
  exact False.elim q
 | cont =>
  obtain ⟨_,_,_,q⟩ := hs
  exact False.elim q
section
variable {X:Cx} {x:Str} {p pos:Pos} {e:Expr} {es:List Expr} {t:TA} {id T:String} {r:List V -> Hp -> VK -> Prop}
def sh (r:List V -> Hp -> VK -> Prop) (t:TA):TE:=fun σ H Q=>t σ H fun vs H1=>r vs H1 Q
theorem Ba (hc : Dt X (.builtin id) r) (hg : Gl X x) (hm : X.mg x = none) (hv : bootBuiltins x = some (.builtin id)) (ha : PA X (e :: es) t) (hn : x ≠ "__name__" := by decide) (lC : (x == ("__debug__" : Str)) = false := by decide)
  (he:starEach (e :: es) X.env = (false,eval e X.env) :: starEach es X.env:=by rfl) (kP:(backTo pos (starEach es X.env)).any (·.1) = false:=by rfl):PE X (.Call (.Name x p) (e :: es) [] pos) (sh r t):=by
 intro pins s σ H Q I h
 refine wpAny_Call_Name_kw (Ku I hg hm hv ?_ hn lC)
 exact PyProof.Rows.callWith_builtin1 (Ci (ha pos pins s σ H _ I h) fun us s1 ⟨vs,H1,I1,r1,q1⟩=>hc pins s1 σ H1 vs us Q I1 r1 q1) he kP
theorem Cc (hc : Dt X (.type T) r) (hg : Gl X x) (hm : X.mg x = none) (hv : bootBuiltins x = some (.type T)) (ha : PA X (e :: es) t) (hn : x ≠ "__name__" := by decide) (lC : (x == ("__debug__" : Str)) = false := by decide)
  (he:starEach (e :: es) X.env = (false,eval e X.env) :: starEach es X.env:=by rfl) (kP:(backTo pos (starEach es X.env)).any (·.1) = false:=by rfl):PE X (.Call (.Name x p) (e :: es) [] pos) (sh r t):=by
 intro pins s σ H Q I h
 refine wpAny_Call_Name_kw (Ku I hg hm hv ?_ hn lC)
 exact PyProof.Rows.callWith_type1 (Ci (ha pos pins s σ H _ I h) fun us s1 ⟨vs,H1,I1,r1,q1⟩=>hc pins s1 σ H1 vs us Q I1 r1 q1) he kP
end
end L2
namespace HT
local macro_rules | `(tactic| omega) => `(tactic| lia)
open PySem PyProof.Rows
section
open PySem.SeqAt
open PySem.AutoSeq1 (wpAny_loadPart')
open PySem.MeetsSeq PySem.MeetsSeq2 PySem.MeetsSeq3
end
section
variable {prog:Program} {w:World} {A:Around} {E:Value -> Shared -> Prop} {s:Shared}
theorem rH {t b : Addr} {vs ws : List Value} {Q : Value -> Shared -> Prop} (ht : IsTup s.heap t vs.toArray) (hb : IsTup s.heap b ws.toArray) (hv : vs ≠ [])
  (h1:ws = [] -> Q (.ref t) s) (h2:ws ≠ [] -> Q (.ref s.heap.objs.size) { s with heap:=s.heap.push { cls := .type "tuple",data := .seq (vs ++ ws).toArray } })
  (hsz:vs.length + ws.length <= sizeLine):wpAny (model prog w) A (binaryOp .Add (.ref t) (.ref b)) Q E s:=by
 obtain ⟨⟨cls,dd,data,sl⟩,ho,hc,n,hd⟩ := id ht
 obtain ⟨⟨cls2,CA,data2,CB⟩,iX,jS,n2,hd2⟩ := id hb
 simp only at hc hd jS hd2
 subst hc hd jS hd2
 have e:vs.toArray ++ ws.toArray = (vs ++ ws).toArray:=by simp
 by_cases hw:ws = []
 ·exact concat_meets ⟨_, ho, rfl⟩ ⟨_, iX, rfl⟩ noFill_tuple_add seq_tuple_add PySem.F.slot_tuple_add PySem.F.entry_tuple_add (PySem.F.args_tuple_add_2 _ _)
   (tuple_addW1 t b vs.toArray ws.toArray n n2 dd CA sl CB (by simpa using hv) (by simp [hw])) ⟨ho,iX,h1 hw⟩
 ·refine concat_meets ⟨_, ho, rfl⟩ ⟨_, iX, rfl⟩ noFill_tuple_add seq_tuple_add PySem.F.slot_tuple_add PySem.F.entry_tuple_add (PySem.F.args_tuple_add_2 _ _)
   (tuple_addW2 t b vs.toArray ws.toArray n n2 dd CA sl CB (by simpa using hv) (by simpa using hw) (by rw [List.size_toArray,List.size_toArray]; exact hsz)) ⟨ho,iX,?_⟩
  rw [e]
  exact h2 hw
def gN (n d:Nat):Option Int -> Nat
 | none=>d
 | some v=>if v < 0 then (v + (n:Int)).toNat else min v.toNat n
theorem iY (n d:Nat):gN n d none = d:=rfl
theorem cP (n d k:Nat):gN n d (some (k:Int)) = min k n:=by
 show (if (k:Int) < 0 then ((k:Int) + (n:Int)).toNat else min (k:Int).toNat n) = min k n
 rw [if_neg (by omega),Int.toNat_natCast]
end
end HT
namespace L2
local macro_rules | `(tactic| omega) => `(tactic| lia)
open PySem PySem.Spec PyProof.Rows
abbrev TO:=St -> Hp -> (Option Int -> Hp -> Prop) -> Prop
def PO (X:Cx) (e:Option Expr) (t:TO):Prop :=
 ∀ (pins:List (Addr × Obj)) (s:Shared) (σ:St) (H:Hp) (Q:Option Int -> Hp -> Prop),Ag X pins σ H s -> t σ H Q ->
  wpAny (model X.prog X.w) X.A (evalPart e X.env) (fun u s'=>∃ o H',Ag X pins σ H' s' /\ IsPart u o /\ Q o H') X.xe s
def bn:TO:=fun _ H Q=>Q none H
def n0 (t:TE):TO:=fun σ H Q=>t σ H fun x H1=>∃ i,x = .int i /\ Q (some i) H1
section
variable {X:Cx} {e:Expr} {te:TE} {lo hi:Option Expr} {tl th:TO} {pos p2:Pos}
theorem K4:PO X none bn:=by
 intro pins s σ H Q I h
 rw [evalPart_none]
 exact wpAny_pure ⟨none,H,I,.none,h⟩
theorem Ej (h:PE X e te):PO X (some e) (n0 te):=by
 intro pins s σ H Q I hw
 rw [evalPart_some]
 refine Ci (h pins s σ H _ I hw) fun u s1 bA=>?_
 obtain ⟨x,H1,I1,r1,q1⟩ := bA
 obtain ⟨i,rfl,q⟩ := q1
 obtain ⟨t,rfl⟩ := r1
 exact ⟨some i,H1,I1,.int i t,q⟩
def oh (X:Cx) (r:V -> Option Int -> Option Int -> Hp -> VK -> Prop):Prop :=
 ∀ (pins:List (Addr × Obj)) (s:Shared) (σ:St) (H:Hp) (x:V) (v vl vu:Value) (lo hi:Option Int) (sl:Addr) (Q:VK),Ag X pins σ H s -> Aw x v -> s.heap.IsSliceOf sl vl vu .none -> IsPart vl lo -> IsPart vu hi -> r x lo hi H Q ->
  ∃ T id,typeLookup (.type T) "__getitem__" = pure (some (.builtin id)) /\ s.TypeIs v T /\ wpAny (model X.prog X.w) X.A (getItem v (.ref sl)) (EP X pins σ Q) X.xe s
def uf (r:V -> Option Int -> Option Int -> Hp -> VK -> Prop) (te:TE) (tl th:TO):TE:=fun σ H Q=>te σ H fun x H1=>tl σ H1 fun l H2=>th σ H2 fun u H3=>r x l u H3 Q
theorem F0 {r:V -> Option Int -> Option Int -> Hp -> VK -> Prop} (hr:oh X r) (he:PE X e te) (hl:PO X lo tl) (hu:PO X hi th):PE X (.Subscript e (.Slice lo hi none p2) pos) (uf r te tl th):=by
 intro pins s σ H Q I h
 refine Subscript_ (Ci (he pins s σ H _ I h) fun v s1 bA=>?_)
 obtain ⟨x,H1,I1,r1,q1⟩ := bA
 refine wpAny_Slice (Ci (hl pins s1 σ H1 _ I1 q1) fun vl s2 ⟨l,H2,I2,pl,q2⟩=>Ci (hu pins s2 σ H2 _ I2 q2) fun vu s3 bA=>?_)
 obtain ⟨u,H3,I3,pu,q3⟩ := bA
 rw [evalPart_none]
 refine wpAny_pure ?_
 have I4:Ag X pins σ H3 { s3 with heap:=s3.heap.push { cls := .type "slice",data := .fields #[vl,vu,.none] } }:=I3.kept (t':=s3.toks) fun b ob q=>Heap.get?_push_of_some _ q
 obtain ⟨T,id,hT,ht,hg⟩ := hr pins { s3 with heap:=s3.heap.push { cls := .type "slice",data := .fields #[vl,vu,.none] } } σ H3 x v vl vu l u s3.heap.objs.size Q I4 r1 (Heap.IsSliceOf.new ..) pl pu q3
 show wpAny (model X.prog X.w) X.A (subscriptTail e (.Slice lo hi none p2) v (.ref s3.heap.objs.size)) (EP X pins σ Q) X.xe { s3 with heap:=s3.heap.push { cls := .type "slice",data := .fields #[vl,vu,.none] } }
 exact tail_any (ops:=[.ref s3.heap.objs.size,v]) ht hT hg (by with_unfolding_all rfl)
def Iv (xs:List V) (lo hi:Option Int):List V:=(xs.drop (HT.gN xs.length 0 lo)).take (HT.gN xs.length xs.length hi - HT.gN xs.length 0 lo)
theorem Qb (xs:List V) (lo hi:Option Int):(Iv xs lo hi).length <= xs.length:=by
 unfold Iv
 rw [List.length_take,List.length_drop]
 omega
def lf (K:PySem.W.Frag):R2:=fun x y H Q=>∃ a b xs ys,x = .ref a /\ y = .ref b /\ Cj K H a xs /\ Cj K H b ys /\ xs ≠ [] /\ xs.length + ys.length <= sizeLine /\
 (ys = [] -> Q (.ref a) H) /\ (ys ≠ [] -> ∀ p,H p = none -> Q (.ref p) (upd H p (.tup (xs ++ ys))))
theorem Az.iB {xs:List V} {us:List Value} (r:Az xs us):us = [] ↔ xs = []:=by
 cases r with
 | nil=>simp
 | cons _ _=>simp
theorem am:Hk X (binaryOp .Add) (lf X.K):=by
 intro pins s σ H x y v u Q I rx ry h
 obtain ⟨a,b,xs,ys,rfl,rfl,ha,hb,hx,hz,q1,q2⟩ := h
 cases rx
 cases ry
 obtain ⟨aL,r1,p1,_⟩ := I.tuple ha
 obtain ⟨fE,r2,p2,_⟩ := I.tuple hb
 refine HT.rH p1 p2 (fun z=>hx (r1.iB.mp z)) (fun z=>⟨.ref a,H,I,rfl,q1 (r2.iB.mp z)⟩) (fun z=>?_) (by rw [<- r1.length,<- r2.length]; exact hz)
 refine ⟨.ref s.heap.objs.size,_,I.laid (t':=s.toks) (o := .tup (xs ++ ys)) (fun b ob q=>Heap.get?_push_of_some _ q) (Nat.le_refl _) ?_,rfl,q2 (fun w=>z (r2.iB.mpr w)) _ (I.aP.fresh (Nat.le_refl _))⟩
 exact ⟨⟨by rw [List.length_append]; exact hz,⟨_,Heap.get?_push_size _ rfl,rfl⟩⟩,_,r1.append r2,IsTup.new _ _⟩
end
def Z8 (n:Nat) (i:Int):Option Nat:=if 0 <= i then (if i < n then some i.toNat else none) else if -(n:Int) <= i then some (i + n).toNat else none
def Q8 {α:Type} (xs:List α) (i:Int):Option α:=(Z8 xs.length i).bind fun j=>xs[j]?
theorem Uq {n:Nat} {i:Int} {j:Nat} (h:Z8 n i = some j):seqIndex? i n = some j /\ j < n /\ -(n:Int) <= i /\ i < n:=by
 unfold Z8 at h
 by_cases h0:0 <= i
 ·rw [if_pos h0] at h
  by_cases h1:i < n
  ·rw [if_pos h1] at h
   have e:i.toNat = j:=Option.some.inj h
   exact ⟨by rw [seqIndex_of h0 h1,e],by omega,by omega,h1⟩
  ·rw [if_neg h1] at h; cases h
 ·rw [if_neg h0] at h
  by_cases h1 : -(n:Int) <= i
  ·rw [if_pos h1] at h
   have e:(i + n).toNat = j:=Option.some.inj h
   exact ⟨by rw [seqIndex_neg (by omega) h1,e],by omega,h1,by omega⟩
  ·rw [if_neg h1] at h; cases h
theorem U7 {α:Type} {xs:List α} {i:Int} {v:α} (h:Q8 xs i = some v):∃ j,seqIndex? i xs.length = some j /\ xs[j]? = some v /\ j < xs.length /\ -(xs.length:Int) <= i /\ i < xs.length:=by
 unfold Q8 at h
 cases e:Z8 xs.length i with
 | none=>rw [e] at h; cases h
 | some j =>
  rw [e] at h
  obtain ⟨h1,h2,h3,h4⟩ := Uq e
  exact ⟨j,h1,h,h2,h3,h4⟩
theorem Oj {α:Type} {xs:List α} {j:Nat} {v:α} (h:xs[j]? = some v):Q8 xs (j:Int) = some v:=by
 have hj:j < xs.length:=(List.getElem?_eq_some_iff.mp h).1
 have e:Z8 xs.length (j:Int) = some j:=by
  unfold Z8
  rw [if_pos (by omega),if_pos (by omega)]; simp
 unfold Q8; rw [e]; exact h
def Zf (b:Expr):Prop := ∀ o i,subscripted b false o i = operate [o,i] (getItem o i)
def nj (X:Cx) (r:R2):Prop :=
 ∀ (value slice:Expr) (pins:List (Addr × Obj)) (s:Shared) (σ:St) (H:Hp) (x y:V) (v u:Value) (Q:VK),Ag X pins σ H s -> Aw x v -> Aw y u -> r x y H Q ->
  subscripted slice false v u = operate [v,u] (getItem v u) -> wpAny (model X.prog X.w) X.A (subscriptTail value slice v u) (EP X pins σ Q) X.xe s
def og (X:Cx) (id:String) (r:V -> List V -> Hp -> VK -> Prop):Prop :=
 ∀ (pins:List (Addr × Obj)) (s:Shared) (σ:St) (H:Hp) (x:V) (xs:List V) (v:Value) (us:List Value) (Q:VK),Ag X pins σ H s -> Aw x v -> Az xs us -> r x xs H Q ->
  wpAny (model X.prog X.w) X.A (call (.builtin id) (v :: us)) (EP X pins σ Q) X.xe s
section
variable {X:Cx} {a b:Expr} {ta tb:TE} {pos:Pos}
theorem Bg {r:R2} (hr:nj X r) (ha:PE X a ta) (hb:PE X b tb) (hs:Zf b):PE X (.Subscript a b pos) (nv r ta tb):=by
 intro pins s σ H Q I h
 exact Subscript_ (dl ha hb I h fun v u s2 x y H2 I2 rx ry q=>hr a b pins s2 σ H2 x y v u Q I2 rx ry q (hs _ _))
def ph (K:PySem.W.Frag):R2:=fun x y H Q=>∃ p xs i v,x = .ref p /\ y = .int i /\ B9 K H p xs /\ Q8 xs i = some v /\ Q v H
def pj (K:PySem.W.Frag):R2:=fun x y H Q=>∃ p xs i v,x = .ref p /\ y = .int i /\ Cj K H p xs /\ Q8 xs i = some v /\ Q v H
theorem aa:nj X (ph X.K):=by
 intro value slice pins s σ H x y v u Q I rx ry h hs
 obtain ⟨p,xs,i,z,rfl,rfl,hq,he,q⟩ := h
 cases rx
 obtain ⟨t,rfl⟩ := ry
 obtain ⟨aL,r,pl,hz⟩ := I.list hq
 obtain ⟨j,h1,h2,h3,h4,h5⟩ := U7 he
 obtain ⟨w,ew,fY⟩ := r.get h2
 have hl:=r.length
 have hn:=He
 have fin:EP X pins σ Q w s:=⟨z,H,I,fY,q⟩
 by_cases h0:0 <= i
 ·have hj : i.toNat = j := by
   rw [seqIndex_of h0 h5] at h1
   exact Option.some.inj h1
  exact item_listR pl.isList h0 (by omega) (by rw [hj]; simpa using ew) fin hs
 ·have hj : (i + (aL.toArray.size : Int)).toNat = j := by
   rw [seqIndex_neg (by omega) h4] at h1
   rw [List.size_toArray,<- hl]
   exact Option.some.inj h1
  exact subscriptTail_builtinR (x:=w) pl.isList.typeIs slot_list_getitem.lookup
   (wpAny_getItem_list_neg (Q:=fun r s'=>r = w /\ EP X pins σ Q r s') pl.isList (by omega) (by rw [List.size_toArray] <;> omega) (by omega) (by rw [hj]; simpa using ew) ⟨rfl,fin⟩) hs
theorem f8:nj X (pj X.K):=by
 intro value slice pins s σ H x y v u Q I rx ry h hs
 obtain ⟨p,xs,i,z,rfl,rfl,hq,he,q⟩ := h
 cases rx
 obtain ⟨t,rfl⟩ := ry
 obtain ⟨aL,r,pl,hz⟩ := I.tuple hq
 obtain ⟨j,h1,h2,h3,h4,h5⟩ := U7 he
 obtain ⟨w,ew,fY⟩ := r.get h2
 have hl:=r.length
 have hn:=He
 have fin:EP X pins σ Q w s:=⟨z,H,I,fY,q⟩
 exact subscriptTail_builtinR (x:=w) pl.typeIs slot_tuple_getitem.lookup
  (getItem_tuple (j:=j) (Q:=fun r s'=>r = w /\ EP X pins σ Q r s') pl (by omega) (by omega) (by rw [List.size_toArray,<- hl]; exact h1) (by simpa using ew) ⟨rfl,fin⟩) hs
theorem Si (aL:List Value) (n j:Nat) (u:Value):Obj.mapSeq (·.setIfInBounds j u) { cls := .type "list",data := .seq aL.toArray n } = { cls := .type "list",data := .seq (aL.set j u).toArray n }:=by
 simp [Obj.mapSeq]
theorem Ag.lst {pins : List (Addr × Obj)} {σ : St} {H : Hp} {s : Shared} {p : Addr} {xs : List V} (I : Ag X pins σ H s) (h : H p = some (.lst xs)) :
  ∃ (aL:List Value) (n:Nat),Az xs aL /\ s.heap.get? p = some { cls := .type "list",data := .seq aL.toArray n } /\ xs.length <= sizeLine:=by
 obtain ⟨z,aL,n,r,e⟩ := I.aP p _ h
 exact ⟨aL,n,r,e,z⟩
theorem Ag.vI {pins : List (Addr × Obj)} {σ : St} {H : Hp} {s : Shared} {p : Addr} {xs ys : List V} {aL its' : List Value} {n n' : Nat} {f : Obj -> Obj} (I : Ag X pins σ H s) (h : H p = some (.lst xs))
  (ho:s.heap.get? p = some { cls := .type "list",data := .seq aL.toArray n }) (hf:f { cls := .type "list",data := .seq aL.toArray n } = { cls := .type "list",data := .seq its'.toArray n' }) (r:Az ys its') (hz:ys.length <= sizeLine) (t:Nat) :
  Ag X pins σ (upd H p (.lst ys)) { s with heap:=s.heap.update p f,toks:=t }:=by
 have e:(s.heap.update p f).get? p = some { cls := .type "list",data := .seq its'.toArray n' }:=by
  rw [Heap.get?_update_self f ho (by rw [hf] <;> rfl),hf]
 refine I.write (x:=p) (e:=p) (by rw [h]; trivial) (.inl rfl) (fun b u hb q=>(Heap.get?_update_other _ _ (Ne.symm hb)).trans q) ⟨_,e⟩ ?_
 exact ⟨hz,its',n',r,e⟩
def ln:V -> V -> V -> Hp -> (Hp -> Prop) -> Prop:=fun o i v H Q=>∃ p xs k j,o = .ref p /\ i = .int k /\ H p = some (.lst xs) /\ Z8 xs.length k = some j /\ Q (upd H p (.lst (xs.set j v)))
theorem Ls:ju X ln:=by
 intro pins s σ H o i v ov iv u Q I ro ri rv h
 obtain ⟨p,xs,k,j,rfl,rfl,hp,hj,q⟩ := h
 cases ro
 obtain ⟨t,rfl⟩ := ri
 obtain ⟨aL,n,r,ho,hz⟩ := I.lst hp
 obtain ⟨h1,h2,h3,h4⟩ := Uq hj
 have hl:=r.length
 have hn:=He
 have I':Ag X pins σ (upd H p (.lst (xs.set j v))) { s with heap:=s.heap.update p (Obj.mapSeq (·.setIfInBounds j u)) } :=
  I.vI hp ho (Si aL n j u) (r.set rv j) (by rw [List.length_set]; exact hz) s.toks
 by_cases h0:0 <= k
 ·have hk : k.toNat = j := by
   rw [seqIndex_of h0 h4] at h1
   exact Option.some.inj h1
  exact PySem.W.ki_setAt ho h0 (by omega) (by rw [List.size_toArray,<- hl]; exact h4) (by rw [hk]; exact ⟨_,I',q⟩)
 ·have hk : (k + (aL.toArray.size : Int)).toNat = j := by
   rw [seqIndex_neg (by omega) h3] at h1
   rw [List.size_toArray,<- hl]
   exact Option.some.inj h1
  exact PySem.W.ki_setBack ho (by omega) (by rw [List.size_toArray,<- hl]; exact h3) (by omega) (by rw [hk]; exact ⟨_,I',q⟩)
theorem Ph (lo hi:Option Int) (n:Nat):(sliceBounds lo hi none n).1 = ((HT.gN n 0 lo:Nat):Int) /\ (sliceBounds lo hi none n).2.1 = ((HT.gN n n hi:Nat):Int) /\ (sliceBounds lo hi none n).2.2 = 1:=by
 refine ⟨?_,?_,rfl⟩
 ·cases lo with
  | none=>simp [sliceBounds,HT.gN]
  | some i =>
   simp only [sliceBounds,HT.gN,Option.getD_none,show (1:Int) > 0 by decide,if_true]
   by_cases h:i < 0
   ·simp only [h,if_true] <;> omega
   ·simp only [h,if_false] <;> omega
 ·cases hi with
  | none=>simp [sliceBounds,HT.gN]
  | some i =>
   simp only [sliceBounds,HT.gN,Option.getD_none,show (1:Int) > 0 by decide,if_true]
   by_cases h:i < 0
   ·simp only [h,if_true] <;> omega
   ·simp only [h,if_false] <;> omega
theorem Mr (aL:List Value) (lo hi:Option Int):slicePick aL.toArray lo hi none = ((aL.drop (HT.gN aL.length 0 lo)).take (HT.gN aL.length aL.length hi - HT.gN aL.length 0 lo)).toArray:=by
 obtain ⟨h1,h2,h3⟩ := Ph lo hi aL.toArray.size
 unfold slicePick
 rw [h1,h2,h3]
 simp only [sliceRange_one,pick_run,List.size_toArray] <;> rfl
def lp (K:PySem.W.Frag):V -> Option Int -> Option Int -> Hp -> VK -> Prop:=fun x lo hi H Q=>∃ a xs,x = .ref a /\ B9 K H a xs /\ ∀ p,H p = none -> Q (.ref p) (upd H p (.lst (Iv xs lo hi)))
theorem bh:oh X (lp X.K):=by
 intro pins s σ H x v vl vu lo hi sl Q I rx hs pl pu h
 obtain ⟨a,xs,rfl,hx,q⟩ := h
 cases rx
 obtain ⟨aL,r,ht,hz⟩ := I.list hx
 have hlen:=r.length
 refine ⟨"list",_,slot_list_getitem.lookup,ht.isList.typeIs,?_⟩
 refine wpAny_getItem_list_slice ht.isList hs pl pu .none (by simp) ?_ (by rw [List.size_toArray] <;> omega)
 rw [Mr,<- hlen]
 refine ⟨.ref s.heap.objs.size,_,I.laid (t':=s.toks) (o := .lst (Iv xs lo hi)) (fun b ob q=>Heap.get?_push_of_some _ q) (Nat.le_refl _) ?_,rfl,q _ (I.aP.fresh (Nat.le_refl _))⟩
 exact ⟨Nat.le_trans (Qb xs lo hi) hz,_,0,(r.drop (HT.gN xs.length 0 lo)).take (HT.gN xs.length xs.length hi - HT.gN xs.length 0 lo),Heap.get?_push_size _ rfl⟩
def Fm:V -> Bool
 | .aW=>true
 | .bl _=>true
 | .int _=>true
 | .str _=>true
 | _=>false
def Zt:V -> V -> Bool
 | .aW,.aW=>true
 | .bl a,.bl b=>a == b
 | .bl a,.int b=>(if a then 1 else 0) == b
 | .int a,.bl b=>a == (if b then 1 else 0)
 | .int a,.int b=>a == b
 | .str a,.str b=>a == b
 | _,_=>false
theorem ee {A:Around} {s:Shared} {y x:V} {u v:Value} (ry:Aw y u) (rx:Aw x v) (fy:Fm y = true) (fx:Fm x = true):SeqAt.EqAt A s u v (Zt y x):=by
 cases y with
 | aW =>
  cases ry
  cases x with
  | aW=>cases rx; exact SeqAt.EqAt.same _
  | bl b=>cases rx; exact SeqAt.EqAt.none_bool b
  | int b=>obtain ⟨t,rfl⟩ := rx; exact SeqAt.EqAt.none_int b t
  | str b=>obtain ⟨t,rfl⟩ := rx; exact SeqAt.EqAt.none_str b t
  | _=>exact absurd (show false = true from fx) Bool.false_ne_true
 | bl a =>
  cases ry
  cases x with
  | aW=>cases rx; exact SeqAt.EqAt.bool_none a
  | bl b=>cases rx; exact SeqAt.EqAt.bool_bool a b
  | int b=>obtain ⟨t,rfl⟩ := rx; exact SeqAt.EqAt.bool_int a b t
  | str b=>obtain ⟨t,rfl⟩ := rx; exact SeqAt.EqAt.bool_str a b t
  | _=>exact absurd (show false = true from fx) Bool.false_ne_true
 | int a =>
  obtain ⟨t',rfl⟩ := ry
  cases x with
  | aW=>cases rx; exact SeqAt.EqAt.int_none a t'
  | bl b=>cases rx; exact SeqAt.EqAt.int_bool a t' b
  | int b=>obtain ⟨t,rfl⟩ := rx; exact SeqAt.EqAt.int_int a t' b t
  | str b=>obtain ⟨t,rfl⟩ := rx; exact SeqAt.EqAt.int_str a t' b t
  | _=>exact absurd (show false = true from fx) Bool.false_ne_true
 | str a =>
  obtain ⟨t',rfl⟩ := ry
  cases x with
  | aW=>cases rx; exact SeqAt.EqAt.str_none a t'
  | bl b=>cases rx; exact SeqAt.EqAt.str_bool a t' b
  | int b=>obtain ⟨t,rfl⟩ := rx; exact SeqAt.EqAt.str_int a t' b t
  | str b=>obtain ⟨t,rfl⟩ := rx; exact SeqAt.EqAt.str_str a t' b t
  | _=>exact absurd (show false = true from fx) Bool.false_ne_true
 | _=>exact absurd (show false = true from fy) Bool.false_ne_true
def S6 (x:V) (u:Value):Bool:=match u with
 | .none=>Zt .aW x
 | .bool b=>Zt (.bl b) x
 | .int i _=>Zt (.int i) x
 | .str z _=>Zt (.str z) x
 | _=>false
theorem X5 {x y:V} {u:Value} (r:Aw y u) (f:Fm y = true):S6 x u = Zt y x:=by
 cases y with
 | aW=>cases r; rfl
 | bl b=>cases r; rfl
 | int i=>obtain ⟨t,rfl⟩ := r; rfl
 | str z=>obtain ⟨t,rfl⟩ := r; rfl
 | _=>exact absurd (show false = true from f) Bool.false_ne_true
theorem Ju {x:V} {xs:List V} {us:List Value} (h:Az xs us) (f:xs.all Fm = true):us.any (S6 x) = xs.any fun y=>Zt y x:=by
 induction h with
 | nil=>rfl
 | cons r t ih =>
  rw [List.all_cons,Bool.and_eq_true] at f
  rw [List.any_cons,List.any_cons,X5 r f.1,ih f.2]
theorem Ia {A:Around} {s:Shared} {x:V} {v:Value} (rx:Aw x v) (fx:Fm x = true) {xs:List V} {us:List Value} (h:Az xs us) (f:xs.all Fm = true):∀ u ∈ us,SeqAt.EqAt A s u v (S6 x u):=by
 induction h with
 | nil =>
  intro u hu
  cases hu
 | cons r t ih =>
  intro u' hu
  rw [List.all_cons,Bool.and_eq_true] at f
  rcases List.mem_cons.mp hu with rfl | hu
  ·rw [X5 r f.1]
   exact ee r rx f.1 fx
  ·exact ih f.2 u' hu
def kg (x:V) (xs:List V):Bool:=xs.any fun y=>Zt y x
def nt (K:PySem.W.Frag) (neg:Bool):R2:=fun x y H Q=>∃ p xs,y = .ref p /\ (B9 K H p xs \/ Cj K H p xs) /\ Fm x = true /\ xs.all Fm = true /\ Q (.bl (if neg then !kg x xs else kg x xs)) H
theorem W7:Hk X (compareOp .In) (nt X.K false):=by
 intro pins s σ H x y v u Q I rx ry h
 obtain ⟨p,xs,rfl,hq,fx,fs,q⟩ := h
 cases ry
 rcases hq with hq | hq
 ·obtain ⟨aL,r,pl,hz⟩ := I.list hq
  refine SeqAt.in_listAt (S6 x) pl.isList (fun w hw=>Ia rx fx r fs w (by simpa using hw)) ⟨.bl _,H,I,rfl,?_⟩
  rw [show aL.toArray.any (S6 x) = aL.any (S6 x) by simp,Ju r fs]
  exact q
 ·obtain ⟨aL,r,pl,hz⟩ := I.tuple hq
  refine SeqAt.in_tupleAt (S6 x) pl (fun w hw=>Ia rx fx r fs w (by simpa using hw)) ⟨.bl _,H,I,rfl,?_⟩
  rw [show aL.toArray.any (S6 x) = aL.any (S6 x) by simp,Ju r fs]
  exact q
theorem P4:Hk X (compareOp .NotIn) (nt X.K true):=by
 intro pins s σ H x y v u Q I rx ry h
 obtain ⟨p,xs,rfl,hq,fx,fs,q⟩ := h
 cases ry
 rcases hq with hq | hq
 ·obtain ⟨aL,r,pl,hz⟩ := I.list hq
  refine SeqAt.notIn_listAt (S6 x) pl.isList (fun w hw=>Ia rx fx r fs w (by simpa using hw)) ⟨.bl _,H,I,rfl,?_⟩
  rw [show aL.toArray.any (S6 x) = aL.any (S6 x) by simp,Ju r fs]
  exact q
 ·obtain ⟨aL,r,pl,hz⟩ := I.tuple hq
  refine SeqAt.notIn_tupleAt (S6 x) pl (fun w hw=>Ia rx fx r fs w (by simpa using hw)) ⟨.bl _,H,I,rfl,?_⟩
  rw [show aL.toArray.any (S6 x) = aL.any (S6 x) by simp,Ju r fs]
  exact q
theorem Om:Dt X (.builtin "len") (fun xs H Q=>∃ p ys,xs = [.ref p] /\ (B9 X.K H p ys \/ Cj X.K H p ys) /\ Q (.int ys.length) H):=by
 intro pins s σ H xs us Q I r h
 obtain ⟨p,ys,rfl,hq,q⟩ := h
 obtain ⟨u,rfl,rx⟩ := Rm r
 cases rx
 have hn:=He
 rcases hq with hq | hq
 ·obtain ⟨aL,r',pl,hz⟩ := I.list hq
  have hlen:=r'.length
  exact Calls.call_len_list pl.isList (by simp only [List.size_toArray] <;> omega) ⟨.int ys.length,H,I.tok _,⟨s.toks + 1,by rw [List.size_toArray,hlen]⟩,q⟩
 ·obtain ⟨aL,r',pl,hz⟩ := I.tuple hq
  have hlen:=r'.length
  exact len_tuple pl (by simp only [List.size_toArray] <;> omega) ⟨.int ys.length,H,I.tok _,⟨s.toks + 1,by rw [List.size_toArray,hlen]⟩,q⟩
theorem Hr:Dt X (.type "list") (fun xs H Q=>∃ p ys,xs = [.ref p] /\ (B9 X.K H p ys \/ Cj X.K H p ys) /\ ∀ l,H l = none -> Q (.ref l) (upd H l (.lst ys))):=by
 intro pins s σ H xs us Q I r h
 obtain ⟨p,ys,rfl,hq,q⟩ := h
 obtain ⟨u,rfl,rx⟩ := Rm r
 cases rx
 have fin : ∀ (aL : List Value), Az ys aL -> ys.length <= sizeLine -> ∀ (h' : Heap) (c' : Nat), (∀ b o', s.heap.get? b = some o' -> h'.get? b = some o') ->
   h'.get? s.heap.objs.size = some { cls := .type "list",dict:=none,data := .seq aL.toArray c',slots := #[] } -> EP X pins σ Q (.ref s.heap.objs.size) { s with heap:=h' }:=fun aL r' hz h' c' kp e =>
  ⟨.ref s.heap.objs.size,_,I.laid (t':=s.toks) kp (Nat.le_refl _) (show Bn X.prog X.w _ h' _ (.lst ys) from ⟨hz,aL,c',r',e⟩),rfl,q _ (I.aP.fresh (Nat.le_refl _))⟩
 rcases hq with hq | hq
 ·obtain ⟨aL,r',pl,hz⟩ := I.list hq
  have hlen:=r'.length
  obtain ⟨o,ho,hc,n,hd⟩ := pl.isList
  exact call_list_seq p (.inl rfl) ho hc hd (fun h' c' kp e=>fin aL r' hz h' c' kp e) (by simp only [List.size_toArray] <;> omega)
 ·obtain ⟨aL,r',pl,hz⟩ := I.tuple hq
  have hlen:=r'.length
  obtain ⟨o,ho,hc,n,hd⟩ := pl
  exact call_list_seq p (.inr rfl) ho hc hd (fun h' c' kp e=>fin aL r' hz h' c' kp e) (by simp only [List.size_toArray] <;> omega)
theorem Md:Dt X (.type "tuple") (fun xs H Q=>∃ p ys,xs = [.ref p] /\ ((B9 X.K H p ys /\ ∀ l,H l = none -> Q (.ref l) (upd H l (.tup ys))) \/ (Cj X.K H p ys /\ Q (.ref p) H))):=by
 intro pins s σ H xs us Q I r h
 obtain ⟨p,ys,rfl,h⟩ := h
 obtain ⟨u,rfl,rx⟩ := Rm r
 cases rx
 rcases h with ⟨hq,q⟩ | ⟨hq,q⟩
 ·obtain ⟨aL,r',pl,hz⟩ := I.list hq
  have hlen:=r'.length
  refine call_tuple_list pl.isList (fun h' kp=>?_) (by simp only [List.size_toArray] <;> omega)
  have I1:Ag X pins σ H { s with heap:=h' }:=I.kept (t':=s.toks) kp
  have I2:Ag X pins σ (upd H h'.objs.size (.tup ys)) { s with heap:=h'.push { cls := .type "tuple",data := .seq aL.toArray } } :=
   I1.laid (t':=s.toks) (fun b o e=>Heap.get?_push_of_some _ e) (Nat.le_refl _) (show Bn X.prog X.w _ _ _ (.tup ys) from ⟨⟨hz,⟨_,Heap.get?_push_size _ rfl,rfl⟩⟩,aL,r',IsTup.new _ _⟩)
  exact ⟨.ref h'.objs.size,_,I2,rfl,q _ (I1.aP.fresh (Nat.le_refl _))⟩
 ·obtain ⟨aL,r',pl,hz⟩ := I.tuple hq
  exact call_tuple_same pl ⟨.ref p,H,I,rfl,q⟩
def qq (K:PySem.W.Frag) (T:String) (x:V) (H:Hp):Prop:=match x with
 | .str _=>T = "str"
 | .int _=>T = "int"
 | .ref p => (T = "list" /\ ∃ xs, B9 K H p xs) \/ (T = "tuple" /\ ((∃ o, K.lookup p = some o /\ o.cls = .type "tuple" /\ o.dict = none) \/ ∃ xs, H p = some (.tup xs))) \/
   (T = "dict" /\ ((∃ kvs,H p = some (.dK kvs)) \/ ∃ kvs,H p = some (.dT kvs))) \/ (T = "set" /\ ∃ S n,H p = some (.set S n))
 | _=>False
theorem Yw {pins : List (Addr × Obj)} {σ : St} {H : Hp} {s : Shared} {T : String} {x : V} {v : Value} (I : Ag X pins σ H s) (r : Aw x v) (ty : qq X.K T x H) :
  s.TypeIs v T /\ ∀ a,v = .ref a -> ∃ ob,s.heap.get? a = some ob /\ ob.dict = none:=by
 cases x with
 | str z =>
  obtain ⟨t,rfl⟩ := r
  cases (show T = "str" from ty)
  exact ⟨typeIs_str s z t,fun _ e=>nomatch e⟩
 | int i =>
  obtain ⟨t,rfl⟩ := r
  cases (show T = "int" from ty)
  exact ⟨typeIs_int s i t,fun _ e=>nomatch e⟩
 | ref p =>
  cases r
  rcases ty with ⟨rfl,xs,hq⟩ | ⟨rfl,⟨o,hk,hc,hd⟩ | ⟨ys,hk⟩⟩ | ⟨rfl,hk⟩ | ⟨rfl,S,n,hk⟩
  ·obtain ⟨aL,_,pl,_⟩ := I.list hq
   refine ⟨pl.isList.typeIs,fun a e=>?_⟩
   cases e
   obtain ⟨o,n,e,c,hd,_⟩ := pl
   exact ⟨o,e,hd⟩
  ·refine ⟨⟨o,I.fW p o hk,hc⟩,fun a e=>?_⟩
   cases e
   exact ⟨o,I.fW _ o hk,hd⟩
  ·obtain ⟨⟨_,o2,e2,d2⟩,_,_,⟨o1,e1,c1,_⟩⟩ := (show Bn X.prog X.w H s.heap p (.tup ys) from I.aP p _ hk)
   refine ⟨⟨o1,e1,c1⟩,fun a ea=>?_⟩
   cases ea
   exact ⟨o2,e2,d2⟩
  ·have z : ∃ o, s.heap.get? p = some o /\ o.ExactDict := by
    rcases hk with ⟨kvs,hk⟩ | ⟨kvs,hk⟩
    ·obtain ⟨_,_,_,_,o,_,_,e,ex,_⟩ := I.aP p _ hk
     exact ⟨o,e,ex⟩
    ·obtain ⟨_,_,_,_,o,_,_,e,ex,_⟩ := I.aP p _ hk
     exact ⟨o,e,ex⟩
   obtain ⟨o,e,ex⟩ := z
   refine ⟨⟨o,e,ex.1⟩,fun a e2=>?_⟩
   cases e2
   exact ⟨o,e,ex.2.1⟩
  ·obtain ⟨o,_,_,_,e,ex,_⟩ := I.aP p _ hk
   refine ⟨⟨o,e,ex.1⟩,fun a e2=>?_⟩
   cases e2
   exact ⟨o,e,ex.2.1⟩
 | _=>exact False.elim ty
def iw (K:PySem.W.Frag) (T:String) (r:V -> List V -> Hp -> VK -> Prop) (to:TE):TE:=fun σ H Q=>to σ H fun x H1=>qq K T x H1 /\ r x [] H1 Q
def Ts (K:PySem.W.Frag) (T:String) (r:V -> List V -> Hp -> VK -> Prop) (to:TE) (t:TA):TE:=fun σ H Q=>to σ H fun x H1=>qq K T x H1 /\ t σ H1 fun xs H2=>r x xs H2 Q
variable {o e:Expr} {es:List Expr} {to:TE} {t:TA} {name:Str} {apos aY:Pos} {T id:String} {r:V -> List V -> Hp -> VK -> Prop}
theorem So (pa : PlainAttrs T) (slot : Slot T name id) (NS : typeOf (.builtin id) = pure (.type "method_descriptor")) (hm : og X id r) (ho : PE X o to)
  (iZ:attributeBase o name X.env (eval o X.env) = eval o X.env:=by rfl) (jA:(apos.endLine == aY.line) = true:=by rfl):PE X (.Call (.Attribute o name apos) [] [] aY) (iw X.K T r to):=by
 intro pins s σ H Q I h
 refine wpAny_Call_method0_late iZ jA (Ci (ho pins s σ H _ I h) fun v s1 bA=>?_)
 obtain ⟨x,H1,I1,r1,ty,q1⟩ := bA
 obtain ⟨h1,h2⟩ := Yw I1 r1 ty
 exact ⟨T,id,pa,slot,NS,h1,h2,Calls.callWith_builtin rfl (PySem.evalArgs_none (hm pins s1 σ H1 x [] v [] Q I1 r1 .nil q1))⟩
theorem Eh (pa : PlainAttrs T) (slot : Slot T name id) (NS : typeOf (.builtin id) = pure (.type "method_descriptor")) (hm : og X id r) (ho : PE X o to) (ha : PA X (e :: es) t)
  (iZ:attributeBase o name X.env (eval o X.env) = eval o X.env:=by rfl)
  (DK:((backTo aY (starEach (e :: es) X.env)).all (fun x=>!x.1) && (backToKw aY (keywordEach [] X.env)).all (fun x=>x.1.isSome)
   && decide ((e :: es).length + ([]:List Keyword).length + (if ([]:List Keyword).isEmpty then 0 else 1) < 30)) = true:=by rfl)
  (jA:(apos.endLine == aY.line) = true:=by rfl) (hs:starEach (e :: es) X.env = (false,eval e X.env) :: starEach es X.env:=by rfl) (vJ:(backTo aY (starEach es X.env)).any (·.1) = false:=by rfl) :
  PE X (.Call (.Attribute o name apos) (e :: es) [] aY) (Ts X.K T r to t):=by
 intro pins s σ H Q I h
 refine wpAny_Call_method_late iZ DK jA rfl (Ci (ho pins s σ H _ I h) fun v s1 bA=>?_)
 obtain ⟨x,H1,I1,r1,ty,q1⟩ := bA
 obtain ⟨h1,h2⟩ := Yw I1 r1 ty
 refine ⟨T,id,pa,slot,NS,h1,h2,?_⟩
 have hA:=ha aY pins s1 σ H1 _ I1 q1
 rw [hs] at hA ⊢
 refine Calls.callWith_builtin (by show (false || (backTo aY (starEach es X.env)).any (·.1)) = false; rw [vJ] <;> rfl) (Calls.evalArgs_plain ?_)
 exact Ci hA fun us s2 ⟨vs,H2,I2,r2,q2⟩=>hm pins s2 σ H2 x vs v us Q I2 r1 r2 q2
/- xs.append(e),list.index on a DL tuple .. are og facts of 06m -/
end
def dc (X:Cx) (id:String) (r:V -> List V -> Hp -> VK -> Prop):Prop :=
 ∀ (pins:List (Addr × Obj)) (s:Shared) (σ:St) (H:Hp) (x:V) (xs:List V) (v:Value) (us:List Value) (Q:VK),Ag X pins σ H s -> Aw x v -> Az xs us -> r x xs H Q ->
  wpAny (model X.prog X.w) X.A (call (.builtin id) (v :: us)) (EP X pins σ Q) X.xe s
theorem Az.one {x:V} {us:List Value} (h:Az [x] us):∃ u,us = [u] /\ Aw x u:=by
 cases h with
 | cons r t =>
  cases t
  exact ⟨_,rfl,r⟩
theorem Az.two {x y:V} {us:List Value} (h:Az [x,y] us):∃ u v,us = [u,v] /\ Aw x u /\ Aw y v:=by
 cases h with
 | cons r t =>
  obtain ⟨v,rfl,q⟩ := Az.one t
  exact ⟨_,v,rfl,r,q⟩
theorem Az.zero:∀ {us:List Value},Az [] us -> us = []
 | _,.nil=>rfl
theorem Az.dropLast {xs:List V} {us:List Value} (h:Az xs us):Az xs.dropLast us.dropLast:=by
 induction h with
 | nil=>exact .nil
 | cons r t ih =>
  cases t with
  | nil=>exact .nil
  | cons q t'=>exact .cons r ih
theorem S9 {α:Type} (l:List α):l.eraseIdx (l.length - 1) = l.dropLast:=by
 induction l with
 | nil=>rfl
 | cons a r ih =>
  cases r with
  | nil=>rfl
  | cons b r =>
   have e:(a :: b :: r).length - 1 = ((b :: r).length - 1) + 1:=by
    have h1:(a :: b :: r).length = r.length + 2:=rfl
    have h2:(b :: r).length = r.length + 1:=rfl
    omega
   rw [e,List.eraseIdx_cons_succ,ih]
   all_goals rfl
section
variable {X:Cx} {pins:List (Addr × Obj)} {σ:St} {H:Hp} {s:Shared} {l b:Addr} {xs ys zs:List V}
theorem Ag.mH {aL its' : List Value} {n : Nat} {f : Array Value -> Array Value} {t' : Nat} (I : Ag X pins σ H s) (hH : H l = some (.lst xs))
  (e:s.heap.get? l = some { cls := .type "list",data := .seq aL.toArray n }) (hf:f aL.toArray = its'.toArray) (hv:Az ys its') (hz:ys.length <= sizeLine) :
  Ag X pins σ (upd H l (.lst ys)) { s with heap:=s.heap.update l (Obj.mapSeq f),toks:=t' }:=by
 have q:=PySem.IsL.update e f
 rw [hf] at q
 refine I.write (x:=l) (e:=l) (by rw [hH]; exact trivial) (.inl rfl) (fun b' u hb hu=>(Heap.get?_update_other s.heap (Obj.mapSeq f) (Ne.symm hb)).trans hu) ⟨_,q⟩ ?_
 exact ⟨hz,its',_,hv,q⟩
theorem Ag.NT {aL : List Value} {t' : Nat} (I : Ag X pins σ H s) (hv : Az ys aL) (hz : ys.length <= sizeLine) :
  Ag X pins σ (upd H s.heap.objs.size (.lst ys)) { s with heap:=s.heap.push { cls := .type "list",data := .seq aL.toArray },toks:=t' } :=
 I.laid (fun _ _ q=>Heap.get?_push_of_some _ q) (Nat.le_refl _) ⟨hz,aL,0,hv,Heap.get?_push_size _ rfl⟩
theorem Ag.fresh (I:Ag X pins σ H s):H s.heap.objs.size = none:=I.aP.fresh (Nat.le_refl _)
theorem Ag.jB (I:Ag X pins σ H s) (hH:H l = some (.lst xs)):xs.length <= sizeLine /\ ∃ (aL:List Value) (n:Nat),Az xs aL /\ xs.length = aL.length /\ s.heap.get? l = some { cls := .type "list",data := .seq aL.toArray n }:=by
 obtain ⟨z,aL,n,r,e⟩ := I.aP l _ hH
 exact ⟨z,aL,n,r,r.length,e⟩
theorem Xt {n:Nat} (h:n <= sizeLine):Builtin.List.listTooLong n = false:=by
 unfold Builtin.List.listTooLong
 exact decide_eq_false (by omega)
end
section
variable {X:Cx}
def b8:V -> List V -> Hp -> VK -> Prop:=fun x vs H Q=>∃ l xs y,x = .ref l /\ vs = [y] /\ H l = some (.lst xs) /\ xs.length < sizeLine /\ Q .aW (upd H l (.lst (xs ++ [y])))
theorem D0:dc X "list.append" b8:=by
 intro pins s σ H x vs v us Q I rx rv h
 obtain ⟨l,xs,y,rfl,rfl,hH,hz,q⟩ := h
 cases rx
 obtain ⟨u,rfl,ru⟩ := rv.one
 obtain ⟨z,aL,n,r,hl,e⟩ := I.jB hH
 refine call_meets F.slot_list_append ⟨_,e,rfl⟩ F.entry_list_append (F.args_list_append_2 _ _) (PySem.list_append l aL.toArray n u (by rw [List.size_toArray]; omega)) ⟨e,?_⟩
 refine ⟨.aW,_,I.mH (its':=aL ++ [u]) hH e (by simp) (r.append (.cons ru .nil)) ?_,rfl,q⟩
 rw [List.length_append,List.length_singleton]
 omega
def b9:V -> List V -> Hp -> VK -> Prop:=fun x vs H Q=>∃ l b xs zs,x = .ref l /\ vs = [.ref b] /\ H l = some (.lst xs) /\ H b = some (.lst zs) /\ xs.length + zs.length <= sizeLine /\ Q .aW (upd H l (.lst (xs ++ zs)))
theorem Iz:dc X "list.extend" b9:=by
 intro pins s σ H x vs v us Q I rx rv h
 obtain ⟨l,b,xs,zs,rfl,rfl,hH,hB,hz,q⟩ := h
 cases rx
 obtain ⟨u,rfl,ru⟩ := rv.one
 cases ru
 obtain ⟨z,aL,n,r,hl,e⟩ := I.jB hH
 obtain ⟨z2,fE,n2,r2,lY,e2⟩ := I.jB hB
 have hsz:aL.toArray.size + fE.toArray.size <= sizeLine:=by rw [List.size_toArray,List.size_toArray]; omega
 have DM:¬ (!aL.toArray.isEmpty && Builtin.List.listTooLong (aL.toArray.size + fE.toArray.size)) = true:=by
  rw [Xt hsz,Bool.and_false]
  exact Bool.false_ne_true
 refine call_meets F.slot_list_extend ⟨_,e,rfl⟩ F.entry_list_extend (F.args_list_extend_2 _ _)
  (AutoSeq1.list_extend_list_list_0 l aL.toArray n b fE.toArray n2 DM (by rw [List.size_toArray]; omega) (by omega)) ⟨e,e2,?_⟩
 refine ⟨.aW,_,I.mH (its':=aL ++ fE) hH e (by simp) (r.append r2) ?_,rfl,q⟩
 rw [List.length_append]
 omega
def pq:V -> List V -> Hp -> VK -> Prop:=fun x vs H Q=>∃ l xs y,x = .ref l /\ vs = [] /\ H l = some (.lst xs) /\ xs[xs.length - 1]? = some y /\ Q y (upd H l (.lst xs.dropLast))
theorem fj:dc X "list.pop" pq:=by
 intro pins s σ H x vs v us Q I rx rv h
 obtain ⟨l,xs,y,rfl,rfl,hH,hy,q⟩ := h
 cases rx
 have jN:=rv.zero
 subst jN
 obtain ⟨z,aL,n,r,hl,e⟩ := I.jB hH
 obtain ⟨u,hu,ru⟩ := r.get hy
 have mI:aL.toArray[aL.toArray.size - 1]? = some u:=by
  show aL.toArray[aL.length - 1]? = some u
  rw [<- Array.getElem?_toList,<- hl]
  exact hu
 refine call_meets F.slot_list_pop ⟨_,e,rfl⟩ F.entry_list_pop (F.args_list_pop_1 _) (MeetsSeq.list_pop_last l aL.toArray n u mI (by rw [List.size_toArray]; omega)) ⟨e,?_⟩
 refine ⟨y,_,I.mH (its':=aL.dropLast) hH e ?_ r.dropLast ?_,ru,q⟩
 ·show aL.toArray.eraseIdxIfInBounds (aL.toArray.size - 1) = aL.dropLast.toArray
  rw [List.size_toArray,List.eraseIdxIfInBounds_toArray,S9]
 ·rw [List.length_dropLast]
  omega
def i7:V -> List V -> Hp -> VK -> Prop:=fun x vs H Q=>∃ l xs,x = .ref l /\ vs = [] /\ H l = some (.lst xs) /\ Q .aW (upd H l (.lst []))
theorem Xr:dc X "list.clear" i7:=by
 intro pins s σ H x vs v us Q I rx rv h
 obtain ⟨l,xs,rfl,rfl,hH,q⟩ := h
 cases rx
 have jN:=rv.zero
 subst jN
 obtain ⟨z,aL,n,r,hl,e⟩ := I.jB hH
 refine call_meets F.slot_list_clear ⟨_,e,rfl⟩ F.entry_list_clear (F.args_list_clear_1 _) (AutoSeq1.list_clear_list_0 l aL.toArray n (by rw [List.size_toArray]; omega)) ⟨e,?_⟩
 exact ⟨.aW,_,I.mH (its':=[]) (ys:=[]) hH e rfl .nil (Nat.zero_le _),rfl,q⟩
def pd:R2:=fun x y H Q=>∃ l b xs zs,x = .ref l /\ y = .ref b /\ H l = some (.lst xs) /\ H b = some (.lst zs) /\ xs.length + zs.length <= sizeLine /\ ∀ p,H p = none -> Q (.ref p) (upd H p (.lst (xs ++ zs)))
theorem Xu:Hk X (binaryOp .Add) pd:=by
 intro pins s σ H x y v u Q I rx ry h
 obtain ⟨l,b,xs,zs,rfl,rfl,hH,hB,hz,q⟩ := h
 cases rx
 cases ry
 obtain ⟨z,aL,n,r,hl,e⟩ := I.jB hH
 obtain ⟨z2,fE,n2,r2,lY,e2⟩ := I.jB hB
 refine PySem.P.add_list e e2 ?_ (by rw [List.size_toArray,List.size_toArray]; omega)
 have ea:aL.toArray ++ fE.toArray = (aL ++ fE).toArray:=by simp
 rw [ea]
 exact ⟨.ref _,_,I.NT (t':=s.toks) (r.append r2) (by rw [List.length_append]; omega),rfl,q _ I.fresh⟩
end
section
variable {prog:Program} {w:World} {A:Around} {E:Value -> Shared -> Prop} {s:Shared}
end
section
variable {X:Cx}
end
end L2
namespace Att
local macro_rules | `(tactic| omega) => `(tactic| lia)
open PySem PySem.W PySem.Calls PyProof.Rows
theorem Js {P:Params} {h:Heap}:∀ (ns:List Int) (vs:List Value),WellAll P h vs (ns.map WData.int) -> IntsAre vs ns:=by
 intro ns
 induction ns with
 | nil =>
  intro vs w
  rw [List.map_nil] at w
  cases w
  exact .nil
 | cons n ns ih =>
  intro vs w
  rw [List.map_cons] at w
  cases w with
  | cons a b =>
   cases a
   exact .cons _ _ (ih _ b)
theorem lG {l : OpenLaw} {n : Nat} (hn : l.most = some n) {P : Params} {h : Heap} {args : List WData} {vals : List Value}
  (rJ:l.row.toRowW.claim.pre args = true) (qR:WellAll P h vals args) :
  ∃ a vs ns,vals = [Value.ref a] /\ args = [WData.list (ns.map WData.int)] /\ h.get? a = some { cls := .type "list",data := .seq vs.toArray } /\ IntsAre vs ns /\ ns.length <= n:=by
 have hsh:WShape.hasAll [] args [.list .int] = true:=(pre_splitW rJ).1
 have hc:l.pre.holds [] { args:=args } = true:=(pre_splitW rJ).2
 obtain ⟨d,r,rfl,h1,h2⟩ := hasAllW_cons hsh
 obtain rfl:=hasAllW_nil h2
 obtain ⟨xs,rfl,h3⟩ := hasW_list h1
 obtain ⟨ns,rfl⟩ := items_int h3
 have hlen:ns.length <= n:=by
  unfold OpenLaw.pre at hc
  have h4:(WTm.not (.lt (.lit (.int (n:Int))) (.len (.arg 0)))).holds [] { args:=[.list (ns.map .int)] } = true:=by
   have h4:=(holds_andW hc).1
   rw [hn] at h4
   exact h4
  have h5:=condW_of h4 (w_not (w_lt w_lit (w_len_list (w_arg rfl))))
  rw [List.length_map] at h5
  refine Nat.le_of_not_lt fun q=>?_
  have q':(n:Int) < ((ns.length:Nat):Int):=by omega
  first
   | (rw [decide_eq_true q'] at h5; exact absurd h5 (by decide))
   | (simp at h5; omega)
 cases qR with
 | cons w1 w2 =>
  cases w2
  cases w1 with
  | list ho hall=>exact ⟨_,_,ns,rfl,rfl,ho,Js ns _ hall,hlen⟩
theorem lH (l:OpenLaw) (args:List WData):l.row.toRowW.claim.post args (.bool true) args = true :=
 postW_of (r:=l.row.toRowW) (X:=(true == true))
  (show WShape.has [] (.bool true) .bool = true by first | rfl | decide | simp [WShape.has,WShape.arms,WShape.armsAll])
  (show (WTm.eq .res (.lit (.bool true))).value [] { args:=args,res:=some (.bool true),after:=args } = some (.bool (true == true)) from w_eq_bool (w_res rfl) w_lit) rfl
section
variable {prog:Program} {w:World} {A:Around} {E:Value -> Shared -> Prop} {s:Shared} {K:Frag}
end
end Att
namespace L2
local macro_rules | `(tactic| omega) => `(tactic| lia)
open PySem PySem.Spec PyProof.Rows
theorem Oe:∀ {vs:List Value} {ns:List Int},IntsAre vs ns -> Az (ns.map V.int) vs
 | _,_,.nil=>.nil
 | _,_,.cons n t h=>.cons ⟨t,rfl⟩ (Oe h)
def df (H:Hp):Prop := ∀ b,H b = none \/ ∃ o xs,H b = some (.bO o (.lst xs))
theorem Xn {P : Program} {w : World} {K : PySem.W.Frag} {mg mb : Str -> Option Value} {CX : Wo} {k : Nat} {fa a : Addr} {fd : FuncData} {x : Str} {sp : Sp} {s₁ : Shared} {vs : List Value} {ns : List Int}
  (KX:K.In s₁.heap) (hns:s₁.heap.Ns mainGlobals mg) (hb:s₁.heap.Ns builtinsNs mb) (hbb:∀ x:Str,x ≠ "__name__" -> mb x = bootBuiltins x) (NU:s₁.heap.NoLimit) (hg:s₁.gens = #[])
  (ha:s₁.heap.get? a = some { cls := .type "list",data := .seq vs.toArray }) (hi:IntsAre vs ns) (hl:ns.length <= sizeLine) (hr:Ct k callerA)
  (F:∀ base:Heap,K.In base -> base.Ns mainGlobals mg -> Ai P w K mg base CX k fa fd [x] sp) (DN:∀ (s:Shared) (u:Value),BindsTo s fd ⟨[u],[]⟩ [(x,u)])
  (lX:∀ H:Hp,df H -> B9 K H a (ns.map V.int) -> sp [.ref a] H (fun v _=>v = .bl true) fun _ _ _=>False)
  (NV:∀ H e s',CX [] H s₁ (fun _ _ _=>False) e s' -> False) :
  codeAny (model P w) callerA (.call (.ref fa) ⟨[.ref a],[]⟩) (fun r s'=>r = .ok (.ret (.bool true)) /\ OldK s₁.heap s'.heap /\ s'.os = s₁.os /\ AllBare s'.gens) s₁:=by
 have rv:=Oe hi
 have NW:=hi.length
 have core : ∀ H : Hp, df H -> B9 K H a (ns.map V.int) -> Ft P w H s₁.heap -> (∀ b, H b ≠ none -> b = a) -> (H a ≠ none -> K.lookup a = none) ->
   codeAny (model P w) callerA (.call (.ref fa) ⟨[.ref a],[]⟩) (fun r s'=>r = .ok (.ret (.bool true)) /\ OldK s₁.heap s'.heap /\ s'.os = s₁.os /\ AllBare s'.gens) s₁:=by
  intro H hO hS aP hA hK
  have kQ:∀ {b:Addr} {o:Obj},s₁.heap.get? b = some o -> H b = none -> (Oq s₁.heap H).get? b = some o:=fun e n=>Xg e n
  have DI:∀ {b:Addr} {o:Obj} {es:Array DictEntry} {ep:Nat},s₁.heap.get? b = some o -> o.data = .dict es ep -> H b = none:=fun {b o es ep} e d=>by
   cases q:H b with
   | none=>rfl
   | some u =>
    have e':b = a:=hA b (by rw [q]; simp)
    subst e'
    rw [ha] at e; cases e
    have d':Data.seq vs.toArray _ = Data.dict es ep:=d
    cases d'
  have LS:∀ {b:Addr} {m:Str -> Option Value},s₁.heap.Ns b m -> (Oq s₁.heap H).Ns b m:=fun {b m} ⟨o,es,ep,e,d,r⟩=>⟨o,es,ep,kQ e (DI e d),d,r⟩
  have hKb:K.In (Oq s₁.heap H):=fun b o e=>kQ (KX b o e) (by
   cases q:H b with
   | none=>rfl
   | some u =>
    have e':b = a:=hA b (by rw [q]; simp)
    subst e'
    rw [hK (by rw [q]; simp)] at e; cases e)
  have hM:Mod K mg (Oq s₁.heap H):=⟨hKb,LS hns,⟨mb,LS hb,hbb⟩,let ⟨mc,h1,h2⟩ := NU; ⟨mc,LS h1,h2⟩⟩
  have e0:Zc P w K mg (Oq s₁.heap H) callerA [] s₁ H:=⟨rfl,hM,fun b o e=>aj e,Nat.le_of_eq (Vp _ _),trivial,fun b hb=>absurd (show b ∈ ([]:List Addr) from hb) (by simp),aP,.of_eq hg⟩
  refine codeAny_mono ((F _ hKb (LS hns)).run callerA [] s₁ H ⟨[.ref a],[]⟩ [.ref a] [.ref a] _ _ hr e0 (DN s₁ (.ref a)) (.cons rfl .nil) (lX H hO hS)) fun r s' h=>?_
  cases r with
  | error e=>exact (NV H e s' h).elim
  | ok fl =>
   cases fl with
   | next=>exact False.elim h
   | brk=>exact False.elim h
   | cont=>exact False.elim h
   | ret u =>
    obtain ⟨v,H',os,bare,un,NX,r',q⟩ := h
    have q':v = .bl true:=q
    subst q'
    obtain rfl:u = Value.bool true:=r'
    refine ⟨rfl,OldK.of_keep fun b o e=>?_,os,bare⟩
    cases q:H b with
    | none=>exact un.keep b o e q (by intro z; exact absurd (show b ∈ ([]:List Addr) from z) (by simp)) (by simp)
    | some u =>
     rcases hO b with z | ⟨ob,xs,z⟩
     ·rw [q] at z; cases z
     ·have z2:=un.cQ b ob _ z
      obtain ⟨e1,_⟩ := aP b _ z
      obtain ⟨e2,_⟩ := NX b _ z2
      rw [e] at e1; cases e1
      exact e2
 cases hk:K.lookup a with
 | some o =>
  have e:=KX a o hk
  rw [ha] at e
  cases e
  refine core (fun _=>none) (fun _=>.inl rfl) (.inr ⟨_,vs.toArray,_,hk,rfl,rfl,rfl,by rw [List.size_toArray,NW]; exact hl,by simpa using rv⟩) (fun b u z=>by have z':(none:Option HO) = some u:=z; cases z') (fun b z=>absurd rfl z) fun z=>absurd rfl z
 | none =>
  refine core (fun b=>if b = a then some (.bO { cls := .type "list",data := .seq vs.toArray } (.lst (ns.map V.int))) else none) (fun b=>?_) (.inl (.inr ⟨{ cls := .type "list",data := .seq vs.toArray },if_pos rfl⟩)) (fun b u z=>?_) (fun b z=>?_) fun _=>hk
  ·by_cases hb:b = a
   ·exact .inr ⟨_,_,if_pos hb⟩
   ·exact .inl (if_neg hb)
  ·by_cases hb:b = a
   ·have z':=(if_pos hb).symm.trans z
    cases z'
    subst hb
    exact ⟨ha,by rw [List.length_map]; exact hl,vs,_,rv,ha⟩
   ·have z':=(if_neg hb).symm.trans z
    cases z'
  ·by_cases hb:b = a
   ·exact hb
   ·exact absurd (if_neg hb) z
def Ao (s:Stmt):Arguments:=match s with
 | .FunctionDef _ a _ _ _ _ _ _ _ _=>a
 | _=>{ posonlyargs:=[],args:=[],vararg:=none,kwonlyargs:=[],kw_defaults:=[],kwarg:=none,defaults:=[] }
def Aj (s:Stmt):List Stmt:=match s with
 | .FunctionDef _ _ b _ _ _ _ _ _ _=>b
 | _=>[]
def A9 (s:Stmt):Scope:=match s with
 | .FunctionDef _ _ _ _ _ _ sc _ _ _=>sc
 | _=>{ kind := .function,names:=[],isGenerator:=false,isCoroutine:=false }
abbrev E0:XK:=fun _ _ _=>False
structure Fb (K:PySem.W.Frag) (x qual:Str) (st:Stmt) (f:Addr) (fd:FuncData):Prop where
 ex:∃ (oc:Value) (od:Option Addr) (kV doc pm:Value) (an:Option Addr) (aV ct:Value) (iA:Array (Option Value)),
  fd = PySem.W.fnOf x qual (Ao st) (Aj st) (A9 st) .none kV doc pm an aV ct /\ K.lookup f = some ⟨oc,od,.func fd,iA⟩ /\ PySem.W.codeIn K aV qual = true
 kp:PySem.W.keepIn K (.ref f) = true
section
variable {P:Program} {w:World} {K:PySem.W.Frag} {mg:Str -> Option Value} {base:Heap}
theorem Fb.binds {x qual : Str} {st : Stmt} {f : Addr} {fd : FuncData} {ps : List Str} (F : Fb K x qual st f fd)
  (h:∀ (kV doc pm:Value) (an:Option Addr) (aV ct:Value) (us:List Value),us.length = ps.length -> bindArgs (PySem.W.fnOf x qual (Ao st) (Aj st) (A9 st) .none kV doc pm an aV ct) ⟨us,[]⟩ = pure (ps.zip us)):Ay K fd ps []:=by
 obtain ⟨oc,od,kV,doc,pm,an,aV,ct,iA,rfl,lk,lE⟩ := F.ex
 exact .all (h kV doc pm an aV ct)
theorem Bj {x qual : Str} {st : Stmt} {f : Addr} {oc : Value} {od an : Option Addr} {iA : Array (Option Value)} {kV doc pm aV ct : Value} (l : K.lookup f = some ⟨oc, od, .func (PySem.W.fnOf x qual (Ao st) (Aj st) (A9 st) .none kV doc pm an aV ct), iA⟩)
  (c:PySem.W.codeIn K aV qual = true) (k:PySem.W.keepIn K (.ref f) = true):Fb K x qual st f (PySem.W.fnOf x qual (Ao st) (Aj st) (A9 st) .none kV doc pm an aV ct):=⟨⟨oc,od,kV,doc,pm,an,aV,ct,iA,rfl,l,c⟩,k⟩
end
theorem Bx {n:Nat} (h:n <= 1000):n < sizeLine:=Nat.lt_of_le_of_lt h (by decide)
section
variable {X:Cx}
theorem pv (i : Nat) {x : Str} {pos : Pos} (hN : X.N[i]? = some x := by rfl) (hv : om X.env.scope x := by first | exact Or.inl rfl | exact Or.inr (Or.inl rfl) | exact Or.inr (Or.inr rfl)) (hd : (x == ("__debug__" : Str)) = false := by decide)
  (lE:(x == ("__classdict__" : Str)) = false:=by decide):PE X (.Name x pos) (nc i):=gz hN hv hd lE
end
theorem Gv {c A B:Prop} [Decidable c] (h1:c -> A) (h2:¬ c -> B):if c then A else B:=by
 by_cases h:c
 ·rw [if_pos h]
  exact h1 h
 ·rw [if_neg h]
  exact h2 h
def Aa (H H':Hp):Prop := ∀ b o,H b = some o -> H' b = some o
theorem Aa.refl (H:Hp):Aa H H:=fun _ _ h=>h
theorem Aa.trans {H H1 H2:Hp} (a:Aa H H1) (b:Aa H1 H2):Aa H H2:=fun c o h=>b c o (a c o h)
theorem Aa.free {H H':Hp} (e:Aa H H') {l:Addr} (h:H' l = Option.none):H l = Option.none:=by
 cases q:H l with
 | none=>rfl
 | some o =>
  rw [e l o q] at h
  cases h
theorem Aa.seq {K:PySem.W.Frag} {H H':Hp} {a:Addr} {xs:List V} (e:Aa H H') (h:B9 K H a xs):B9 K H' a xs:=by
 rcases h with (h | ⟨o,h⟩) | h
 ·exact .inl (.inl (e _ _ h))
 ·exact .inl (.inr ⟨o,e _ _ h⟩)
 ·exact .inr h
def Ee (cells:List (Str × Addr)):List (Str × NameKind) -> List (Str × Addr) -> List (Str × Addr)
 | [],cs=>cs
 | (n,k) :: r,cs=>if k == NameKind.free then Ee cells r ((n,(cells.lookup n).getD 0) :: cs) else Ee cells r cs
theorem Ir {cells : List (Str × Addr)} {x : Str} {c : Addr} : ∀ {names : List (Str × NameKind)} {cs : List (Str × Addr)}, (Ee cells names cs).lookup x = some c ->
  cs.lookup x = some c \/ ((x,NameKind.free) ∈ names /\ c = (cells.lookup x).getD 0)
 | [],cs,h=>.inl h
 | (n,k) :: r,cs,h=>by
  unfold Ee at h
  by_cases hk:(k == NameKind.free) = true
  ·rw [if_pos hk] at h
   rcases Ir h with h1 | ⟨h1,h2⟩
   ·rw [List.lookup_cons] at h1
    by_cases hx:(x == n) = true
    ·rw [hx] at h1
     have e:x = n:=eq_of_beq hx
     have e2:k = NameKind.free:=eq_of_beq hk
     subst e e2
     exact .inr ⟨List.mem_cons_self,(Option.some.inj h1).symm⟩
    ·have lZ:(x == n) = false:=by simpa using hx
     rw [lZ] at h1
     exact .inl h1
   ·exact .inr ⟨List.mem_cons_of_mem _ h1,h2⟩
  ·rw [if_neg hk] at h
   rcases Ir h with h1 | ⟨h1,h2⟩
   ·exact .inl h1
   ·exact .inr ⟨List.mem_cons_of_mem _ h1,h2⟩
theorem Hc {cells:List (Str × Addr)} {x:Str}:∀ {names:List (Str × NameKind)} {cs:List (Str × Addr)},(∃ c,cs.lookup x = some c) -> ∃ c,(Ee cells names cs).lookup x = some c
 | [],cs,h=>h
 | (n,k) :: r,cs,h=>by
  unfold Ee
  by_cases hk:(k == NameKind.free) = true
  ·rw [if_pos hk]
   refine Hc ?_
   rw [List.lookup_cons]
   cases hx:x == n with
   | true=>exact ⟨_,rfl⟩
   | false=>exact h
  ·rw [if_neg hk]
   exact Hc h
theorem Eu {cells:List (Str × Addr)} {x:Str}:∀ {names:List (Str × NameKind)} {cs:List (Str × Addr)},(x,NameKind.free) ∈ names -> ∃ c,(Ee cells names cs).lookup x = some c
 | [],cs,h=>by cases h
 | (n,k) :: r,cs,h=>by
  unfold Ee
  rcases List.mem_cons.mp h with e | h
  ·have e1:x = n:=congrArg Prod.fst e
   have e2:NameKind.free = k:=congrArg Prod.snd e
   subst e1 e2
   rw [if_pos (by decide)]
   refine Hc ⟨(cells.lookup x).getD 0,?_⟩
   rw [List.lookup_cons,beq_self_eq_true]
  ·by_cases hk:(k == NameKind.free) = true
   ·rw [if_pos hk]
    exact Eu h
   ·rw [if_neg hk]
    exact Eu h
theorem Fi {env : Env} : ∀ {names : List (Str × NameKind)} {x : Str} {k' : NameKind}, (∀ y ∈ names, y.2 ≠ NameKind.cell) -> k' ≠ .local -> (k' = .cell \/ k' = .free) ->
  (names.map fun (n,k)=>if (k == NameKind.free && env.scope.kind == .function && env.kindOf n == some .cell) then (n,NameKind.cell) else (n,k)).lookup x = some k' -> (x,NameKind.free) ∈ names
 | [],_,_,_,_,_,h=>by simp at h
 | (n,k) :: r,x,k',hc,hl,cR,h=>by
  have ih:=@Fi env r x k' (fun y hy=>hc y (List.mem_cons_of_mem _ hy)) hl cR
  have h0:List.lookup x ((if (k == NameKind.free && env.scope.kind == .function && env.kindOf n == some .cell) = true then (n,NameKind.cell) else (n,k)) :: (r.map fun (n,k)=>if (k == NameKind.free && env.scope.kind == .function && env.kindOf n == some .cell) then (n,NameKind.cell) else (n,k))) = some k':=h
  by_cases vK:(k == NameKind.free && env.scope.kind == .function && env.kindOf n == some .cell) = true
  ·rw [if_pos vK,List.lookup_cons] at h0
   have e2:k = NameKind.free:=by
    have q:=(Bool.and_eq_true_iff.mp (Bool.and_eq_true_iff.mp vK).1).1
    exact eq_of_beq q
   cases hx:x == n with
   | true =>
    have e:x = n:=eq_of_beq hx
    subst e e2
    exact List.mem_cons_self
   | false =>
    rw [hx] at h0
    exact List.mem_cons_of_mem _ (ih h0)
  ·rw [if_neg vK,List.lookup_cons] at h0
   cases hx:x == n with
   | true =>
    rw [hx] at h0
    have e:x = n:=eq_of_beq hx
    have e3:k = k':=Option.some.inj h0
    subst e e3
    rcases cR with z | z
    ·exact absurd z (hc _ List.mem_cons_self)
    ·subst z
     exact List.mem_cons_self
   | false =>
    rw [hx] at h0
    exact List.mem_cons_of_mem _ (ih h0)
structure Dd (sc scope:Scope) (N bT:List Str) (fr:List Nat):Prop where
 kind:scope.kind = .function
 jT:∀ y ∈ scope.names,y.2 ≠ NameKind.cell
 loc:∀ y ∈ scope.names,y.2 = NameKind.local -> scope.names.lookup y.1 = some NameKind.local
 free:∀ y ∈ scope.names,y.2 = NameKind.free -> sc.names.lookup y.1 = some NameKind.cell
 eK:∀ j ∈ fr,(N[j]?.bind fun x=>scope.names.lookup x) = some NameKind.free
def Bz (N bT:List Str) (fr:List Nat):List Str:=bT ++ fr.map fun j=>(N[j]?).getD ⟨#[]⟩
def Em (fr:List Nat) (σ:St):St:=fr.map fun j=>(σ[j]?).getD none
def En (n:Nat) (fr:List Nat) (σ:St):St:=List.replicate n none ++ Em fr σ
def Cn (X:Cx) (Nc:List Str) (scope:Scope) (C:Addr) (s2:Shared) (H2:Hp) (fp:List Addr):Cx :=
 { X with N:=Nc,s₀:=s2,H₀:=H2,env:=compEnvC scope (Ee X.env.cells scope.names []) C X.env,outer:=X.stack,ex:=fp,fn:=fun _=>false,pn:=[],xe:=fun _ _=>False }
def jv (X:Cx) (ifs:List Expr) (t:TT):Prop :=
 ∀ (pins:List (Addr × Obj)) (s:Shared) (σ:St) (H:Hp) (Q:Bool -> Hp -> Prop),Ag X pins σ H s -> t σ H Q ->
  wpAny (model X.prog X.w) X.A (forIn ifs true fun c r=>if r = true then do let ok <- isTrue c X.env (eval c X.env); pure (ForInStep.yield ok) else pure (ForInStep.yield r)) (TP X pins σ Q) X.xe s
def Tt:TT:=fun _ H Q=>Q true H
theorem Dy {X:Cx}:jv X [] Tt:=fun _ _ _ H _ I h=>wpAny_tests_nil ⟨H,I,h⟩
theorem av {X:Cx} {c:Expr} {t:TT} (h:PT X c t):jv X [c] t:=fun pins s σ H Q I hq=>wpAny_tests_one (h pins s σ H Q I hq)
section
variable {prog:Program} {w:World} {A:Around} {R:Result -> Shared -> Prop} {s:Shared}
theorem Oo {elt target iter : Expr} {ifs : List Expr} {scope : Scope} {pos : Pos} {it acc : Value} {env : Env} (I : Nat -> Shared -> Prop)
  (turn:∀ n s,I n s -> wpAny (model prog w) A (pyNext it) (fun r s₁=>match r with
   | none=>R (.ok .next) s₁
   | some v => wpAny (model prog w) A (letOwnedTupleGo target it v) (fun _ s₁' => wpAny (model prog w) A (assign target env v) (fun _ s₂ =>
     wpAny (model prog w) A (forIn ifs true fun c r=>if r = true then do let ok <- isTrue c env (eval c env); pure (ForInStep.yield ok) else pure (ForInStep.yield r)) (fun ok s₃ =>
      if ok = true then wpAny (model prog w) A (eval elt env) (fun x s₄ =>
       wpAny (model prog w) A (call (.builtin "list.append") [acc,x]) (fun _ s₅=>∃ m,m < n /\ I m s₅) (fun _ _=>False) s₄) (fun _ _=>False) s₃
      else ∃ m,m < n /\ I m s₃) (fun _ _=>False) s₂) (fun _ _=>False) s₁') (fun _ _=>False) s₁) (fun _ _=>False) s)
  (n:Nat) (h:I n s) :
  codeAny (model prog w) A (.compLoop (.ListComp elt [⟨target,iter,ifs,0⟩] scope pos) 0 it acc env) R s:=by
 refine codeAny_loop rfl I (fun n s hI=>?_) n h
 show wpAny _ A ((compTurn (.ListComp elt [⟨target,iter,ifs,0⟩] scope pos) 0 it acc env).onRaise (fun x=>do noteFrame x env; theTreesLotGoes x)) _ _ s
 refine wpAny_noted ?_
 rw [compTurn_list]
 refine wpAny_bind (wpAny_standAt (wpAny_bind (wpAny_mono (turn n s hI) (fun r s₁ h₁=>?_) fun _ _ h'=>h'.elim)))
 cases r with
 | none=>exact wpAny_pure h₁
 | some v =>
  refine wpAny_bind (wpAny_mono h₁ (fun _ s₁' h₁'=>?_) fun _ _ h'=>h'.elim)
  refine wpAny_bind (wpAny_mono h₁' (fun _ s₂ h₂=>wpAny_bind (wpAny_mono h₂ (fun ok s₃ h₃=>?_) fun _ _ h'=>h'.elim)) fun _ _ h'=>h'.elim)
  cases ok with
  | false=>exact wpAny_pure ⟨rfl,h₃⟩
  | true =>
   exact wpAny_bind (wpAny_bind (wpAny_mono h₃ (fun x s₄ h₄=>wpAny_bind (wpAny_mono h₄ (fun _ s₅ h₅=>wpAny_pure (wpAny_pure ⟨rfl,h₅⟩)) fun _ _ h'=>h'.elim)) fun _ _ h'=>h'.elim))
end
def Fc (n:Nat) (fr:List Nat) (J:It) (g:TG) (tt:TT) (te:TE) (σ:St) (D:Addr) (H1:Hp) (Q:Hp -> Prop):Prop :=
 ∃ W:Nat -> Nat -> List V -> Hp -> Prop,(∃ m,W 0 m [] (upd H1 D (.lst []))) /\ ∀ i m ys H',W i m ys H' ->
  (J.stop i H' /\ Q H') \/ (J.go i H' /\ ∀ x H2,J.vF i H' x H2 -> g x (En n fr σ) H2 fun σ3 H3=>(∃ zs:St,zs.length = n /\ σ3 = zs ++ Em fr σ) /\ tt σ3 H3 fun b H4 =>
   if b = true then te σ3 H4 fun y H5=>H5 D = some (.lst ys) /\ ys.length < sizeLine /\ ∃ m',m' < m /\ W (i + 1) m' (ys ++ [y]) (upd H5 D (.lst (ys ++ [y])))
   else ∃ m',m' < m /\ W (i + 1) m' ys H4)
def mo (n:Nat) (fr:List Nat) (wi:TI) (g:TG) (tt:TT) (te:TE):TE:=fun σ H Q=>wi σ H fun J H1=>∀ D,H1 D = none -> Fc n fr J g tt te σ D H1 (Q (.ref D))
def Yu (n:Nat) (fr:List Nat) (wi:TI) (g:TG) (tt:TT) (te:TE) (i:Nat):TS:=fun D σ H=>wi σ H fun J H1=>∀ l,H1 l = none -> Fc n fr J g tt te σ l H1 (D.nx (σ.set i (some (.ref l))))
section
variable {X:Cx} {tg iter elt:Expr} {ifs:List Expr} {scope sc:Scope} {bT:List Str} {fr:List Nat} {wi:TI} {g:TG} {tt:TT} {te:TE} {pos:Pos}
theorem Mz {pins : List (Addr × Obj)} {σ : St} {H2 : Hp} {s2 : Shared} {it : Addr} {fp : List Addr} {tn : Nat -> Heap -> Prop} {J : It} {RR : Value -> Addr -> Result -> Shared -> Prop} {E : Value -> Shared -> Prop} {Qf : Hp -> Prop}
  (CC:X.env.scope = sc) (S:Dd sc scope X.N bT fr) (hc:X.calm = true)
  (hg:∀ C s2 H2 fp,PG (Cn X (Bz X.N bT fr) scope C s2 H2 fp) tg g) (ht:∀ C s2 H2 fp,jv (Cn X (Bz X.N bT fr) scope C s2 H2 fp) ifs tt) (he:∀ C s2 H2 fp,PE (Cn X (Bz X.N bT fr) scope C s2 H2 fp) elt te)
  (I2:Ag X pins σ H2 s2) (T:V7 X.prog X.w X.K tg J fp it tn) (aU:tn 0 s2.heap) (f2:∀ b ∈ fp,Ka X pins H2 b)
  (run:Fc bT.length fr J g tt te σ s2.heap.objs.size H2 Qf)
  (hRR:∀ (C:Addr) (H3:Hp) (s4:Shared),Ag X pins σ H3 s4 -> Ka X pins H3 C -> (∃ m,s4.heap.Ns C m) -> Qf H3 -> RR (.ref s2.heap.objs.size) C (.ok .next) s4) :
  wpAny (model X.prog X.w) X.A (newList []) (fun acc s₃=>wpAny (model X.prog X.w) X.A (newFunctionEnv scope X.env.globals (Ee X.env.cells scope.names []) [] X.env.qual none .none (some X.env)) (fun DP s₄ =>
   codeAny (model X.prog X.w) X.A (.compStart (.ListComp elt [⟨tg,iter,ifs,0⟩] scope pos) 0 (.ref it) acc { DP with scope:=relabel scope X.env }) (RR acc DP.locals) s₄) E s₃) E s2:=by
 refine wpAny_newObj_type (wpAny_newFunctionEnv S.jT (by intro y hy; simp at hy) (fun h₁ vL rK=>?_) S.kind)
 dsimp only at vL rK ⊢
 generalize NY:s2.heap.push { cls := .type "list",dict:=none,data := .seq ([]:List Value).toArray } = G2 at vL rK ⊢
 have hC:G2.objs.size = s2.heap.objs.size + 1:=by rw [<- NY,Heap.size_push]
 have hDC:s2.heap.objs.size ≠ G2.objs.size:=by rw [hC]; exact Nat.ne_of_lt (Nat.lt_succ_self _)
 have hle:s2.heap.objs.size <= G2.objs.size:=by rw [hC]; exact Nat.le_succ _
 have below:∀ b,b < s2.heap.objs.size -> b ≠ G2.objs.size /\ b ≠ s2.heap.objs.size:=fun b hb=>⟨Nat.ne_of_lt (Nat.lt_of_lt_of_le hb hle),Nat.ne_of_lt hb⟩
 have old:∀ b o,s2.heap.get? b = some o -> h₁.get? b = some o:=fun b o e=>rK.extBut b o (below b (Heap.lt_size e)).1 (Heap.get?_push_of_some _ (NY ▸ Heap.get?_push_of_some _ e))
 have NZ:h₁.get? s2.heap.objs.size = some { cls := .type "list",data := .seq ([]:List Value).toArray 0 }:=rK.extBut _ _ hDC (Heap.get?_push_of_some _ (NY ▸ Heap.get?_push_size _ rfl))
 have vM:∀ y ∈ scope.names,y.2 = NameKind.free -> ∃ c,X.env.cells.lookup y.1 = some c:=fun y hy e=>I2.ok.has y.1 (.inl (by show X.env.scope.names.lookup y.1 = _; rw [CC]; exact S.free y hy e))
 have jU:∀ x c,(Ee X.env.cells scope.names []).lookup x = some c -> X.env.cells.lookup x = some c:=fun x c e=>by
  rcases Ir e with z | ⟨z1,z2⟩
  ·simp at z
  ·obtain ⟨c',e'⟩ := vM _ z1 rfl
   rw [z2,e']
   rfl
 have vN:∀ x c,X.env.cells.lookup x = some c -> c < s2.heap.objs.size:=fun x c e=>by
  obtain ⟨v,q⟩ := I2.cell x c e
  exact q.lt
 have vP:∀ b ∈ fp,b < s2.heap.objs.size:=fun b hb=>by
  obtain ⟨o,e,_⟩ := T.obj 0 _ aU b hb
  exact Heap.lt_size e
 have OA:(Cn X (Bz X.N bT fr) scope G2.objs.size s2 H2 fp).Ok:=by
  refine ⟨I2.ok.mod,S.kind,I2.ok.glob,I2.ok.blt,hle,fun x y c e1 e2=>I2.ok.inj x y c (jU x c e1) (jU y c e2),fun x hx=>?_,fun x c z _=>absurd z Bool.false_ne_true,I2.ok.hd,I2.ok.frames,.inl rfl,
   fun b hb=>⟨(below b (vP b hb)).1,fun x c e=>(f2 b hb).2.2.2.2.1 x c (jU x c e)⟩,I2.bs,Nat.le_trans I2.ok.qQ I2.sz,fun b o e hb=>?_,fun b hb z=>?_,I2.stack,I2.cO⟩
  ·rcases hx with hx | hx
   ·exact Eu (Fi (env:=X.env) S.jT (by decide) (.inl rfl) hx)
   ·exact Eu (Fi (env:=X.env) S.jT (by decide) (.inr rfl) hx)
  ·rcases (f2 b hb).2.2.2.1 with z | z
   ·exact I2.ok.jP b o e z
   ·exact absurd (Nat.lt_of_lt_of_le (Heap.lt_size e) (Nat.le_trans I2.ok.qQ z)) (Nat.lt_irrefl _)
  ·rcases List.mem_cons.mp (I2.jR b z) with z | z
   ·exact (f2 b hb).2.1 z
   ·exact (f2 b hb).2.2.1 z
 have I3:Ag (Cn X (Bz X.N bT fr) scope G2.objs.size s2 H2 fp) [] (En bT.length fr σ) (upd H2 s2.heap.objs.size (.lst [])) { s2 with heap:=h₁,toks:=s2.toks + ([]:List (Str × Value)).length }:=by
  refine ⟨OA,rfl,I2.bare,Un.laid old (Nat.le_refl _) I2.fresh,⟨_,vL,fun i x v e1 e2 e3=>?_⟩,fun x c e=>?_,?_,fun x c e=>?_,fun p hp=>absurd (show p ∈ ([]:List (Addr × Obj)) from hp) (by simp),I2.aP.laid old (Nat.le_refl _) ⟨Nat.zero_le _,[],0,.nil,NZ⟩,?_⟩
  ·-- a name of the comprehension that has a value at the start is one of the def's cells
   have hi:bT.length <= i:=by
    refine Nat.le_of_not_lt fun aZ=>?_
    unfold En at e2
    rw [List.getElem?_append_left (by simpa using aZ),List.getElem?_replicate,if_pos aZ] at e2
    cases e2
   have LU:(Em fr σ)[i - bT.length]? = some (some v):=by
    unfold En at e2
    rw [List.getElem?_append_right (by simpa using hi)] at e2
    simpa using e2
   have kR:(fr.map fun j=>(X.N[j]?).getD ⟨#[]⟩)[i - bT.length]? = some x:=by
    have e1:(Bz X.N bT fr)[i]? = some x:=e1
    unfold Bz at e1
    rw [List.getElem?_append_right hi] at e1
    exact e1
   unfold Em at LU
   rw [List.getElem?_map] at kR LU
   cases ej:fr[i - bT.length]? with
   | none=>rw [ej] at kR; cases kR
   | some j =>
    rw [ej] at kR LU
    have e1j:(X.N[j]?).getD ⟨#[]⟩ = x:=Option.some.inj kR
    have LV:(σ[j]?).getD none = some v:=Option.some.inj LU
    have eI:=S.eK j (List.mem_of_getElem? ej)
    cases eN:X.N[j]? with
    | none=>rw [eN] at eI; cases eI
    | some x' =>
     rw [eN] at eI e1j
     have ex:x' = x:=e1j
     subst ex
     have hfx:scope.names.lookup x' = some NameKind.free:=eI
     have hσ:σ[j]? = some (some v):=by
      cases eσ:σ[j]? with
      | none=>rw [eσ] at LV; cases LV
      | some o=>rw [eσ] at LV; exact congrArg some LV
     have cD:=PySem.mem_of_lookup hfx
     have hkc:X.env.scope.names.lookup x' = some NameKind.cell:=by rw [CC]; exact S.free _ cD rfl
     obtain ⟨m,hn,hl⟩ := I2.loc
     obtain ⟨u,ru,lk⟩ := hl j x' v eN hσ (.inr (.inl hkc))
     refine ⟨u,ru,.inr ⟨?_,?_⟩⟩
     ·have e3:(relabel scope X.env).names.lookup x' = some NameKind.local \/ (relabel scope X.env).names.lookup x' = some NameKind.cell \/ (relabel scope X.env).names.lookup x' = some NameKind.free:=e3
      rcases e3 with z | z | z
      ·exfalso
       have key:∀ (names:List (Str × NameKind)),names.lookup x' = some NameKind.free -> (names.map fun (n,k)=>if (k == NameKind.free && X.env.scope.kind == .function && X.env.kindOf n == some .cell) then (n,NameKind.cell) else (n,k)).lookup x' ≠ some NameKind.local:=by
        intro names
        induction names with
        | nil=>intro h; simp at h
        | cons p r ih =>
         obtain ⟨n,k⟩ := p
         intro h h2
         have h2:List.lookup x' ((if (k == NameKind.free && X.env.scope.kind == .function && X.env.kindOf n == some .cell) = true then (n,NameKind.cell) else (n,k)) :: (r.map fun (n,k)=>if (k == NameKind.free && X.env.scope.kind == .function && X.env.kindOf n == some .cell) then (n,NameKind.cell) else (n,k))) = some NameKind.local:=h2
         rw [List.lookup_cons] at h
         cases hx:x' == n with
         | true =>
          rw [hx] at h
          have ek:k = NameKind.free:=Option.some.inj h
          subst ek
          split at h2
          ·rw [List.lookup_cons,hx] at h2; cases h2
          ·rw [List.lookup_cons,hx] at h2; cases h2
         | false =>
          rw [hx] at h
          split at h2
          ·rw [List.lookup_cons,hx] at h2; exact ih h h2
          ·rw [List.lookup_cons,hx] at h2; exact ih h h2
       exact key scope.names hfx z
      ·exact .inl z
      ·exact .inr z
     ·obtain ⟨c,ec⟩ := Eu (cells:=X.env.cells) (cs:=[]) cD
      rcases lk with ⟨k1,_⟩ | ⟨_,c',ec',ic⟩
      ·have k1:X.env.scope.names.lookup x' = some NameKind.local:=k1
       rw [hkc] at k1; cases k1
      ·have q:=jU _ _ ec
       rw [ec'] at q
       have q':c' = c:=Option.some.inj q
       subst q'
       exact ⟨_,ec,ic.keeps old⟩
  ·obtain ⟨v,q⟩ := I2.cell x c (jU x c e)
   exact ⟨v,q.keeps old⟩
  ·show upd H2 s2.heap.objs.size (.lst []) G2.objs.size = none
   rw [Ac hDC.symm]
   exact I2.aP.fresh hle
  ·rw [Ac (Nat.ne_of_lt (vN x c (jU x c e)))]
   exact I2.bD x c (jU x c e)
  ·unfold En Em
   show _ = (Bz X.N bT fr).length
   unfold Bz
   simp
 obtain ⟨W,⟨m0,w0⟩,turn⟩ := run
 have stat:∀ {H':Hp},(∀ b ∈ fp,H' b = none) -> ∀ b ∈ fp,Ka (Cn X (Bz X.N bT fr) scope G2.objs.size s2 H2 fp) [] H' b:=fun hn b hb =>
  ⟨hn b hb,(below b (vP b hb)).1,OA.jQ b hb,.inl hb,(OA.DC b hb).2,fun p hp=>absurd (show p ∈ ([]:List (Addr × Obj)) from hp) (by simp)⟩
 have LR:∀ b ∈ fp,upd H2 s2.heap.objs.size (.lst []) b = none:=fun b hb=>by rw [Ac (below b (vP b hb)).2]; exact (f2 b hb).1
 have fB:tn 0 h₁:=T.keep 0 _ _ aU fun b _ o e=>old b o e
 have fin:∀ {H3:Hp} {s4:Shared},Ag (Cn X (Bz X.N bT fr) scope G2.objs.size s2 H2 fp) [] (En bT.length fr σ) H3 s4 -> Qf H3 -> RR (.ref s2.heap.objs.size) G2.objs.size (.ok .next) s4:=fun {H3 s4} I4 q=>by
  obtain ⟨m,hn,_⟩ := id I4.loc
  have ub:Un (eK X.stack) fp H2 H3 s2.heap s4.heap:=I4.base
  refine hRR G2.objs.size H3 s4 (I2.sW (ch:=fp) (s':=s4) I4.os ub I4.aP I4.bare fun b hb=>⟨(f2 b hb).2.2.2.1,(f2 b hb).2.1,(f2 b hb).2.2.2.2.1,(f2 b hb).2.2.2.2.2⟩) (I2.mG hle I4.free) ⟨m,hn⟩ q
 have loop : ∀ s₃ : Shared, s₃ = { s2 with heap := h₁, toks := s2.toks + ([] : List (Str × Value)).length } ->
   codeAny (model X.prog X.w) X.A (.compLoop (.ListComp elt [⟨tg,iter,ifs,0⟩] scope pos) 0 (.ref it) (.ref s2.heap.objs.size) (compEnvC scope (Ee X.env.cells scope.names []) G2.objs.size X.env)) (RR (.ref s2.heap.objs.size) G2.objs.size) s₃:=by
  rintro s₃ rfl
  refine Oo (fun n s'=>∃ i ys H',Ag (Cn X (Bz X.N bT fr) scope G2.objs.size s2 H2 fp) [] (En bT.length fr σ) H' s' /\ tn i s'.heap /\ (∀ b ∈ fp,H' b = none) /\ W i n ys H') ?_ m0 ⟨0,[],_,I3,fB,LR,w0⟩
  rintro n s5 ⟨i,ys,H3,J3,sti,fri,w3⟩
  rcases turn i n ys H3 w3 with ⟨stop,q⟩ | ⟨go,step⟩
  ·refine wpAny_mono (T.done (Cn X (Bz X.N bT fr) scope G2.objs.size s2 H2 fp) rfl rfl rfl hc i [] s5 _ H3 (fun _ _=>False) J3 (stat fri) sti stop) (fun r s6 ⟨hr,J4⟩=>?_) (fun _ _ f=>f)
   subst hr
   exact fin J4 q
  ·refine wpAny_mono (T.item (Cn X (Bz X.N bT fr) scope G2.objs.size s2 H2 fp) rfl rfl rfl hc i [] s5 _ H3 (fun _ _=>False) J3 (stat fri) sti go) (fun r s6 ⟨u,hr,h6⟩=>?_) (fun _ _ f=>f)
   subst hr
   refine wpAny_mono h6 (fun _ s7 ⟨x,H7,J7,r7,y7,OB,fr7⟩=>?_) (fun _ _ f=>f)
   have J7':=J7.pinned (stat fr7) (T.obj _ _ OB)
   refine wpAny_mono (hg G2.objs.size s2 H2 fp _ s7 _ H7 x u _ J7' r7 (step x H7 y7)) (fun _ s8 ⟨σ8,H8,J8,⟨zs,hz,e8⟩,q8⟩=>?_) (fun _ _ f=>f)
   have again : ∀ {H9 : Hp} {s9 : Shared} {DQ : List V}, Ag (Cn X (Bz X.N bT fr) scope G2.objs.size s2 H2 fp) ([] ++ Ld fp s7.heap) σ8 H9 s9 -> (∃ m', m' < n /\ W (i + 1) m' DQ H9) ->
     ∃ m,m < n /\ ∃ i ys H',Ag (Cn X (Bz X.N bT fr) scope G2.objs.size s2 H2 fp) [] (En bT.length fr σ) H' s9 /\ tn i s9.heap /\ (∀ b ∈ fp,H' b = none) /\ W i m ys H':=fun {H9 s9 DQ} J9 ⟨m',hm,w9⟩=>by
    refine ⟨m',hm,i + 1,DQ,H9,J9.dX.weak ?_ ?_,T.keep _ _ _ OB fun b hb o e=>(J9.pin (b,o) (List.mem_append_right _ (List.mem_append_right _ (Fg hb e)))).1,fun b hb=>?_,w9⟩
    ·rw [e8]; unfold En; simp [hz]
    ·intro k v ek
     rw [e8]
     unfold En at ek
     by_cases hk:k < bT.length
     ·rw [List.getElem?_append_left (by simpa using hk),List.getElem?_replicate,if_pos hk] at ek
      cases ek
     ·rw [List.getElem?_append_right (by simpa using hk)] at ek
      rw [List.getElem?_append_right (by omega),hz]
      simpa using ek
    ·obtain ⟨o,e,d⟩ := T.obj _ _ OB b hb
     exact (J9.pin (b,o) (List.mem_append_right _ (List.mem_append_right _ (Fg hb e)))).2.1
   refine wpAny_mono (ht G2.objs.size s2 H2 fp _ s8 σ8 H8 _ J8 q8) (fun ok s9 ⟨H9,J9,q9⟩=>?_) (fun _ _ f=>f)
   cases ok with
   | false =>
    rw [if_neg Bool.false_ne_true] at q9 ⊢
    exact again J9 q9
   | true =>
    rw [if_pos rfl] at q9 ⊢
    refine wpAny_mono (he G2.objs.size s2 H2 fp _ s9 σ8 H9 _ J9 q9) (fun y s10 ⟨v10,rL,J10,r10,hD,hlen,OC⟩=>?_) (fun _ _ f=>f)
    refine wpAny_mono (D0 (X:=Cn X (Bz X.N bT fr) scope G2.objs.size s2 H2 fp) _ s10 σ8 rL (.ref s2.heap.objs.size) [v10] (.ref s2.heap.objs.size) [y] (fun _ LW=>LW = upd rL s2.heap.objs.size (.lst (ys ++ [v10]))) J10 rfl (.cons r10 .nil) ⟨_,ys,v10,rfl,rfl,hD,hlen,rfl⟩) (fun _ s11 ⟨_,LW,J11,_,e11⟩=>?_) (fun _ _ f=>f)
    subst e11
    exact again J11 OC
 exact codeAny_compStart_list (loop _ rfl) (T.self _ 0 _ _ _ fB (loop _ rfl))
theorem K1 (hi : PI X tg iter wi) (sc : Scope) (CC : X.env.scope = sc) (S : Dd sc scope X.N bT fr) (hc : X.calm = true) (mJ : closureFor scope X.env = pure (Ee X.env.cells scope.names []))
  (hg:∀ C s2 H2 fp,PG (Cn X (Bz X.N bT fr) scope C s2 H2 fp) tg g) (ht:∀ C s2 H2 fp,jv (Cn X (Bz X.N bT fr) scope C s2 H2 fp) ifs tt) (he:∀ C s2 H2 fp,PE (Cn X (Bz X.N bT fr) scope C s2 H2 fp) elt te)
  (hs:∀ x,foldedSetIterable iter X.env x = pure x:=by intro _; rfl):PE X (.ListComp elt [⟨tg,iter,ifs,0⟩] scope pos) (mo bT.length fr wi g tt te):=by
 intro pins s σ H Q I h
 rw [eval_ListComp]
 refine wpAny_comprehension_free (use:=none) rfl hs mJ S.kind S.loc (wpAny_mono (hi pins s σ H _ I h) (fun v s1 h1=>wpAny_mono h1 (fun LQ s2 h2=>?_) fun _ _ e=>e) fun _ _ e=>e)
 obtain ⟨it,fp,tn,J,H2,e,I2,T,aU,f2,R2⟩ := h2
 subst e
 refine Mz (RR:=fun acc C=>compPost (model X.prog X.w) X.A X.xe none (EP X pins σ Q) acc C) CC S hc hg ht he I2 T aU f2 (R2 _ I2.fresh) ?_
 intro C H3 s4 I4 fC ⟨m,hn⟩ q
 refine ⟨m,hn,fun h' DR=>⟨.ref s2.heap.objs.size,H3,?_,rfl,q⟩⟩
 obtain ⟨hh,gg,dd,OD,oo⟩ := s4
 exact I4.turned (h':=h') (t':=OD) (it:=C) (fun b o hb e=>DR.extBut b o hb e) fC.1 fC.2.1 fC.2.2.2.1 fC.2.2.2.2.1 fC.2.2.2.2.2
theorem De {i : Nat} {y : Str} {py DS : Pos} (hN : X.N.Nodup) (hiy : X.N[i]? = some y) (hi : PI X tg iter wi) (sc : Scope) (CC : X.env.scope = sc) (S : Dd sc scope X.N bT fr) (hc : X.calm = true)
  (mJ:closureFor scope X.env = pure (Ee X.env.cells scope.names []))
  (hg:∀ C s2 H2 fp,PG (Cn X (Bz X.N bT fr) scope C s2 H2 fp) tg g) (ht:∀ C s2 H2 fp,jv (Cn X (Bz X.N bT fr) scope C s2 H2 fp) ifs tt) (he:∀ C s2 H2 fp,PE (Cn X (Bz X.N bT fr) scope C s2 H2 fp) elt te)
  (hy:X.env.scope.names.lookup y = some NameKind.local)
  (hsw:swapsWith (.ListComp elt [⟨tg,iter,ifs,0⟩] scope pos) (some (.Name y py)) DS.line X.env = pure true)
  (hs:∀ x,foldedSetIterable iter X.env x = pure x:=by intro _; rfl) :
  PS X (.Assign [.Name y py] (.ListComp elt [⟨tg,iter,ifs,0⟩] scope pos) DS) (Yu bT.length fr wi g tt te i):=by
 intro pins s σ H D I h
 rw [exec_Assign_Name_used _ _ _ _ hsw]
 refine wpAny_bind (wpAny_standAt (wpAny_bind ?_))
 show wpAny _ X.A (do let _ <- comprehension (.ListComp elt [⟨tg,iter,ifs,0⟩] scope pos) scope X.env _ (newList []) false (eval iter X.env) (some (assign (.Name y py) X.env))) _ _ s
 refine wpAny_bind (wpAny_mono (wpAny_comprehension_free (use:=some (assign (.Name y py) X.env)) (Q:=fun _ s'=>SP X pins D .next s') rfl hs mJ S.kind S.loc
  (wpAny_mono (hi pins s σ H _ I h) (fun v s1 h1=>wpAny_mono h1 (fun LQ s2 h2=>?_) fun _ _ e=>e) fun _ _ e=>e)) (fun _ s' hq=>wpAny_pure (wpAny_pure hq)) fun _ _ e=>e)
 obtain ⟨it,fp,tn,J,H2,e,I2,T,aU,f2,R2⟩ := h2
 subst e
 refine Mz (RR:=fun acc C=>compPost (model X.prog X.w) X.A X.xe (some (assign (.Name y py) X.env)) (fun _ s'=>SP X pins D .next s') acc C) CC S hc hg ht he I2 T aU f2 (R2 _ I2.fresh) ?_
 intro C H3 s4 I4 fC ⟨m,hn⟩ q
 refine wpAny_assign_Name (Ob (v := .ref s2.heap.objs.size) I4 hN hiy (.inl hy) rfl (fun s5 I5 ⟨a,hsb,ha⟩=>?_) (.inr hy))
 have OE:C ≠ a:=by
  rcases ha with z | z
  ·rw [z]; exact fC.2.1
  ·exact fun z2=>fC.2.2.2.2.1 y a z z2.symm
 refine ⟨m,hn.sameBut hsb OE,fun h' DR=>⟨_,H3,?_,q⟩⟩
 obtain ⟨hh,gg,dd,OD,oo⟩ := s5
 exact I5.turned (h':=h') (t':=OD) (it:=C) (fun b o hb e=>DR.extBut b o hb e) fC.1 fC.2.1 fC.2.2.2.1 fC.2.2.2.2.1 fC.2.2.2.2.2
end
open PySem.Builtin.Int (intBits)
section
variable {X:Cx}
theorem Gj:Hk X (binaryOp .Mult) (rI IntMulOk fun i j=>.int (i * j)):=nq fun _ _ _ _ _ _ _ hc q=>mul_int q hc
end
theorem cc {a b:Int} {m n:Nat} (ha:intBits a <= m) (hb:intBits b <= n) (h:m + n <= 134217728):IntMulOk a b:=PyProof.Rows.mulOk_of_bits ha hb h
theorem K0 {a b:Int} (h1 : -(2 ^ 64) < b) (h2:b < 2 ^ 64):IntMulOk a b:=IntMulOk.of_right (intBits_le_64 h1 h2)
theorem Ry {a:Int} (h1 : -(2 ^ 64) < a) (h2:a < 2 ^ 64):intBits a <= 64:=intBits_le_64 h1 h2
def Vw (T C:String):Option Bool:=if (Value.type T == Value.type C) = true then some true else if PySem.W.kitMeta C = true then (fastBuiltinMro T).map (·.contains (Value.type C)) else none
theorem Xl (K:PySem.W.Frag) (T C:String):PySem.W.kitOne K (.type T) (.type C) = Vw T C:=rfl
theorem Se:Vw "int" "int" = some true:=by decide +kernel
theorem Qq:Vw "int" "bool" = some false:=by decide +kernel
theorem Kt:Vw "tuple" "tuple" = some true:=by decide +kernel
theorem Ot:Vw "list" "list" = some true:=by decide +kernel
section
variable {X:Cx}
def li (K:PySem.W.Frag):List V -> Hp -> VK -> Prop:=fun xs H Q=>∃ x T C b,xs = [x,.ty C] /\ Iq K H x (.type T) /\ Vw T C = some b /\ Q (.bl b) H
theorem Wu:Dt X (.builtin "isinstance") (li X.K):=by
 intro pins s σ H xs us Q I r h
 obtain ⟨x,T,C,b,rfl,ty,e,q⟩ := h
 obtain ⟨u,w',rfl,rx,rc⟩ := Z0 r
 obtain rfl:w' = Value.type C:=rc
 exact Vr I rx ty ((Xl X.K T C).trans e) fun tk=>⟨.bl b,H,I.tok _,rfl,q⟩
theorem R8 {x:Str} {T:String} {pos:Pos} (hg:Gl X x) (hm:X.mg x = none) (hv:bootBuiltins x = some (.type T)) (hn:x ≠ "__name__" := by decide) (hd:(x == ("__debug__" : Str)) = false:=by decide):PE X (.Name x pos) (tC (.ty T)) :=
 ar hg hm hv rfl hn hd
end
mutual
def Rp (H:Hp):PyData -> V -> Prop
 | .none,v=>v = .aW
 | .bool b,v=>v = .bl b
 | .int i,v=>v = .int i
 | .tuple ds,v=>∃ a xs,v = .ref a /\ H a = some (.tup xs) /\ aN H ds xs
 | .list ds,v=>∃ a xs,v = .ref a /\ H a = some (.lst xs) /\ aN H ds xs
 | .str x,v=>v = .str x /\ PyData.strOk x = true
 | .dict _,_=>False
def aN (H:Hp):List PyData -> List V -> Prop
 | [],vs=>vs = []
 | d :: ds,vs=>∃ x xs,vs = x :: xs /\ Rp H d x /\ aN H ds xs
end
mutual
theorem D1 {H:Hp}:∀ (d:PyData) (v:V),Rp H d v -> d.canLay0 = true
 | .none,_,_=>rfl
 | .bool _,_,_=>rfl
 | .int _,_,_=>rfl
 | .tuple ds,_,h=>by
  unfold Rp at h
  obtain ⟨a,xs,_,_,h⟩ := h
  exact eO ds xs h
 | .list ds,_,h=>by
  unfold Rp at h
  obtain ⟨a,xs,_,_,h⟩ := h
  exact eO ds xs h
 | .str x,v,h=>by
  unfold Rp at h
  exact h.2
 | .dict _,_,h=>by unfold Rp at h; exact h.elim
theorem eO {H:Hp}:∀ (ds:List PyData) (vs:List V),aN H ds vs -> PyData.canLayAll0 ds = true
 | [],_,_=>rfl
 | d :: ds,vs,h=>by
  unfold aN at h
  obtain ⟨x,xs,_,h1,h2⟩ := h
  show (d.canLay0 && PyData.canLayAll0 ds) = true
  rw [D1 d x h1,eO ds xs h2]
  rfl
end
section
variable {X:Cx} {pins:List (Addr × Obj)} {σ:St} {H:Hp} {s:Shared}
mutual
theorem Cz (I:Ag X pins σ H s):∀ (d:PyData) (v:V) (u:Value),Rp H d v -> Aw v u -> ∃ as,Reads s.heap u d as
 | .none,v,u,h,r=>by
  unfold Rp at h
  subst h
  cases r
  exact ⟨_,.none⟩
 | .bool b,v,u,h,r=>by
  unfold Rp at h
  subst h
  cases r
  exact ⟨_,.bool b⟩
 | .int i,v,u,h,r=>by
  unfold Rp at h
  subst h
  obtain ⟨t,rfl⟩ := r
  exact ⟨_,.int i t⟩
 | .tuple ds,v,u,h,r=>by
  unfold Rp at h
  obtain ⟨a,xs,rfl,ha,h⟩ := h
  cases r
  obtain ⟨_,aL,rv,p⟩ := I.aP a _ ha
  obtain ⟨o,h1,h2,n,h3⟩ := p
  obtain ⟨as,q⟩ := cE I ds xs aL h rv
  exact ⟨_,.tuple h1 h2 h3 (by simpa using q)⟩
 | .list ds,v,u,h,r=>by
  unfold Rp at h
  obtain ⟨a,xs,rfl,ha,h⟩ := h
  cases r
  obtain ⟨_,aL,n,rv,p⟩ := I.aP a _ ha
  obtain ⟨as,q⟩ := cE I ds xs aL h rv
  exact ⟨_,.list p rfl rfl (by simpa using q)⟩
 | .str x,v,u,h,r=>by
  unfold Rp at h
  obtain ⟨rfl,_⟩ := h
  obtain ⟨t,rfl⟩ := r
  exact ⟨_,.str x t⟩
 | .dict _,_,_,h,_=>by unfold Rp at h; exact h.elim
theorem cE (I:Ag X pins σ H s):∀ (ds:List PyData) (vs:List V) (us:List Value),aN H ds vs -> Az vs us -> ∃ as,ReadsAll s.heap us ds as
 | [],vs,us,h,r=>by
  unfold aN at h
  subst h
  cases r
  exact ⟨_,.nil⟩
 | d :: ds,vs,us,h,r=>by
  unfold aN at h
  obtain ⟨x,xs,rfl,h1,h2⟩ := h
  cases r with
  | cons r1 r2 =>
   obtain ⟨as,q1⟩ := Cz I d x _ h1 r1
   obtain ⟨bs,q2⟩ := cE I ds xs _ h2 r2
   exact ⟨_,.cons q1 q2⟩
end
end
section
variable {X:Cx} {k:Nat}
def lg (neg:Bool):R2:=fun x y H Q=>∃ d e:PyData,Rp H d x /\ Rp H e y /\ d.depth <= 60 /\ Q (.bl (if neg then !PyData.eqv d e else PyData.eqv d e)) H
theorem Sk (hr:Ct k X.A):Hk X (compareOp .Eq) (lg false):=by
 intro pins s σ H x y v u Q I rx ry h
 obtain ⟨d,e,h1,h2,hd,q⟩ := h
 obtain ⟨as,q1⟩ := Cz I d x v h1 rx
 obtain ⟨bs,q2⟩ := Cz I e y u h2 ry
 have hu:=hr.units
 exact PySem.SeqAt.compareEq_reads q1 q2 (D1 d x h1) (D1 e y h2) (by omega) ⟨.bl (PyData.eqv d e),H,I,rfl,q⟩
theorem gv (hr:Ct k X.A):Hk X (compareOp .NotEq) (lg true):=by
 intro pins s σ H x y v u Q I rx ry h
 obtain ⟨d,e,h1,h2,hd,q⟩ := h
 obtain ⟨as,q1⟩ := Cz I d x v h1 rx
 obtain ⟨bs,q2⟩ := Cz I e y u h2 ry
 have hu:=hr.units
 exact PySem.SeqAt.compareNe_reads q1 q2 (D1 d x h1) (D1 e y h2) (by omega) ⟨.bl (!PyData.eqv d e),H,I,rfl,q⟩
end
theorem Pc {H:Hp}:∀ ns:List Int,aN H (ns.map PyData.int) (ns.map V.int)
 | []=>by unfold aN; rfl
 | n :: ns=>by
  show aN H (PyData.int n :: ns.map PyData.int) (V.int n :: ns.map V.int)
  unfold aN
  exact ⟨_,_,rfl,by unfold Rp; rfl,Pc ns⟩
theorem Aa.new {H H':Hp} {p:Addr} {o:HO} (e:Aa H H') (h:H p = none):Aa H (upd H' p o):=fun b u q=>by
 rw [Ac (Ae q h)]
 exact e b u q
theorem Aa.upd {H:Hp} {p:Addr} {o:HO} (h:H p = none):Aa H (upd H p o):=(Aa.refl H).new h
theorem mK {l : PySem.W.OpenLaw} {n k : Nat} {q : Program} {loose : List Str} {XP : (Str -> Option Value) -> Heap -> Prop} {YP : World -> Heap -> Prop} {d : DefRec} {K : Params -> PySem.W.Frag} {CX : World -> Wo} {sp : World -> Sp} {x : Str}
  (hn:l.most = some n) (CD:n <= sizeLine) (OF:d.params.defaults = []) (hr:Ct k callerA)
  (hY:∀ (w:World) (h:Heap),YP w h -> (K w.params).In h)
  (F:∀ (w:World) (mg:Str -> Option Value) (fa:Addr) (h:Heap),(K w.params).In h -> h.Ns mainGlobals mg -> mg d.name = some (.ref fa) ->
   ∃ fd:FuncData,(∀ (s:Shared) (u:Value),BindsTo s fd ⟨[u],[]⟩ [(x,u)]) /\
    ∀ base:Heap,(K w.params).In base -> base.Ns mainGlobals mg -> Ai l.prog w (K w.params) mg base (CX w) k fa fd [x] (sp w))
  (lX:∀ (w:World) (H:Hp) (a:Addr) (ns:List Int),ns.length <= n -> (∀ z ∈ ns,intBits z <= 2 ^ 20) -> df H -> B9 (K w.params) H a (ns.map V.int) -> sp w [.ref a] H (fun v _=>v = .bl true) fun _ _ _=>False)
  (NV:∀ (w:World) (H:Hp) (s:Shared) (e:Value) (s':Shared),CX w [] H s (fun _ _ _=>False) e s' -> False) :
  PySem.W.WalkO q loose XP YP l.row.toRowW d [] (fun f vs=>PySem.call f vs):=by
 intro w s₀ s₁ mg mb G Y fa o pm cd doc dV kV ho hd lE hD hmg hg args vals as rJ OG hrd qR hlo
 obtain rfl:dV = .none:=PySem.W.Dflts.none hD OF
 obtain rfl:kV = .none:=PySem.W.Dflts.noKw hD
 obtain ⟨a,vs,ns,rfl,rfl,OH,hints,hlen⟩ := Att.lG hn rJ qR
 have big:∀ z ∈ ns,intBits z <= 2 ^ 20:=fun z hz=>by
  have l1:=(PySem.W.layW_cons OG).1
  have l2:=PySem.W.layableW_item l1 (.int z) (List.mem_map.mpr ⟨z,hz,rfl⟩)
  have l3:=(PySem.W.layableW_iff.mp l2).2.2
  simpa only [PySem.W.WData.weight,Builtin.Int.intBits] using l3
 have KX:=hY w _ Y
 obtain ⟨fd,hb,hF⟩ := F w mg fa _ KX G.T.g hmg
 refine PySem.W.enter_call (codeAny_mono (Xn KX G.T.g G.T.b G.T.builtins G.T.nolimit hg OH hints (Nat.le_trans hlen CD) hr hF hb (fun H hO hS=>lX w H a ns hlen big hO hS) fun H e s'=>NV w H s₁ e s') fun r s' hq=>?_)
 obtain ⟨rfl,h2,h3,h4⟩ := hq
 exact ⟨.inl ⟨.bool true,.bool true,[],rfl,fun _=>rfl,.bool true,Att.lH l _,fun _=>⟨List.Pairwise.nil,fun _ hm=>(nomatch hm)⟩⟩,h2,h3,h4⟩
section
variable {X:Cx} {tg:Expr}
def pi (K:PySem.W.Frag):R2:=fun x y H Q=>∃ p xs i v,x = .ref p /\ y = .int i /\ (B9 K H p xs \/ Cj K H p xs) /\ Q8 xs i = some v /\ Q v H
theorem Be (K:PySem.W.Frag) (hK:X.K = K:=by rfl):nj X (pi K):=by
 subst hK
 intro value slice pins s σ H x y v u Q I rx ry h hs
 obtain ⟨p,xs,i,z,e1,e2,h | h,ea,q⟩ := h
 ·exact aa value slice pins s σ H x y v u Q I rx ry ⟨p,xs,i,z,e1,e2,h,ea,q⟩ hs
 ·exact f8 value slice pins s σ H x y v u Q I rx ry ⟨p,xs,i,z,e1,e2,h,ea,q⟩ hs
def pk (K:PySem.W.Frag):List V -> Hp -> VK -> Prop:=fun xs H Q=>∃ p ys,xs = [.ref p] /\ (B9 K H p ys \/ Cj K H p ys) /\ Q (.int ys.length) H
theorem C5 (K:PySem.W.Frag) (hK:X.K = K:=by rfl):Dt X (.builtin "len") (pk K):=by
 subst hK
 exact Om
theorem Gd (K:PySem.W.Frag) (hK:X.K = K:=by rfl):Dt X (.builtin "isinstance") (li K):=by
 subst hK
 exact Wu
theorem Xv (K:PySem.W.Frag) (hK:X.K = K:=by rfl):Hk X (compareOp .In) (nt K false):=by
 subst hK
 exact W7
theorem W9 (K:PySem.W.Frag) (hK:X.K = K:=by rfl):Hk X (compareOp .NotIn) (nt K true):=by
 subst hK
 exact P4
theorem F7 (K:PySem.W.Frag) (hK:X.K = K:=by rfl):oh X (lp K):=by
 subst hK
 exact bh
theorem K2 (K : PySem.W.Frag) {es : List Expr} {kk : Nat} {t : Zg} {n : Nat} {pos : Pos} (hc : X.calm = true) (h : jt X es t) (hK : X.K = K := by rfl)
  (hn:(assignEach es X.env).length = n:=by rfl) (dQ:(assignEach es X.env).findIdx? (·.1) = none:=by rfl):PG X (.Tuple es kk pos) (Zw K n t):=by
 subst hK
 exact i4 hc h hn dQ
def Px (K:PySem.W.Frag) (tl:TE):TI:=fun σ H R=>tl σ H fun x H1=>∃ a,x = .ref a /\ (((∃ xs,B9 K H1 a xs) /\ R (je K a) H1) \/ ((∃ xs,Cj K H1 a xs) /\ R (jf K a) H1))
theorem Dn {l:Expr} {tl:TE} (hl:PE X l tl):PI X tg l (Px X.K tl):=by
 intro pins s σ H R I h
 refine Ci (hl pins s σ H _ I h) fun v s1 bA=>?_
 obtain ⟨x,H1,I1,r1,q1⟩ := bA
 obtain ⟨a,e,q1⟩ := q1
 subst e
 cases r1
 rcases q1 with ⟨⟨xs,hq⟩,q⟩ | ⟨⟨xs,hq⟩,q⟩
 ·obtain ⟨aL,rv,p,hz⟩ := I1.list hq
  refine wpAny_pyIter_list p.isList ?_
  refine ⟨s1.heap.objs.size,[s1.heap.objs.size],_,_,H1,rfl,I1.kept (t':=s1.toks) fun b o e=>Heap.get?_push_of_some _ e,Wm a _,⟨_,Heap.get?_push_size _ rfl,rfl,rfl⟩,fun b hb=>?_,q⟩
  have e:b = s1.heap.objs.size:=by simpa using hb
  subst e
  exact I1.mG (Nat.le_refl _) (I1.aP.fresh (Nat.le_refl _))
 ·obtain ⟨aL,rv,p,hz⟩ := I1.tuple hq
  refine wpAny_pyIter_tuple (show s1.heap.IsTuple a aL.toArray from p) ?_
  refine ⟨s1.heap.objs.size,[s1.heap.objs.size],_,_,H1,rfl,I1.kept (t':=s1.toks) fun b o e=>Heap.get?_push_of_some _ e,Tw a _,⟨_,Heap.get?_push_size _ rfl,rfl,rfl⟩,fun b hb=>?_,q⟩
  have e:b = s1.heap.objs.size:=by simpa using hb
  subst e
  exact I1.mG (Nat.le_refl _) (I1.aP.fresh (Nat.le_refl _))
end
theorem Fe {fr : List Nat} {te : TE} {σ : St} {D : Addr} {H1 : Hp} {Q : Hp -> Prop} {lo : Int} {cnt : Nat} (Pv : Nat -> List V -> Hp -> Prop) (h0 : Pv 0 [] (upd H1 D (.lst [])))
  (hs:∀ i ys H,i < cnt -> Pv i ys H -> ∀ Qe:VK,(∀ y H5,H5 D = some (.lst ys) -> ys.length < sizeLine -> Pv (i + 1) (ys ++ [y]) (upd H5 D (.lst (ys ++ [y]))) -> Qe y H5) -> te (some (.int (lo + i)) :: Em fr σ) H Qe)
  (hd:∀ ys H,Pv cnt ys H -> Q H):Fc 1 fr (c6 lo cnt) (Fw 0) Tt te σ D H1 Q:=by
 refine ⟨fun i m ys H=>m = cnt - i /\ i <= cnt /\ Pv i ys H,⟨cnt,by simp,Nat.zero_le _,h0⟩,?_⟩
 rintro i m ys H' ⟨rfl,hi,p⟩
 by_cases aZ:i < cnt
 ·refine .inr ⟨aZ,fun x H2 y=>?_⟩
  obtain ⟨e,y⟩ := y
  subst e y
  refine ⟨⟨[some (.int (lo + i))],rfl,rfl⟩,?_⟩
  simp only [Tt,↓reduceIte]
  exact hs i ys _ aZ p _ fun y H5 hD hz pv=>⟨hD,hz,cnt - (i + 1),by omega,rfl,aZ,pv⟩
 ·have e:i = cnt:=by omega
  subst e
  exact .inl ⟨Nat.le_refl _,hd ys H' p⟩
theorem Ge {K : PySem.W.Frag} {a : Addr} {xs : List V} {fr : List Nat} {te : TE} {σ : St} {D : Addr} {H1 : Hp} {Q : Hp -> Prop} (Pv : Nat -> List V -> Hp -> Prop) (h0 : Pv 0 [] (upd H1 D (.lst [])))
  (hl:∀ i ys H,i <= xs.length -> Pv i ys H -> B9 K H a xs)
  (hs:∀ i x ys H,xs[i]? = some x -> Pv i ys H -> ∀ Qe:VK,(∀ y H5,H5 D = some (.lst ys) -> ys.length < sizeLine -> Pv (i + 1) (ys ++ [y]) (upd H5 D (.lst (ys ++ [y]))) -> Qe y H5) -> te (some x :: Em fr σ) H Qe)
  (hd:∀ ys H,Pv xs.length ys H -> Q H):Fc 1 fr (je K a) (Fw 0) Tt te σ D H1 Q:=by
 refine ⟨fun i m ys H=>m = xs.length - i /\ i <= xs.length /\ Pv i ys H,⟨xs.length,by simp,Nat.zero_le _,h0⟩,?_⟩
 rintro i m ys H' ⟨rfl,hi,p⟩
 have q:=hl i ys H' hi p
 by_cases aZ:i < xs.length
 ·refine .inr ⟨⟨xs,xs[i],q,by simp [aZ]⟩,fun x H2 y=>?_⟩
  obtain ⟨e,y⟩ := y
  subst e
  refine ⟨⟨[some x],rfl,rfl⟩,?_⟩
  simp only [Tt,↓reduceIte]
  exact hs i x ys _ (y xs q) p _ fun y H5 hD hz pv=>⟨hD,hz,xs.length - (i + 1),by omega,rfl,aZ,pv⟩
 ·have e:i = xs.length:=by omega
  subst e
  exact .inl ⟨⟨xs,q,Nat.le_refl _⟩,hd ys H' p⟩
theorem Wv {K : PySem.W.Frag} {a : Addr} {xs : List V} {fr : List Nat} {te : TE} {σ : St} {D : Addr} {H1 : Hp} {Q : Hp -> Prop} (Pv : Nat -> List V -> Hp -> Prop) (h0 : Pv 0 [] (upd H1 D (.lst [])))
  (hl:∀ i ys H,i <= xs.length -> Pv i ys H -> Cj K H a xs)
  (hs:∀ i x ys H,xs[i]? = some x -> Pv i ys H -> ∀ Qe:VK,(∀ y H5,H5 D = some (.lst ys) -> ys.length < sizeLine -> Pv (i + 1) (ys ++ [y]) (upd H5 D (.lst (ys ++ [y]))) -> Qe y H5) -> te (some x :: Em fr σ) H Qe)
  (hd:∀ ys H,Pv xs.length ys H -> Q H):Fc 1 fr (jf K a) (Fw 0) Tt te σ D H1 Q:=by
 refine ⟨fun i m ys H=>m = xs.length - i /\ i <= xs.length /\ Pv i ys H,⟨xs.length,by simp,Nat.zero_le _,h0⟩,?_⟩
 rintro i m ys H' ⟨rfl,hi,p⟩
 have q:=hl i ys H' hi p
 by_cases aZ:i < xs.length
 ·refine .inr ⟨⟨xs,xs[i],q,by simp [aZ]⟩,fun x H2 y=>?_⟩
  obtain ⟨e,y⟩ := y
  subst e
  refine ⟨⟨[some x],rfl,rfl⟩,?_⟩
  simp only [Tt,↓reduceIte]
  exact hs i x ys _ (y xs q) p _ fun y H5 hD hz pv=>⟨hD,hz,xs.length - (i + 1),by omega,rfl,aZ,pv⟩
 ·have e:i = xs.length:=by omega
  subst e
  exact .inl ⟨⟨xs,q,Nat.le_refl _⟩,hd ys H' p⟩
def Ck (ns:List Int) (k:Int):Int:=(ns[k.toNat]?).getD 0
theorem Zj {ns:List Int} {k:Int} (h0:0 <= k) (h:k < ns.length):Q8 (ns.map V.int) k = some (.int (Ck ns k)):=by
 obtain ⟨j,rfl⟩ : ∃ j:Nat,k = j:=⟨k.toNat,by omega⟩
 have hj:j < ns.length:=by omega
 refine Oj ?_
 unfold Ck
 rw [List.getElem?_map,Int.toNat_natCast,List.getElem?_eq_getElem hj]
 rfl
theorem Ve {ns:List Int} {k:Int} (h0:0 <= k) (h:¬ k < ns.length):Ck ns k = 0:=by
 unfold Ck
 rw [List.getElem?_eq_none (by omega)]
 rfl
theorem Cj.same {K:PySem.W.Frag} {H H':Hp} {a:Addr} {xs:List V} (e:Aa H H') (h:Cj K H a xs):Cj K H' a xs:=by
 rcases h with (h | ⟨o,h⟩) | h
 ·exact .inl (.inl (e _ _ h))
 ·exact .inl (.inr ⟨o,e _ _ h⟩)
 ·exact .inr h
theorem N8 {c:Bool} {A B:Prop} (hc:c = true) (h:A):if c = true then A else B:=by rw [if_pos hc]; exact h
theorem Dk {c:Bool} {A B:Prop} (hc:c = false) (h:B):if c = true then A else B:=by rw [if_neg (by rw [hc]; exact Bool.false_ne_true)]; exact h
theorem Bf {xs:List V} (h:xs.length <= 1000:=by simp):xs.length <= sizeLine:=Nat.le_of_lt (Bx h)
theorem Uz {n:Nat} (h:n <= 1000):n <= sizeLine:=Nat.le_of_lt (Bx h)
def dT (ws:List Int):PyData := .tuple (ws.map PyData.int)
def dL (ws:List Int):PyData := .list (ws.map PyData.int)
def dP (d e:PyData):PyData := .tuple [d,e]
def dO:Option Int -> PyData
 | none=>.none
 | some i=>.int i
def vO:Option Int -> V
 | none=>.aW
 | some i=>.int i
theorem Pb {H:Hp} (i:Int):Rp H (.int i) (.int i):=by unfold Rp; rfl
theorem Y7 {H:Hp}:Rp H .none .aW:=by unfold Rp; rfl
theorem cj {H:Hp} {t:Addr} {ws:List Int} (h:H t = some (.tup (ws.map V.int))):Rp H (dT ws) (.ref t):=by
 unfold dT Rp
 exact ⟨t,_,rfl,h,Pc ws⟩
theorem Ux {H:Hp} {t:Addr} {ws:List Int} (h:H t = some (.lst (ws.map V.int))):Rp H (dL ws) (.ref t):=by
 unfold dL Rp
 exact ⟨t,_,rfl,h,Pc ws⟩
theorem Uy {H:Hp} {p:Addr} {d e:PyData} {x y:V} (h:H p = some (.tup [x,y])) (hd:Rp H d x) (he:Rp H e y):Rp H (dP d e) (.ref p):=by
 unfold dP Rp
 refine ⟨p,_,rfl,h,?_⟩
 unfold aN
 refine ⟨x,_,rfl,hd,?_⟩
 unfold aN
 refine ⟨y,_,rfl,he,?_⟩
 unfold aN
 rfl
theorem Eo:∀ ws:List Int,PyData.depthAll (ws.map PyData.int) = 0
 | []=>rfl
 | w :: ws=>by
  show max (PyData.depth (.int w)) (PyData.depthAll (ws.map PyData.int)) = 0
  rw [Eo ws]
  rfl
theorem Wz (ws:List Int):(dT ws).depth = 1:=by
 show PyData.depthAll (ws.map PyData.int) + 1 = 1
 rw [Eo]
theorem Kl (ws:List Int):(dL ws).depth = 1:=by
 show PyData.depthAll (ws.map PyData.int) + 1 = 1
 rw [Eo]
theorem Qc (d e:PyData):(dP d e).depth = max d.depth e.depth + 1:=by
 show max d.depth (max e.depth 0) + 1 = _
 rw [Nat.max_zero]
theorem Dj:∀ xs ys:List Int,PyData.eqvAll (xs.map PyData.int) (ys.map PyData.int) = decide (xs = ys)
 | [],[]=>rfl
 | x :: xs,y :: ys=>by
  show (PyData.eqv (.int x) (.int y) && PyData.eqvAll (xs.map PyData.int) (ys.map PyData.int)) = _
  rw [Dj xs ys]
  show ((x == y) && decide (xs = ys)) = _
  by_cases h1:x = y <;> by_cases h2:xs = ys <;> simp [h1,h2]
 | [],_ :: _=>rfl
 | _ :: _,[]=>rfl
theorem X7 (xs ys:List Int):PyData.eqv (dT xs) (dT ys) = decide (xs = ys):=Dj xs ys
theorem S7 (xs ys:List Int):PyData.eqv (dL xs) (dL ys) = decide (xs = ys):=Dj xs ys
theorem X6 (a b c d:PyData):PyData.eqv (dP a b) (dP c d) = (PyData.eqv a c && PyData.eqv b d):=by
 show (PyData.eqv a c && (PyData.eqv b d && true)) = _
 rw [Bool.and_true]
section
variable {X:Cx} {pins:List (Addr × Obj)} {σ:St} {H:Hp} {s:Shared} {h':Heap}
theorem Ag.mL {ch : List Addr} {T : Addr} {o : HO} {t' : Nat} (I : Ag X pins σ H s) (fX : ∀ b ∈ ch, Ka X pins H b) (k : ∀ b ob, b ∉ ch -> s.heap.get? b = some ob -> h'.get? b = some ob)
  (hT:s.heap.objs.size <= T) (new:Bn X.prog X.w (upd H T o) h' T o):Ag X pins σ (upd H T o) { s with heap:=h',toks:=t' }:=by
 have hn:H T = none:=I.aP.fresh hT
 have off:∀ b u,H b = some u -> b ∉ ch:=fun b u e hb=>by
  have z:=(fX b hb).1
  rw [e] at z
  cases z
 refine I.call (g':=s.gens) (d':=s.drawn) (t':=t') (ch:=ch) ⟨fun b ob e _ _ hc=>k b ob hc e,fun b ob e _ _ hc=>⟨ob.slots,k b ob hc e⟩,fun b ob e n hc=>?_,fun b ob e hc=>⟨ob,k b ob hc e⟩,fun b xs e=>?_,fun b ob u e=>?_,fun b ps e=>⟨#[],?_⟩⟩ (fun b u e=>?_) I.bare
  (fun b hb=>⟨(fX b hb).2.2.2.1,(fX b hb).2.1,(fX b hb).2.2.2.2.1,(fX b hb).2.2.2.2.2⟩)
 ·rw [Ac (Nat.ne_of_lt (Nat.lt_of_lt_of_le (Heap.lt_size e) hT))]
  exact n
 ·rw [Ac (Ae e hn)]
  exact e
 ·rw [Ac (Ae e hn)]
  exact e
 ·rw [Ac (Ae e hn),e]
  simp
 ·by_cases hb:b = T
  ·subst hb
   rw [A5] at e
   cases e
   exact new
  ·rw [Ac hb] at e
   refine (I.aP b u e).dR (fun c v hc q=>k c v ?_ q) (fun c q=>?_) fun c xs q=>?_
   ·rcases hc with rfl | hc
    ·exact off _ _ e
    ·exact off _ _ hc
   ·rw [Ac (Ae q hn)]
    exact q
   ·rw [Ac (Ae q hn)]
    exact q
theorem Ag.mM {ch:List Addr} {t':Nat} (I:Ag X pins σ H s) (fX:∀ b ∈ ch,Ka X pins H b) (k:∀ b ob,b ∉ ch -> s.heap.get? b = some ob -> h'.get? b = some ob):Ag X pins σ H { s with heap:=h',toks:=t' }:=by
 have off:∀ b u,H b = some u -> b ∉ ch:=fun b u e hb=>by
  have z:=(fX b hb).1
  rw [e] at z
  cases z
 refine I.call (g':=s.gens) (d':=s.drawn) (t':=t') (ch:=ch) ⟨fun b ob e _ _ hc=>k b ob hc e,fun b ob e _ _ hc=>⟨ob.slots,k b ob hc e⟩,fun b ob e n hc=>n,fun b ob e hc=>⟨ob,k b ob hc e⟩,fun b xs e=>e,fun b ob u e=>e,fun b ps e=>⟨#[],by rw [e]; simp⟩⟩ (fun b u e=>?_) I.bare
  (fun b hb=>⟨(fX b hb).2.2.2.1,(fX b hb).2.1,(fX b hb).2.2.2.2.1,(fX b hb).2.2.2.2.2⟩)
 refine (I.aP b u e).dR (fun c v hc q=>k c v ?_ q) (fun c q=>q) fun c xs q=>q
 rcases hc with rfl | hc
 ·exact off _ _ e
 ·exact off _ _ hc
end
def t9 (K:PySem.W.Frag) (l1 l2:Addr):It :=
 ⟨fun i H=>∃ xs ys x y,B9 K H l1 xs /\ B9 K H l2 ys /\ xs[i]? = some x /\ ys[i]? = some y,
  fun i H v H'=>∃ T x y,v = .ref T /\ H T = none /\ H' = upd H T (.tup [x,y]) /\ (∀ xs,B9 K H l1 xs -> xs[i]? = some x) /\ ∀ ys,B9 K H l2 ys -> ys[i]? = some y,
  fun i H=>∃ xs ys,B9 K H l1 xs /\ B9 K H l2 ys /\ (xs.length <= i \/ ys.length <= i)⟩
section
variable {X:Cx}
def u5 (K:PySem.W.Frag) (ta:TA):TI:=fun σ H R=>ta σ H fun vs H1=>∃ a b,vs = [.ref a,.ref b] /\ (∃ xs,B9 K H1 a xs) /\ (∃ ys,B9 K H1 b ys) /\ R (t9 K a b) H1
end
def sw (K:PySem.W.Frag) (l:Addr):It :=
 ⟨fun i H=>∃ xs x,B9 K H l xs /\ xs[i]? = some x,
  fun i H v H'=>∃ T x,v = .ref T /\ H T = none /\ H' = upd H T (.tup [.int i,x]) /\ ∀ xs,B9 K H l xs -> xs[i]? = some x,
  fun i H=>∃ xs,B9 K H l xs /\ xs.length <= i⟩
section
variable {X:Cx}
def r6 (K:PySem.W.Frag) (ta:TA):TI:=fun σ H R=>ta σ H fun vs H1=>∃ a,vs = [.ref a] /\ (∃ xs,B9 K H1 a xs) /\ R (sw K a) H1
end
section
variable {X:Cx}
end
section
variable {X:Cx}
def pf (K:PySem.W.Frag):V -> List V -> Hp -> VK -> Prop:=fun x vs H Q=>∃ (l:Addr) (ns:List Int) (y:Int) (j:Nat),x = .ref l /\ vs = [.int y] /\ B9 K H l (ns.map V.int) /\ ns[j]? = some y /\ (∀ m,m < j -> ns[m]? ≠ some y) /\ Q (.int (j:Nat)) H
end
structure Q0 (K:PySem.W.Frag) (x qual:Str) (st:Stmt) (f:Addr) (fd:FuncData):Prop where
 ex:∃ (oc:Value) (od:Option Addr) (dV kV doc pm:Value) (an:Option Addr) (aV ct:Value) (iA:Array (Option Value)),
  fd = PySem.W.fnOf x qual (Ao st) (Aj st) (A9 st) dV kV doc pm an aV ct /\ K.lookup f = some ⟨oc,od,.func fd,iA⟩ /\ PySem.W.codeIn K aV qual = true
section
variable {P:Program} {w:World} {K:PySem.W.Frag} {mg:Str -> Option Value} {base:Heap}
theorem Q0.ok {x qual : Str} {st : Stmt} {f : Addr} {fd : FuncData} {N ps : List Str} {k : Nat} {sp : Sp} (F : Q0 K x qual st f fd) (S : Aq N ps (A9 st)) (len : ∀ vs H Q E, sp vs H Q E -> vs.length = ps.length)
  (cC:∀ (aV:Value) (A:Around) (outer:List Env) (s:Shared) (H:Hp) (vs:List V) (Q:VK) (E:XK),Ct k (A.deeper (envOfC qual (A9 st) s.heap.objs.size f aV)) -> sp vs H Q E ->
   ∃ t,Mc (Ev CX0 P w K mg base N qual (A9 st) f aV A outer s H E).sY (Aj st) t /\ t { nx:=fun _ H'=>Q .aW H',rt:=Q } (start N vs) H):Ai P w K mg base CX0 (k + 1) f fd ps sp:=by
 obtain ⟨oc,od,dV,kV,doc,pm,an,aV,ct,iA,rfl,lk,lE⟩ := F.ex
 refine Xa lk lE S len fun A outer s H vs Q E hr lX=>?_
 obtain ⟨t,h,q⟩ := cC aV A outer s H vs Q E hr lX
 exact ⟨t,h.sY,q⟩
end
section
variable {X:Cx} {a b c:Expr} {rest:List Expr} {ta tb:TE} {tA BZ:TT} {t u:TS} {pos:Pos}
def mi (ta tb:TE):TE:=fun σ H Q=>ta σ H fun x H1=>∃ c d:Bool,x = .bl c /\ (c = true -> ∀ Q':VK,Q' (.bl d) H1 -> tb σ H1 Q') /\ Q (.bl (c && d)) H1
def ue (ta tb:TE):TE:=fun σ H Q=>ta σ H fun x H1=>∃ c d:Bool,x = .bl c /\ (c = false -> ∀ Q':VK,Q' (.bl d) H1 -> tb σ H1 Q') /\ Q (.bl (c || d)) H1
theorem P6 (ha:PE X a ta) (hb:PE X (.BoolOp .And (b :: rest) pos) tb):PE X (.BoolOp .And (a :: b :: rest) pos) (mi ta tb):=by
 intro pins s σ H Q I h
 refine BoolOp_and (Ci (ha pins s σ H _ I h) fun v s1 bA=>?_)
 obtain ⟨x,H1,I1,r1,q1⟩ := bA
 obtain ⟨c,d,rfl,q0,q1⟩ := q1
 cases r1
 refine wpAny_truthy_bool ?_
 cases c with
 | true=>exact hb pins s1 σ H1 Q I1 (q0 rfl Q q1)
 | false=>exact ⟨.bl false,H1,I1,rfl,q1⟩
def mh (t u:TT):TT:=fun σ H Q=>t σ H fun c H1=>∃ d:Bool,(c = true -> ∀ Q':Bool -> Hp -> Prop,Q' d H1 -> u σ H1 Q') /\ Q (c && d) H1
def qk (t u:TT):TT:=fun σ H Q=>t σ H fun c H1=>∃ d:Bool,(c = false -> ∀ Q':Bool -> Hp -> Prop,Q' d H1 -> u σ H1 Q') /\ Q (c || d) H1
theorem az (ha:PT X a tA) (hb:PW X (.BoolOp .And (b :: rest) pos) BZ):PW X (.BoolOp .And (a :: b :: rest) pos) (mh tA BZ):=by
 intro wh pins s σ H Q I h
 refine isTrue_and (Ci (ha pins s σ H _ I h) fun c s1 bA=>?_)
 obtain ⟨H1,I1,d,q0,q1⟩ := bA
 cases c with
 | true=>exact hb wh pins s1 σ H1 Q I1 (q0 rfl Q q1)
 | false=>exact ⟨H1,I1,q1⟩
theorem G0 (ha:PT X a tA) (hb:PW X (.BoolOp .Or (b :: rest) pos) BZ):PW X (.BoolOp .Or (a :: b :: rest) pos) (qk tA BZ):=by
 intro wh pins s σ H Q I h
 refine isTrue_or (Ci (ha pins s σ H _ I h) fun c s1 bA=>?_)
 obtain ⟨H1,I1,d,q0,q1⟩ := bA
 cases c with
 | true=>exact ⟨H1,I1,q1⟩
 | false=>exact hb wh pins s1 σ H1 Q I1 (q0 rfl Q q1)
theorem SP.mono {pins:List (Addr × Obj)} {D D':Ha} {f:Flow} {s':Shared} (h:SP X pins D f s') (hn:∀ σ H,D.nx σ H -> D'.nx σ H) (hr:∀ v H,D.rt v H -> D'.rt v H) (hb:∀ σ H,D.bk σ H -> D'.bk σ H) (hc:∀ σ H,D.ct σ H -> D'.ct σ H):SP X pins D' f s':=by
 cases f with
 | next=>obtain ⟨σ',H',I,q⟩ := h; exact ⟨σ',H',I,hn _ _ q⟩
 | brk=>obtain ⟨σ',H',I,q⟩ := h; exact ⟨σ',H',I,hb _ _ q⟩
 | cont=>obtain ⟨σ',H',I,q⟩ := h; exact ⟨σ',H',I,hc _ _ q⟩
 | ret v=>obtain ⟨x,σ',H',I,r,q⟩ := h; exact ⟨x,σ',H',I,r,hr _ _ q⟩
def qf (c:TT) (t u:TS):TS:=fun D σ H=>c σ H fun b H1=>∃ N:St -> Hp -> Prop,(b = true -> t { D with nx:=N } σ H1) /\ (b = false -> u { D with nx:=N } σ H1) /\ ∀ σ' H',N σ' H' -> D.nx σ' H'
theorem E6 {c:Expr} {a b:List Stmt} {tc:TT} (hc:PT X c tc) (ha:Mc X a t) (hb:Mc X b u):PS X (.If c a b pos) (qf tc t u):=by
 intro pins s σ H D I h
 refine wpAny_If (Ci (hc pins s σ H _ I h) fun d s1 bA=>?_)
 obtain ⟨H1,I1,N,q1,q2,q3⟩ := bA
 cases d with
 | true=>exact Ci (ha pins s1 σ H1 _ I1 (q1 rfl)) fun f s2 q=>q.mono q3 (fun _ _ z=>z) (fun _ _ z=>z) fun _ _ z=>z
 | false=>exact Ci (hb pins s1 σ H1 _ I1 (q2 rfl)) fun f s2 q=>q.mono q3 (fun _ _ z=>z) (fun _ _ z=>z) fun _ _ z=>z
end
section
variable {P:Program} {w:World} {A:Around} {E:Value -> Shared -> Prop} {s:Shared}
end
def Kc:Bool -> Heap -> Addr -> Addr -> Nat -> Prop
 | true,h,I,T,i=>h.IsTupleIter I T i
 | false,h,I,T,i=>h.IsListIter I T i
def V4:Bool -> Heap -> Addr -> Array Value -> Prop
 | true,h,T,vs=>h.IsTuple T vs
 | false,h,T,vs=>h.IsList T vs
def Xj:Bool -> String
 | true=>"tuple_iterator"
 | false=>"list_iterator"
def Sq:Bool -> PySem.W.Frag -> Hp -> Addr -> List V -> Prop
 | true,K,H,a,xs=>Cj K H a xs
 | false,K,H,a,xs=>B9 K H a xs
theorem Kc.data {b:Bool} {h:Heap} {I T:Addr} {i:Nat} (x:Kc b h I T i):∃ o,h.get? I = some o /\ o.cls = .type (Xj b) /\ o.data = .fields #[.ref T,.int i 0]:=by cases b <;> exact x
theorem Kc.of {b:Bool} {h:Heap} {I T:Addr} {i:Nat} (x:∃ o,h.get? I = some o /\ o.cls = .type (Xj b) /\ o.data = .fields #[.ref T,.int i 0]):Kc b h I T i:=by cases b <;> exact x
theorem Kc.at' {b:Bool} {h h':Heap} {I T:Addr} {i:Nat} (x:Kc b h I T i) (k:∀ o,h.get? I = some o -> h'.get? I = some o):Kc b h' I T i:=by
 obtain ⟨o,e,r⟩ := x.data
 exact .of ⟨o,k _ e,r⟩
theorem V4.at' {b:Bool} {h h':Heap} {T:Addr} {vs:Array Value} (x:V4 b h T vs) (k:∀ o,h.get? T = some o -> h'.get? T = some o):V4 b h' T vs:=by
 cases b <;> exact let ⟨o,e,r⟩ := x; ⟨o,k _ e,r⟩
theorem V4.lt {b:Bool} {h:Heap} {T:Addr} {vs:Array Value} (x:V4 b h T vs):T < h.objs.size:=by
 cases b <;> exact let ⟨_,e,_⟩ := x; Heap.lt_size e
theorem Kc.lt {b:Bool} {h:Heap} {I T:Addr} {i:Nat} (x:Kc b h I T i):I < h.objs.size:=by
 obtain ⟨_,e,_⟩ := x.data
 exact Heap.lt_size e
theorem Kc.ne {b c:Bool} {h:Heap} {I T:Addr} {i:Nat} {vs:Array Value} (x:Kc b h I T i) (y:V4 c h T vs):T ≠ I:=by
 rintro rfl
 obtain ⟨o,e,k,_⟩ := x.data
 cases c <;> (obtain ⟨o',e',k',_⟩ := y; rw [e] at e'; cases e'; rw [k] at k'; cases b <;> simp [Xj] at k')
section
variable {X:Cx} {pins:List (Addr × Obj)} {σ:St} {H:Hp} {s:Shared}
end
open AutoSeq1 (wpAny_loadPart')
structure uh (z TI TO i1 i2 l1 l2:Nat):Prop where
 a:TI ≠ z
 b:TO ≠ z
 c:i1 ≠ z
 d:i2 ≠ z
 e:TI ≠ TO
 f:TI ≠ i1
 g:TI ≠ i2
 h:TO ≠ i1
 i:TO ≠ i2
 j:i1 ≠ i2
 k1:l1 ≠ z /\ l1 ≠ TO /\ l1 ≠ i1 /\ l1 ≠ i2
 k2:l2 ≠ z /\ l2 ≠ TO /\ l2 ≠ i1 /\ l2 ≠ i2
section
variable {P:Program} {w:World} {A:Around} {E:Value -> Shared -> Prop} {s:Shared}
abbrev sq (b1:Bool) (h:Heap) (l1:Addr):Heap:=h.push { cls := .type (Xj b1),data := .fields #[.ref l1,.int 0 0] }
abbrev sr (b1 b2:Bool) (h:Heap) (l1 l2:Addr):Heap:=(sq b1 h l1).push { cls := .type (Xj b2),data := .fields #[.ref l2,.int 0 0] }
abbrev su (b1 b2:Bool) (h:Heap) (l1 l2:Addr):Heap:=(sr b1 b2 h l1 l2).push { cls := .type "tuple",data := .seq #[.ref h.objs.size,.ref (sq b1 h l1).objs.size] }
abbrev ug (b1 b2:Bool) (h:Heap) (l1 l2:Addr):Heap:=(su b1 b2 h l1 l2).push { cls := .type "tuple",data := .seq #[.none,.none] }
abbrev uk (b1 b2:Bool) (h:Heap) (l1 l2:Addr):Heap:=(ug b1 b2 h l1 l2).push { cls := .type "zip",data := .fields #[.none,.bool false,.bool false,.ref (sr b1 b2 h l1 l2).objs.size,.ref (su b1 b2 h l1 l2).objs.size] }
end
open AutoSeq1 (wpAny_loadPart')
section
variable {P:Program} {w:World} {A:Around} {E:Value -> Shared -> Prop} {s:Shared}
end
def o8 (K:PySem.W.Frag) (b1 b2:Bool) (l1 l2:Addr):It :=
 ⟨fun i H=>∃ xs ys x y,Sq b1 K H l1 xs /\ Sq b2 K H l2 ys /\ xs[i]? = some x /\ ys[i]? = some y,
  fun i H v H'=>∃ T x y,v = .ref T /\ H T = none /\ H' = upd H T (.tup [x,y]) /\ (∀ xs,Sq b1 K H l1 xs -> xs[i]? = some x) /\ ∀ ys,Sq b2 K H l2 ys -> ys[i]? = some y,
  fun i H=>∃ xs ys,Sq b1 K H l1 xs /\ Sq b2 K H l2 ys /\ (xs.length = i \/ (i < xs.length /\ ys.length = i))⟩
section
variable {X:Cx}
def re (K:PySem.W.Frag) (ta:TA):TI:=fun σ H R=>ta σ H fun vs H1=>∃ (b1 b2:Bool) (a b:Addr),vs = [.ref a,.ref b] /\ (∃ xs,Sq b1 K H1 a xs) /\ (∃ ys,Sq b2 K H1 b ys) /\ R (o8 K b1 b2 a b) H1
end
def o7 (K:PySem.W.Frag) (b:Bool) (l:Addr):It :=
 ⟨fun i H=>∃ xs x,Sq b K H l xs /\ xs[i]? = some x,
  fun i H v H'=>∃ T x,v = .ref T /\ H T = none /\ H' = upd H T (.tup [.int i,x]) /\ ∀ xs,Sq b K H l xs -> xs[i]? = some x,
  fun i H=>∃ xs,Sq b K H l xs /\ xs.length = i⟩
section
variable {X:Cx}
def oz (K:PySem.W.Frag) (ta:TA):TI:=fun σ H R=>ta σ H fun vs H1=>∃ (b:Bool) (a:Addr),vs = [.ref a] /\ (∃ xs,Sq b K H1 a xs) /\ R (o7 K b a) H1
end
abbrev oy (K:PySem.W.Frag):TG:=Zw K 2 (N5 (Fw 0) (N5 (Fw 1) ef))
section
variable {X:Cx} {a b:Expr} {rest:List Expr} {ta tb:TE} {tA BZ:TT} {pos:Pos}
def mj (ta tb:TE):TE:=fun σ H Q=>ta σ H fun x H1=>∃ (c:Bool) (N:Bool -> Hp -> Prop),x = .bl c /\ (c = false -> N false H1) /\ (c = true -> tb σ H1 fun y H2=>∃ d:Bool,y = .bl d /\ N d H2) /\ ∀ d H2,N d H2 -> Q (.bl d) H2
def ql (ta tb:TE):TE:=fun σ H Q=>ta σ H fun x H1=>∃ (c:Bool) (N:Bool -> Hp -> Prop),x = .bl c /\ (c = true -> N true H1) /\ (c = false -> tb σ H1 fun y H2=>∃ d:Bool,y = .bl d /\ N d H2) /\ ∀ d H2,N d H2 -> Q (.bl d) H2
theorem aq (ha:PE X a ta) (hb:PE X (.BoolOp .And (b :: rest) pos) tb):PE X (.BoolOp .And (a :: b :: rest) pos) (mj ta tb):=by
 intro pins s σ H Q I h
 refine BoolOp_and (Ci (ha pins s σ H _ I h) fun v s1 bA=>?_)
 obtain ⟨x,H1,I1,r1,q1⟩ := bA
 obtain ⟨c,N,rfl,q0,q1,q2⟩ := q1
 cases r1
 refine wpAny_truthy_bool ?_
 cases c with
 | true=>exact Ci (hb pins s1 σ H1 _ I1 (q1 rfl)) fun v s2 ⟨y,H2,I2,r2,d,e,n⟩=>⟨y,H2,I2,r2,by rw [e]; exact q2 d H2 n⟩
 | false=>exact ⟨.bl false,H1,I1,rfl,q2 _ _ (q0 rfl)⟩
theorem Y3 (ha:PE X a ta) (hb:PE X (.BoolOp .Or (b :: rest) pos) tb):PE X (.BoolOp .Or (a :: b :: rest) pos) (ql ta tb):=by
 intro pins s σ H Q I h
 refine BoolOp_or (Ci (ha pins s σ H _ I h) fun v s1 bA=>?_)
 obtain ⟨x,H1,I1,r1,q1⟩ := bA
 obtain ⟨c,N,rfl,q0,q1,q2⟩ := q1
 cases r1
 refine wpAny_truthy_bool ?_
 cases c with
 | false=>exact Ci (hb pins s1 σ H1 _ I1 (q1 rfl)) fun v s2 ⟨y,H2,I2,r2,d,e,n⟩=>⟨y,H2,I2,r2,by rw [e]; exact q2 d H2 n⟩
 | true=>exact ⟨.bl true,H1,I1,rfl,q2 _ _ (q0 rfl)⟩
def se (t u:TT):TT:=fun σ H Q=>t σ H fun c H1=>∃ N:Bool -> Hp -> Prop,(c = false -> N false H1) /\ (c = true -> u σ H1 N) /\ ∀ d H2,N d H2 -> Q d H2
def ud (t u:TT):TT:=fun σ H Q=>t σ H fun c H1=>∃ N:Bool -> Hp -> Prop,(c = true -> N true H1) /\ (c = false -> u σ H1 N) /\ ∀ d H2,N d H2 -> Q d H2
end
section
variable {P:Program} {w:World} {A:Around} {E:Value -> Shared -> Prop} {s:Shared}
end
section
variable {X:Cx}
def mv (K:PySem.W.Frag) (ta:TA):TE:=fun σ H Q=>ta σ H fun vs H1=>∃ l xs,vs = [.ref l] /\ B9 K H1 l xs /\ ∀ d,H1 d = none -> Q (.ref d) (upd H1 d (.lst xs.reverse))
end
section
variable {X:Cx}
def qu (i j:Int):Prop:=0 < j /\ intBits j <= 8999
end
section
variable {X:Cx} {tg:Expr}
def qy (lo c:Int) (n:Nat):It:=⟨fun i _=>i < n,fun i H x H'=>H' = H /\ x = .int (lo + i * c),fun i _=>n <= i⟩
def mf (a b c:Int):Nat:=if a < b then ((b - a - 1) / c + 1).toNat else 0
def r8 (ta:TA):TI:=fun σ H R=>ta σ H fun vs H1=>∃ i j c:Int,vs = [.int i,.int j,.int c] /\ (-(2 ^ 60) <= i /\ i < 2 ^ 60 /\ -(2 ^ 60) <= j /\ j < 2 ^ 60) /\ (0 < c /\ c < 2 ^ 30) /\ R (qy i c (mf i j c)) H1
end
theorem Bn.here {P:Program} {w:World} {H:Hp} {h:Heap} {a:Addr} {o:HO} (x:Bn P w H h a o):∃ ob,h.get? a = some ob:=by
 cases o with
 | lst xs=>obtain ⟨_,_,_,_,e⟩ := x; exact ⟨_,e⟩
 | tup xs=>obtain ⟨_,_,_,o,e,_⟩ := x; exact ⟨_,e⟩
 | dK kvs=>obtain ⟨_,_,_,_,o,_,_,e,_⟩ := x; exact ⟨_,e⟩
 | dT kvs=>obtain ⟨_,_,_,_,o,_,_,e,_⟩ := x; exact ⟨_,e⟩
 | set S n=>obtain ⟨o,_,_,_,e,_⟩ := x; exact ⟨_,e⟩
 | ins C dx fs=>obtain ⟨_,_,_,e,_⟩ := x; exact ⟨_,e⟩
 | own y=>exact x
 | xd fs=>obtain ⟨mA,⟨od,es,ep,e,c⟩,r⟩ := x; exact ⟨_,e⟩
 | LO lo hi=>obtain ⟨t,u,v,e⟩ := x; exact ⟨_,e⟩
 | bO ob u=>exact ⟨_,x.1⟩
 | qP ps=>exact ⟨_,(show h.get? a = some _ from x)⟩
 | met f y=>exact ⟨_,(show h.get? a = some _ from x)⟩
 | ext φ=>exact x.2.1
theorem Ft.off {P:Program} {w:World} {H:Hp} {h:Heap} {a:Addr} (ok:Ft P w H h) (e:h.get? a = none):H a = none:=by
 cases q:H a with
 | none=>rfl
 | some u =>
  obtain ⟨ob,z⟩ := (ok a u q).here
  rw [e] at z
  cases z
def Dw (a:Addr) (cls:Value) (h:Heap):Prop := ∃ o vs,h.get? a = some o /\ o.cls = cls /\ o.data = .fields vs
def kh (a:Addr) (h:Heap):Prop := ∃ o vs,h.get? a = some o /\ o.data = .fields vs
theorem Uk {P:Program} {w:World} {H:Hp} {h:Heap} {a:Addr} {cls:Value} (x:Dw a cls h):Bn P w H h a (.ext (Dw a cls)):=by
 refine ⟨x,?_,?_⟩
 ·obtain ⟨o,_,e,_⟩ := x
  exact ⟨o,e⟩
 ·rintro h1 h2 ⟨o,vs,e,c⟩ k
  exact ⟨o,vs,k o e,c⟩
def oj (h:Heap) (a T:Addr):Prop := ∃ oe vs oT ts a0,h.get? a = some oe /\ oe.data = .fields vs /\ vs[0]? = some a0 /\ vs[1]? = some (.ref T) /\ T ≠ a /\ h.get? T = some oT /\ oT.data = .fields ts /\ ts[3]? = some .none
structure Pz (P:Program) (w:World) (fr:List Addr) (H:Hp) (h:Heap) (H':Hp) (h':Heap) (a T:Addr) (cls:Value):Prop where
 un:Un fr [] H H' h h'
 ok:Ft P w H' h'
 exc:H' a = some (.ext (Dw a cls))
 off:H' T = none
 new:h.get? T = none
 tr:oj h' a T
def Bi (P:Program) (w:World):Wo:=fun outer H s E e s'=>∃ (a T:Addr) (cls:Value) (H':Hp),e = .ref a /\ s'.os = s.os /\ AllBare s'.gens /\ Pz P w (eK outer) H s.heap H' s'.heap a T cls /\ E cls none H'
theorem kj {P : Program} {w : World} {fr old : List Addr} {H H' : Hp} {h h' h2 : Heap} {a T : Addr} {cls : Value} (u : Un fr [] H H' h h') (ok : Ft P w H' h') (eI : ∀ b ∈ fr, H' b = none)
  (qS:∀ b ∈ fr,∃ o,h'.get? b = some o /\ ∀ vs,o.data ≠ .fields vs) (ha:H' a = some (.ext (Dw a cls))) (hold:∀ b ∈ old,H' b = none /\ h.get? b = none)
  (st:(PySem.W.hideAll h' (fr ++ a :: old)).StaysIn h2) (sl:h'.UpToSlots h2) (xa:Dw a cls h2) (xT:kh T h2) (nT:(PySem.W.hideAll h' (fr ++ a :: old)).get? T = none) (na:T ≠ a) :
  Un fr [] H H' h h2 /\ Ft P w H' h2 /\ H' T = none /\ h.get? T = none:=by
 have hT:H' T = none /\ h.get? T = none:=by
  cases q:h'.get? T with
  | none =>
   refine ⟨ok.off q,?_⟩
   cases z:h.get? T with
   | none=>rfl
   | some o =>
    obtain ⟨o',e⟩ := u.there T o z (by simp)
    rw [q] at e
    cases e
  | some o =>
   by_cases hm:T ∈ fr ++ a :: old
   ·rcases List.mem_append.mp hm with z | z
    ·obtain ⟨o1,e1,d1⟩ := qS T z
     obtain ⟨DB,e2⟩ := sl T o1 e1 d1
     obtain ⟨o3,vs,e3,d3⟩ := xT
     rw [e2] at e3
     cases e3
     exact absurd d3 (d1 vs)
    ·rcases List.mem_cons.mp z with z | z
     ·exact absurd z na
     ·exact hold T z
   ·have:=PySem.W.hideAll_get _ q hm
    rw [nT] at this
    cases this
 have mO:∀ b o u',h'.get? b = some o -> H' b = some u' -> b ≠ a -> h2.get? b = some o:=fun b o u' e q n1=>by
  refine st b o (PySem.W.hideAll_get _ e fun hm=>?_)
  rcases List.mem_append.mp hm with z | z
  ·rw [eI b z] at q
   cases q
  ·rcases List.mem_cons.mp z with z | z
   ·exact n1 z
   ·rw [(hold b z).1] at q
    cases q
 have sZ:∀ b o o',h.get? b = some o -> h'.get? b = some o' -> H' b = none -> b ∉ fr -> h2.get? b = some o':=fun b o o' e e' q n=>by
  refine st b o' (PySem.W.hideAll_get _ e' fun hm=>?_)
  rcases List.mem_append.mp hm with z | z
  ·exact n z
  ·rcases List.mem_cons.mp z with z | z
   ·rw [z,ha] at q
    cases q
   ·rw [(hold b z).2] at e
    cases e
 refine ⟨⟨fun b o e q n _=>sZ b o o e (u.keep b o e q n (by simp)) (u.free b o e q (by simp)) n,fun b o e q n _=>?_,fun b o e q _=>u.free b o e q (by simp),fun b o e _=>?_,u.dU,u.cQ,u.dW⟩,fun b v q=>?_,hT⟩
 ·obtain ⟨sl1,e1⟩ := u.slot b o e q n (by simp)
  obtain ⟨o2,e2,d2⟩ := qS b n
  rw [e1] at e2
  cases e2
  obtain ⟨sl3,e3⟩ := sl b _ e1 d2
  exact ⟨sl3,e3⟩
 ·obtain ⟨o',e'⟩ := u.there b o e (by simp)
  cases q:H' b with
  | none =>
   by_cases n:b ∈ fr
   ·obtain ⟨o1,e1,d1⟩ := qS b n
    obtain ⟨DB,e2⟩ := sl b o1 e1 d1
    exact ⟨_,e2⟩
   ·exact ⟨_,sZ b o o' e e' q n⟩
  | some v =>
   by_cases n1:b = a
   ·obtain ⟨o2,_,e2,_⟩ := xa
    rw [n1]
    exact ⟨_,e2⟩
   ·exact ⟨_,mO b o' v e' q n1⟩
 ·by_cases n1:b = a
  ·subst n1
   rw [ha] at q
   cases q
   exact Uk xa
  ·refine (ok b v q).dR (fun c x hc e=>?_) (fun c e=>e) fun c xs e=>e
   rcases hc with z | z
   ·subst z
    exact mO c x v e q n1
   ·refine mO c x _ e z fun e2=>?_
    rw [e2,ha] at z
    cases z
section
variable {X:Cx} {pins:List (Addr × Obj)} {σ:St} {H:Hp} {s:Shared}
theorem Ag.qS (I:Ag X pins σ H s):∀ b ∈ eK X.stack,∃ o,s.heap.get? b = some o /\ ∀ vs,o.data ≠ .fields vs:=fun b hb=>(I.stack.mem hb).2
theorem Ag.rM {h' : Heap} {e : Addr} {cls : Value} {vs : List Value} {t' : Nat} (I : Ag X pins σ H s) (m : Heap.MadeExcOf s.heap h' e cls vs) :
  Aa H (upd H e (.ext (Dw e cls))) /\ Ag X pins σ (upd H e (.ext (Dw e cls))) { s with heap:=h',toks:=t' }:=by
 have hn:=I.aP.off m.new
 have same:Aa H (upd H e (.ext (Dw e cls))):=fun b o q=>by
  rw [Ac (Ae q hn)]
  exact q
 obtain ⟨t,e1,_,_⟩ := m.there
 refine ⟨same,I.un ⟨fun b o q _ _ _=>m.keeps b o q,fun b o q _ _ _=>⟨o.slots,m.keeps b o q⟩,fun b o q z _=>?_,fun b o q _=>⟨o,m.keeps b o q⟩,fun b xs q=>same _ _ q,fun b o u q=>same _ _ q,fun b ps q=>⟨#[],by rw [same _ _ q]; simp⟩⟩ fun b u q=>?_⟩
 ·rw [Ac (fun e2=>?_)]
  ·exact z
  ·rw [e2,m.new] at q
   cases q
 ·by_cases hb:b = e
  ·subst hb
   rw [A5] at q
   cases q
   exact Uk ⟨_,_,e1,rfl,rfl⟩
  ·rw [Ac hb] at q
   exact (I.aP b u q).dR (fun c v _ z=>m.keeps c v z) (fun c z=>same _ _ z) fun c xs z=>same _ _ z
theorem Ag.gO {H':Hp} {s':Shared} {a T:Addr} {cls:Value} (I:Ag X pins σ H s) (os:s'.os = s.os) (bare:AllBare s'.gens) (F:Pz X.prog X.w (eK X.stack) H s.heap H' s'.heap a T cls):Ag X pins σ H' s' :=
 I.sW os F.un F.ok bare fun b z=>absurd z (by simp)
theorem Up (I:Ag X pins σ H s) {a:Addr} {old:List Addr}:s.heap.FunFrames (PySem.W.hideAll s.heap (eK X.stack ++ a :: old)) X.stack :=
 PySem.W.funFrames_hide I.stack fun env he b hb=>List.mem_append.mpr (.inl (List.mem_filterMap.mpr ⟨env,he,hb⟩))
theorem Hw {h:Heap} {fr old:List Addr} {a:Addr}:(PySem.W.hideAll h (fr ++ a :: old)).get? a = none:=PySem.W.hideAll_none _ (List.mem_append.mpr (.inr (.head _)))
theorem Kq {h:Heap} {fr old:List Addr} {a b:Addr} (hb:b ∈ old):(PySem.W.hideAll h (fr ++ a :: old)).get? b = none:=PySem.W.hideAll_none _ (List.mem_append.mpr (.inr (.tail _ hb)))
theorem Pz.cls {P:Program} {w:World} {fr:List Addr} {H H':Hp} {h h':Heap} {a T:Addr} {cls:Value} (F:Pz P w fr H h H' h' a T cls):Dw a cls h':=(F.ok a _ F.exc).1
theorem Pz.jV {P:Program} {w:World} {fr:List Addr} {H H':Hp} {h h' B:Heap} {a T:Addr} {cls:Value} (F:Pz P w fr H h H' h' a T cls) (hB:B.get? T = none):∃ a0,h'.TracedW B a cls a0:=by
 obtain ⟨oe,vs,oT,ts,a0,e1,d1,h0,h1,nT,e2,d2,h3⟩ := F.tr
 obtain ⟨o,qT,q,c,_⟩ := F.cls
 rw [e1] at q
 cases q
 exact ⟨a0,oe,vs,T,oT,ts,e1,⟨c,h0⟩,d1,h1,hB,nT,e2,d2,h3⟩
theorem Pz.on {P : Program} {w : World} {fr old : List Addr} {H H' : Hp} {h h' h2 : Heap} {a : Addr} {cls a0 : Value} (un : Un fr [] H H' h h') (ok : Ft P w H' h') (exc : H' a = some (.ext (Dw a cls))) (eI : ∀ b ∈ fr, H' b = none)
  (qS:∀ b ∈ fr,∃ o,h'.get? b = some o /\ ∀ vs,o.data ≠ .fields vs) (hold:∀ b ∈ old,H' b = none /\ h.get? b = none)
  (st:(PySem.W.hideAll h' (fr ++ a :: old)).StaysIn h2) (sl:h'.UpToSlots h2) (tr:h2.TracedW (PySem.W.hideAll h' (fr ++ a :: old)) a cls a0):∃ T,Pz P w fr H h H' h2 a T cls:=by
 obtain ⟨oe,vs,T,oT,ts,q1,⟨q2,q3⟩,q4,q5,q6,q7,q8,q9,OC⟩ := tr
 obtain ⟨u,k,n1,n2⟩ := kj (T:=T) un ok eI qS exc hold st sl ⟨oe,vs,q1,q2,q4⟩ ⟨oT,ts,q8,q9⟩ q6 q7
 exact ⟨T,u,k,exc,n1,n2,oe,vs,oT,ts,a0,q1,q4,q3,q5,q7,q8,q9,OC⟩
end
section
variable {P:Program} {w:World} {K:PySem.W.Frag} {mg:Str -> Option Value} {base:Heap} {N:List Str} {qual:Str} {scope:Scope} {f:Addr} {cd:Value} {A:Around} {outer:List Env} {s₀:Shared} {H₀:Hp} {E:XK}
theorem Xx {pins : List (Addr × Obj)} {σ : St} {H H' : Hp} {s : Shared} {s' : Shared} {a T : Addr} {cls : Value} (I : Ag (Ev (Bi P w) P w K mg base N qual scope f cd A outer s₀ H₀ E) pins σ H s)
  (os:s'.os = s.os) (bare:AllBare s'.gens) (F:Pz P w (eK (Ev (Bi P w) P w K mg base N qual scope f cd A outer s₀ H₀ E).stack) H s.heap H' s'.heap a T cls) (hE:E cls none H'):Bi P w outer H₀ s₀ E (.ref a) s':=by
 have I2:=I.gO os bare F
 refine ⟨a,T,cls,H',rfl,I2.os,I2.bare,⟨I2.base,I2.aP,F.exc,F.off,?_,F.tr⟩,hE⟩
 cases q:s₀.heap.get? T with
 | none=>rfl
 | some o =>
  obtain ⟨o',e⟩ := I.base.there T o q (by intro z; cases z)
  rw [F.new] at e
  cases e
def U5 (X:Cx) (R:St -> XK -> Prop):Prop := ∀ (pins:List (Addr × Obj)) (σ:St) (H:Hp) (s:Shared) (e:Value) (s':Shared) (E:XK),R σ E -> Ag X pins σ H s -> Bi X.prog X.w X.stack H s E e s' -> X.xe e s'
def RD (E:XK):St -> XK -> Prop:=fun _ E1=>∀ c d H,E1 c d H -> E c d H
theorem Ut:U5 (Ev (Bi P w) P w K mg base N qual scope f cd A outer s₀ H₀ E) (RD E):=by
 rintro pins σ H s e s' E1 hR I ⟨a,T,cls,H',rfl,os,bare,F,hE⟩
 have I1:=I.gO os bare F
 obtain ⟨a0,tr⟩ := F.jV (B:=PySem.W.hideAll s'.heap (eK (Ev (Bi P w) P w K mg base N qual scope f cd A outer s₀ H₀ E).stack ++ a :: [T])) (Kq (by simp))
 refine wpAny_leaving_nextW (L:=s₀.heap.objs.size) (outer:=outer) I.ok.frames (Up I1) rfl tr (fun b o q=>PySem.W.of_hideAll _ q) Hw fun h' hL=>?_
 obtain ⟨k1,k2,k3,k4⟩ := hL
 obtain ⟨T',F'⟩ := Pz.on F.un F.ok F.exc I1.cO I1.qS (fun b hb=>by rw [List.mem_singleton.mp hb]; exact ⟨F.off,F.new⟩) k1 k4 k3
 exact Xx (s':={ s' with heap:=h' }) I os bare F' (hR _ _ _ hE)
def Wr (X:Cx) (E:XK):Prop := ∀ (pins:List (Addr × Obj)) (σ:St) (H:Hp) (s:Shared) (h':Heap) (e:Addr) (cls:Value) (vs:List Value),Ag X pins σ H s -> Heap.MadeExcOf s.heap h' e cls vs ->
 (∀ H2,Aa H H2 -> E cls none H2) -> X.xe (.ref e) { s with heap:=h' }
theorem ig:Wr (Ev (Bi P w) P w K mg base N qual scope f cd A outer s₀ H₀ E) E:=by
 intro pins σ H s h' e cls vs I m hE
 obtain ⟨same,I1⟩ := I.rM (t':=s.toks) m
 obtain ⟨t,e1,_,_⟩ := m.there
 have un:Un (eK (Ev (Bi P w) P w K mg base N qual scope f cd A outer s₀ H₀ E).stack) [] H (upd H e (.ext (Dw e cls))) s.heap h' :=
  ⟨fun b o q _ _ _=>m.keeps b o q,fun b o q _ _ _=>⟨o.slots,m.keeps b o q⟩,fun b o q z _=>by
   rw [Ac (fun e2=>by rw [e2,m.new] at q; cases q)]
   exact z,fun b o q _=>⟨o,m.keeps b o q⟩,fun b xs q=>same _ _ q,fun b o u q=>same _ _ q,fun b ps q=>⟨#[],by rw [same _ _ q]; simp⟩⟩
 refine wpAny_leaving_firstW (base:=PySem.W.hideAll h' (eK (Ev (Bi P w) P w K mg base N qual scope f cd A outer s₀ H₀ E).stack ++ e :: [])) (L:=s₀.heap.objs.size) (outer:=outer) I.ok.frames (Up I1) rfl e1 (fun b o q=>PySem.W.of_hideAll _ q) Hw rfl rfl rfl fun h2 hL=>?_
 obtain ⟨k1,k2,k3,k4⟩ := hL
 obtain ⟨T',F'⟩ := Pz.on un I1.aP A5 I1.cO I1.qS (fun b hb=>absurd hb (by simp)) k1 k4 k3
 exact Xx (s':={ s with heap:=h2 }) I rfl I.bare F' (hE _ same)
end
def Zd (K:PySem.W.Frag) (C:Addr):Prop:=PySem.W.excIn K C [.type "ValueError",.type "Exception",.type "BaseException",.type "object"] "ValueError.__new__" = true
theorem Uj {K : PySem.W.Frag} {h : Heap} {C : Addr} {bmB : List Value} {newId : String} (X : K.In h) (q : PySem.W.excIn K C bmB newId = true) :
  ∃ (bm:List Value) (N:Addr) (nm qn:Str) (bs:List Value) (hd:Bool) (sn:List Str) (sub:List Value) (ab:Bool) (col:Option Bool) (dd:Option Addr) (k0 k1 k2 k3 k5:Option Value) (mN:Str -> Option Value),
   h.get? C = some (excClassObj nm qn C N bs bm hd sn sub ab col dd k0 k1 k2 k3 k5 newId) /\ h.Ns N mN /\ mN "__init__" = none /\ OwnTail h bmB bm:=by
 unfold PySem.W.excIn at q
 split at q
 case h_2=>exact absurd q Bool.false_ne_true
 case h_1 dd cd sl ho =>
  split at q
  case h_2=>exact absurd q Bool.false_ne_true
  case h_1 C' bm k0 k1 k2 k3 n k5 hm hs =>
   simp only [beq_iff_eq,Bool.and_eq_true,Bool.not_eq_true'] at q
   obtain ⟨⟨⟨⟨⟨e1,e2⟩,e3⟩,e4⟩,e5⟩,e6⟩ := q
   subst e1 e2
   obtain ⟨nm,bs,mro,ns,qn,hd,sn,sub,ab,col,del⟩ := cd
   dsimp only at hm e3 e5 e6
   subst hm e3
   obtain ⟨l⟩ := sl
   have hl:l = [k0,k1,k2,k3,some (.builtin n),k5]:=hs
   subst hl
   exact ⟨bm,ns,nm,qn,bs,hd,sn,sub,ab,col,dd,k0,k1,k2,k3,k5,_,X _ _ ho,.of_isNs (PySem.W.isNs_of_in X e5),PySem.W.nsMap_none_of_in X e5 e6,PySem.W.tail_of_in X e4⟩
section
variable {X:Cx} {x:Str} {C:Addr} {p np aY pos:Pos} {e:Expr} {es:List Expr} {t:TA} {E:XK}
def j7 (C:Addr) (t:TA) (E:XK):TS:=fun _ σ H=>t σ H fun vs H1=>vs.length <= sizeLine /\ ∀ H2,Aa H1 H2 -> E (.ref C) none H2
theorem Y4 (hR : Wr X E) (hc : X.calm = true) (hg : Gl X x) (hm : X.mg x = some (.ref C)) (hx : Zd X.K C) (ha : PA X (e :: es) t) (lC : (x == ("__debug__" : Str)) = false := by decide)
  (he:starEach (e :: es) X.env = (false,eval e X.env) :: starEach es X.env:=by rfl) (kP:(backTo aY (starEach es X.env)).any (·.1) = false:=by rfl) :
  PS X (.Raise (some (.Call (.Name x np) (e :: es) [] aY)) none pos) (j7 C t E):=by
 intro pins s σ H D I h
 obtain ⟨bm,N,nm,qn,bs,hd,sn,sub,ab,col,dd,k0,k1,k2,k3,k5,mN,hC,hN,hni,T⟩ := Uj I.ok.mod.iV hx
 have OI:(backTo aY (starEach (e :: es) X.env)).any (·.1) = false:=by
  rw [he]
  show (false || (backTo aY (starEach es X.env)).any (·.1)) = false
  rw [kP]
  rfl
 refine wpAny_Raise_call_subT (bm:=bm) (N:=N) (nm:=nm) (q:=qn) (bs:=bs) (hdct:=hd) (sn:=sn) (sub:=sub) (ab:=ab) (col:=col) (dd:=dd) (k0:=k0) (k1:=k1) (k2:=k2) (k3:=k3) (k5:=k5) (mN:=mN) (C:=C)
  PySem.F.excBase_ValueError (T.hasType rfl) (I.ok.hd hc) OI hni (Jz I hg hm ⟨rfl,?_⟩ lC)
 have w:=ha aY pins s σ H _ I h
 rw [he] at w ⊢
 refine Calls.evalArgs_plain (Ci w fun us s2 z=>?_)
 obtain ⟨vs,H2,I2,r,hl,hq⟩ := z
 exact ⟨rfl,by rw [<- r.length]; exact hl,I2.bk _ _ hC,hN.keeps I2.bk,T.keeps I2.bk,fun h' a m=>hR pins σ H2 s2 h' a _ us I2 m hq⟩
variable {k:Nat} {f:Addr} {fd:FuncData} {ps:List Str} {sp:Sp} {jM:List V} {ds:List Value} {R:St -> XK -> Prop}
def ix (sp:Sp) (jM:List V) (R:St -> XK -> Prop) (t:TA):TE:=fun σ H Q=>t σ H fun vs H1=>∃ E,R σ E /\ sp (vs ++ jM) H1 Q E
theorem bg {pins : List (Addr × Obj)} {σ : St} {H : Hp} {s : Shared} {Q : VK} {us : List Value} {vs : List V} (F : Ai X.prog X.w X.K X.mg X.base (Bi X.prog X.w) k f fd ps sp) (hr : Ct k X.A) (hb : Ay X.K fd ps ds) (hd : Az jM ds) (hx : U5 X R)
  (I:Ag X pins σ H s) (r:Az vs us) (hE:R σ E) (h:sp (vs ++ jM) H Q E):wpAny (model X.prog X.w) X.A (call (.ref f) us) (EP X pins σ Q) X.xe s:=by
 have r2:=r.append hd
 have hl:(us ++ ds).length = ps.length:=r2.length.symm.trans (F.len _ _ _ _ h)
 have run:=F.run X.A X.stack s H ⟨us,[]⟩ (us ++ ds) (vs ++ jM) Q E hr I.DH (hb s us I.fW hl) r2 h
 refine wpAny_call (codeAny_mono run fun res s' hq=>?_)
 match res,hq with
 | .error e,hq=>exact hx pins σ H s e s' E hE I hq
 | .ok (.ret u),hq=>exact I.after hq
 | .ok .next,hq=>exact hq.elim
 | .ok .brk,hq=>exact hq.elim
 | .ok .cont,hq=>exact hq.elim
theorem Fy (F : Ai X.prog X.w X.K X.mg X.base (Bi X.prog X.w) k f fd ps sp) (hr : Ct k X.A) (hg : Gl X x) (hm : X.mg x = some (.ref f)) (hk : PySem.W.keepIn X.K (.ref f) = true) (hb : Ay X.K fd ps ds) (hd : Az jM ds) (hx : U5 X R) (ha : PA X (e :: es) t)
  (lC:(x == ("__debug__" : Str)) = false:=by decide) (he:starEach (e :: es) X.env = (false,eval e X.env) :: starEach es X.env:=by rfl) (kP:(backTo pos (starEach es X.env)).any (·.1) = false:=by rfl) :
  PE X (.Call (.Name x p) (e :: es) [] pos) (ix sp jM R t):=by
 intro pins s σ H Q I h
 have w:=ha pos pins s σ H _ I h
 refine wpAny_Call_Name_kw (Jz I hg hm ?_ lC)
 refine PySem.W.callWith_K (h₀:=X.base) I.ok.mod.iV hk (Ci w fun us s1 z=>?_) he kP
 obtain ⟨vs,H1,I1,r,E,hE,q⟩ := z
 exact ⟨I1.fW,bg F hr hb hd hx I1 r hE q⟩
theorem B0 {P:Program} {w:World}:Ru (Bi P w) X E0:=fun _ _ _ _ _ _ _ ⟨_,_,_,_,_,_,_,_,z⟩=>z.elim
end
section
variable {P:Program} {w:World} {K:PySem.W.Frag} {mg:Str -> Option Value} {base:Heap} {x qual:Str} {st:Stmt} {f:Addr} {fd:FuncData} {N ps:List Str} {k:Nat} {sp:Sp}
theorem Fb.tE (F : Fb K x qual st f fd) (S : Aq N ps (A9 st)) (len : ∀ vs H Q E, sp vs H Q E -> vs.length = ps.length)
  (cC:∀ (aV:Value) (A:Around) (outer:List Env) (s:Shared) (H:Hp) (vs:List V) (Q:VK) (E:XK),Ct k (A.deeper (envOfC qual (A9 st) s.heap.objs.size f aV)) -> sp vs H Q E ->
   ∃ t,Mc (Ev (Bi P w) P w K mg base N qual (A9 st) f aV A outer s H E) (Aj st) t /\ t { nx:=fun _ H'=>Q .aW H',rt:=Q } (start N vs) H):Ai P w K mg base (Bi P w) (k + 1) f fd ps sp:=by
 obtain ⟨oc,od,kV,doc,pm,an,aV,ct,iA,rfl,lk,lE⟩ := F.ex
 exact Xa lk lE S len (cC aV)
theorem Q0.tE (F : Q0 K x qual st f fd) (S : Aq N ps (A9 st)) (len : ∀ vs H Q E, sp vs H Q E -> vs.length = ps.length)
  (cC:∀ (aV:Value) (A:Around) (outer:List Env) (s:Shared) (H:Hp) (vs:List V) (Q:VK) (E:XK),Ct k (A.deeper (envOfC qual (A9 st) s.heap.objs.size f aV)) -> sp vs H Q E ->
   ∃ t,Mc (Ev (Bi P w) P w K mg base N qual (A9 st) f aV A outer s H E) (Aj st) t /\ t { nx:=fun _ H'=>Q .aW H',rt:=Q } (start N vs) H):Ai P w K mg base (Bi P w) (k + 1) f fd ps sp:=by
 obtain ⟨oc,od,dV,kV,doc,pm,an,aV,ct,iA,rfl,lk,lE⟩ := F.ex
 exact Xa lk lE S len (cC aV)
theorem Fb.okN (F : Fb K x qual st f fd) (S : Aq N ps (A9 st)) (len : ∀ vs H Q E, sp vs H Q E -> vs.length = ps.length)
  (cC:∀ (aV:Value) (A:Around) (outer:List Env) (s:Shared) (H:Hp) (vs:List V) (Q:VK) (E:XK),Ct k (A.deeper (envOfC qual (A9 st) s.heap.objs.size f aV)) -> sp vs H Q E ->
   ∃ t,Mc (Ev (Bi P w) P w K mg base N qual (A9 st) f aV A outer s H E).sY (Aj st) t /\ t { nx:=fun _ H'=>Q .aW H',rt:=Q } (start N vs) H):Ai P w K mg base (Bi P w) (k + 1) f fd ps sp :=
 F.tE S len fun aV A outer s H vs Q E hr lX=>let ⟨t,h,q⟩ := cC aV A outer s H vs Q E hr lX; ⟨t,h.sY,q⟩
theorem Q0.okN (F : Q0 K x qual st f fd) (S : Aq N ps (A9 st)) (len : ∀ vs H Q E, sp vs H Q E -> vs.length = ps.length)
  (cC:∀ (aV:Value) (A:Around) (outer:List Env) (s:Shared) (H:Hp) (vs:List V) (Q:VK) (E:XK),Ct k (A.deeper (envOfC qual (A9 st) s.heap.objs.size f aV)) -> sp vs H Q E ->
   ∃ t,Mc (Ev (Bi P w) P w K mg base N qual (A9 st) f aV A outer s H E).sY (Aj st) t /\ t { nx:=fun _ H'=>Q .aW H',rt:=Q } (start N vs) H):Ai P w K mg base (Bi P w) (k + 1) f fd ps sp :=
 F.tE S len fun aV A outer s H vs Q E hr lX=>let ⟨t,h,q⟩ := cC aV A outer s H vs Q E hr lX; ⟨t,h.sY,q⟩
theorem Sl {qual : Str} {scope : Scope} {cd : Value} {A : Around} {outer : List Env} {s : Shared} {H : Hp} {E : XK} :
  PassesOwn (model P w) (Ev (Bi P w) P w K mg base N qual scope f cd A outer s H E).A (Ev (Bi P w) P w K mg base N qual scope f cd A outer s H E).env (Ev (Bi P w) P w K mg base N qual scope f cd A outer s H E).xe:=PassesOwn.leaving
end
open PySem.W (Looks)
inductive Fd (X:Cx) (C:Addr):List Expr -> List Addr -> Prop
 | nil:Fd X C [] []
 | cons {x : Str} {p : Pos} {c : Addr} {es : List Expr} {cs : List Addr} (hg : Gl X x) (hm : X.mg x = some (.ref c)) (hd : (x == ("__debug__" : Str)) = false)
   (hb:PySem.W.subIn X.K (.ref c) (.type "BaseException") = some true) (hn:PySem.W.subIn X.K (.ref C) (.ref c) = some false) (he:∀ env:Env,starEach (.Name x p :: es) env = (false,eval (.Name x p) env) :: starEach es env) (r:Fd X C es cs):Fd X C (.Name x p :: es) (c :: cs)
section
variable {X:Cx} {pins:List (Addr × Obj)} {σ:St} {H:Hp} {s:Shared} {C:Addr}
theorem Ni {A : Around} {E : Value -> Shared -> Prop} (I : Ag X pins σ H s) (pos : Pos) : ∀ {es : List Expr} {cs : List Addr}, Fd X C es cs -> ∀ {Q : List Value -> Shared -> Prop}, Q (cs.map .ref) s ->
  wpAny (model X.prog X.w) A (spliced (backTo pos (starEach es X.env))) Q E s
 | _,_,.nil,Q,q=>Calls.spliced_nil q
 | _,_,.cons (x:=x) hg hm hd _ _ he r,Q,q=>by
  rw [he]
  refine Calls.spliced_cons ?_
  refine Calls.Name_function_global I.ok.kind hg (Calls.loadGlobal_global (by rw [I.ok.glob]; exact I.mod.glob.keeps I.bk) hm ?_) hd
  exact Ni I pos r q
theorem Fd.len {es:List Expr} {cs:List Addr} (r:Fd X C es cs):cs.length = es.length:=by
 induction r with
 | nil=>rfl
 | cons _ _ _ _ _ _ _ ih=>simp [ih]
theorem Kx {M:Model} {h:Heap} {α:Type} {f:Value -> α -> Sem (ForInStep α)} {b:α}:∀ {cs:List Value},(∀ c ∈ cs,Looks M h (f c b) (.yield b)) -> Looks M h (forIn cs b f) b
 | [],_=>PySem.W.Looks.now
 | c :: cs,k=>by
  rw [List.forIn_cons]
  exact (k c (List.mem_cons_self ..)).andThen (Kx fun d hd=>k d (List.mem_cons_of_mem _ hd))
theorem em {M:Model} {K:PySem.W.Frag} {h:Heap} {c:Addr} {b:Value} {r:Bool} (iV:K.In h) (e:PySem.W.subIn K (.ref c) b = some r):Looks M h (isType (.ref c)) true:=by
 obtain ⟨cd,a,_⟩ := Option.bind_eq_some_iff.mp (show PySem.W.mroIn K c b = some r from e)
 unfold PySem.W.clsIn at a
 split at a
 ·rename_i ho
  intro A' Q' E' s' k q
  unfold isType loadHead
  refine wpAny_bind (wpAny_loadPart (k _ _ (iV _ _ ho)) ?_)
  exact wpAny_pure q
 ·cases a
theorem f7 {M:Model} {K:PySem.W.Frag} {h:Heap} {c:Addr} (iV:K.In h) (e:PySem.W.subIn K (.ref c) (.type "BaseException") = some true):Looks M h (isExcClass (.ref c)) true:=by
 unfold isExcClass
 refine (em iV e).andThen ?_
 rw [if_pos rfl]
 exact PySem.W.looks_subIn iV e
theorem Xs {M : Model} {K : PySem.W.Frag} {h : Heap} {a t : Addr} {oe ot : Obj} {n : Nat} {cs : List Addr} (iV : K.In h) (he : h.get? a = some oe) (hc : oe.cls = .ref C) (ht : h.get? t = some ot) (htc : ot.cls = .type "tuple") (OJ : ot.data = .seq (cs.map Value.ref).toArray n)
  (k:∀ c ∈ cs,PySem.W.subIn K (.ref c) (.type "BaseException") = some true /\ PySem.W.subIn K (.ref C) (.ref c) = some false):Looks M h (excMatches (.ref a) (.ref t)) false:=by
 unfold excMatches
 have i1:Looks M h (isInstance (.ref t) (.type "tuple")) true:=by
  intro A' Q' E' s' kk q
  exact wpAny_isInstance ⟨ot,kk _ _ ht,htc⟩ isSubtype_tuple_tuple q
 refine i1.andThen ?_
 rw [if_pos rfl]
 have i2:Looks M h (seqItems? (.ref t)) (some (cs.map Value.ref).toArray):=by
  intro A' Q' E' s' kk q
  exact wpAny_seqItems (kk _ _ ht) OJ q
 have i3:Looks M h (typeOf (.ref a)) (.ref C):=by
  have z:Looks M h (typeOf (.ref a)) oe.cls:=(PySem.W.Looks.ld he).andThen .now
  rw [hc] at z
  exact z
 refine i2.andThen ?_
 dsimp only [Option.getD_some]
 refine PySem.W.Looks.now.andThen ?_
 refine (Kx fun c iQ=>?_).andThen (i3.andThen ((Kx fun c iQ=>?_).andThen .now))
 ·obtain ⟨d,hd,rfl⟩ := List.mem_map.mp iQ
  exact (f7 iV (k d hd).1).andThen .now
 ·obtain ⟨d,hd,rfl⟩ := List.mem_map.mp iQ
  exact (PySem.W.looks_subIn iV (k d hd).2).andThen .now
theorem a9 {prog : Program} {w : World} {A : Around} {E : Value -> Shared -> Prop} {K : PySem.W.Frag} {v t c : Value} {Q : Value -> Shared -> Prop} (iV : K.In s.heap) (ht : ∀ M, Looks M s.heap (typeOf v) t) (e : PySem.W.kitOne K t c = some true)
  (hx:v ≠ .builtin "__main__.__loader__#opaque") (h:Q (.bool true) s):wpAny (model prog w) A (call (.builtin "isinstance") [v,c]) Q E s:=by
 refine call_isinstance (S:=fun _ R s=>(K.In s.heap /\ ∀ M,Looks M s.heap (typeOf v) t) /\ R (.ok (.ret (.bool true))) s) (fun prog w A R s hs=>isinstance_outer ?_ hx) ⟨⟨iV,ht⟩,h⟩
 obtain ⟨⟨iV,ht⟩,hq⟩ := hs
 obtain ⟨h0,g,d,tt,os⟩ := s
 unfold Builtin.«isinstance.nested»
 refine wpAny_bind ((ht _).at ?_)
 unfold PySem.W.kitOne at e
 by_cases q:(t == c) = true
 ·rw [if_pos q]
  first
   | exact wpAny_bind (wpAny_rule hq)
   | exact wpAny_bind (wpAny_rule (wpAny_pure hq))
 ·rw [if_neg q] at e ⊢
  obtain ⟨k1,k2,k3⟩ := PySem.W.kit_cls (M:=model prog w) iV e
  have k4:Looks (model prog w) h0 (isInstance v c) true:=(ht _).andThen k3
  refine wpAny_bind (k1.at ?_)
  rw [if_pos (by decide)]
  k_delta "plainIsInstance"
  refine wpAny_bind (wpAny_bind (k2.at ?_))
  simp only [Bool.not_true,if_false,Bool.false_eq_true]
  refine wpAny_bind (k4.at ?_)
  first
   | exact wpAny_pure (wpAny_pure hq)
   | (simp only [if_true]; exact wpAny_pure (wpAny_pure hq))
   | (simp only [if_true]; exact wpAny_pure hq)
   | trace_state
def lj (K:PySem.W.Frag):List V -> Hp -> VK -> Prop:=fun xs H Q=>∃ (a:Addr) (t c:Value) (v:V),xs = [.ref a,v] /\ H a = some (.ext (Dw a t)) /\ (∀ u,Aw v u -> u = c) /\ PySem.W.kitOne K t c = some true /\ Q (.bl true) H
theorem My (K:PySem.W.Frag) (hK:X.K = K:=by rfl):Dt X (.builtin "isinstance") (lj K):=by
 subst hK
 intro pins s σ H xs us Q I r h
 obtain ⟨a,t,c,v,rfl,ha,hv,e,q⟩ := h
 obtain ⟨u0,u1,rfl,r0,r1⟩ := Az.two r
 cases r0
 rw [hv u1 r1]
 obtain ⟨o,vs,e1,e2,_⟩ := (I.aP a _ ha).1
 refine a9 I.fW (fun M=>?_) e (fun z=>nomatch z) ⟨.bl true,H,I,rfl,q⟩
 have z:Looks M s.heap (typeOf (.ref a)) o.cls:=(PySem.W.Looks.ld e1).andThen .now
 rw [e2] at z
 exact z
theorem Zp {M : Model} {A : Around} {E : Value -> Shared -> Prop} {i : Nat} {n : Str} {pos : Pos} {Q : Unit -> Shared -> Prop} (I : Ag X pins σ H s) (hN : X.N.Nodup) (hi : X.N[i]? = some n) (hl : X.env.scope.names.lookup n = some .local)
  (h:∀ s',Ag X pins (σ.set i none) H s' -> Q () s'):wpAny M A (do bindName X.env n .none; unbindBehindTheSuite X.env n pos) Q E s:=by
 obtain ⟨m,hn,hm⟩ := id I.loc
 refine wpAny_nameGoes_keeps hl hn (by rw [I.ok.kind]; rfl) fun h' v NN hs=>h _ ?_
 have kp:∀ b o,b ≠ X.env.locals -> s.heap.get? b = some o -> h'.get? b = some o:=fun b o hb e=>(hs.2 b hb).trans e
 have BX:∀ b o,X.s₀.heap.get? b = some o -> b ≠ X.env.locals:=fun b o e=>Nat.ne_of_lt (Nat.lt_of_lt_of_le (Heap.lt_size e) I.ok.above)
 have neT:∀ b u,H b = some u -> b ≠ X.env.locals:=fun b u e z=>by
  rw [z,I.free] at e
  cases e
 refine ⟨I.ok,I.os,I.bare,⟨fun b o e q1 q2 q3=>kp b o (BX b o e) (I.base.keep b o e q1 q2 q3),fun b o e q1 q2 q3=>?_,I.base.free,fun b o e q3=>?_,I.base.dU,I.base.cQ,I.base.dW⟩,⟨_,NN,fun j x w e1 e2 e3=>?_⟩,fun x c e=>?_,I.free,I.bD,fun p hp=>?_,fun b u e=>?_,?_⟩
 ·obtain ⟨sl,z⟩ := I.base.slot b o e q1 q2 q3
  exact ⟨sl,kp b _ (BX b o e) z⟩
 ·obtain ⟨o',z⟩ := I.base.there b o e q3
  exact ⟨o',kp b _ (BX b o e) z⟩
 ·have tH : i ≠ j := fun z => by
   subst z
   rw [List.getElem?_set] at e2
   rw [if_pos rfl] at e2
   split at e2 <;> cases e2
  rw [List.getElem?_set_ne tH] at e2
  obtain ⟨u,ru,lu⟩ := hm j x w e1 e2 e3
  have hxn:x ≠ n:=fun z=>tH (L7 hN hi (by rw [<- z]; exact e1))
  refine ⟨u,ru,?_⟩
  rcases lu with ⟨k1,k2⟩ | ⟨k1,c,k2,o,k3,k4⟩
  ·exact .inl ⟨k1,by show (if x = n then v else m x) = some u; rw [if_neg hxn]; exact k2⟩
  ·exact .inr ⟨k1,c,k2,o,kp c o (I.rD x c k2) k3,k4⟩
 ·obtain ⟨v',o,k3,k4⟩ := I.cell x c e
  exact ⟨v',o,kp c o (I.rD x c e) k3,k4⟩
 ·obtain ⟨k1,k2,k3,k4,k5⟩ := I.pin p hp
  exact ⟨kp _ _ k3 k1,k2,k3,k4,k5⟩
 ·refine (I.aP b u e).dR (fun c v' hc z=>kp c v' ?_ z) (fun _ z=>z) fun _ _ z=>z
  rcases hc with hc | hc
  ·rw [hc]
   exact neT b u e
  ·exact neT c _ hc
 ·rw [List.length_set]
  exact I.len
end
abbrev Cx.at (X:Cx) (A:Around):Cx:={ X with A:=A,calm:=false,xe:=fun _ _=>False }
abbrev Cx.vQ (X:Cx) (pn:List (Addr × Obj)) (W:Value -> Shared -> Prop):Cx:={ X with pn:=pn,xe:=W }
section
variable {X:Cx} {pins:List (Addr × Obj)} {σ:St} {H:Hp} {s:Shared}
theorem Ag.at (I:Ag X pins σ H s) {A:Around} (hA:A.frames = X.A.frames):Ag (X.at A) pins σ H s :=
 ⟨⟨I.ok.mod,I.ok.kind,I.ok.glob,I.ok.blt,I.ok.above,I.ok.inj,I.ok.has,I.ok.vE,fun z=>(nomatch z),hA.trans I.ok.frames,I.ok.BW,I.ok.DC,I.ok.bs,I.ok.qQ,I.ok.jP,I.ok.jQ,I.ok.eM,I.ok.sT⟩,I.os,I.bare,I.base,I.loc,I.cell,I.free,I.bD,I.pin,I.aP,I.len⟩
theorem Ag.back {A:Around} (ok:X.Ok) (I:Ag (X.at A) pins σ H s):Ag X pins σ H s:=⟨ok,I.os,I.bare,I.base,I.loc,I.cell,I.free,I.bD,I.pin,I.aP,I.len⟩
theorem Ag.vQ {W:Value -> Shared -> Prop} (I:Ag X pins σ H s):Ag (X.vQ (X.pn ++ pins) W) [] σ H s :=
 ⟨⟨I.ok.mod,I.ok.kind,I.ok.glob,I.ok.blt,I.ok.above,I.ok.inj,I.ok.has,I.ok.vE,I.ok.hd,I.ok.frames,I.ok.BW,I.ok.DC,I.ok.bs,I.ok.qQ,I.ok.jP,I.ok.jQ,I.ok.eM,I.ok.sT⟩,I.os,I.bare,I.base,I.loc,I.cell,I.free,I.bD,
  fun p hp=>I.pin p (by rwa [List.append_nil] at hp),I.aP,I.len⟩
theorem Ag.out {W:Value -> Shared -> Prop} {iW:List (Addr × Obj)} (ok:X.Ok) (I:Ag (X.vQ (X.pn ++ pins) W) iW σ H s):Ag X pins σ H s :=
 ⟨ok,I.os,I.bare,I.base,I.loc,I.cell,I.free,I.bD,fun p hp=>I.pin p (List.mem_append_left _ hp),I.aP,I.len⟩
theorem SP.out {W:Value -> Shared -> Prop} {D:Ha} {f:Flow} {s':Shared} (ok:X.Ok) (h:SP (X.vQ (X.pn ++ pins) W) [] D f s'):SP X pins D f s':=by
 cases f with
 | next=>obtain ⟨σ',H',I,q⟩ := h; exact ⟨σ',H',I.out ok,q⟩
 | brk=>obtain ⟨σ',H',I,q⟩ := h; exact ⟨σ',H',I.out ok,q⟩
 | cont=>obtain ⟨σ',H',I,q⟩ := h; exact ⟨σ',H',I.out ok,q⟩
 | ret u=>obtain ⟨v,σ',H',I,r,q⟩ := h; exact ⟨v,σ',H',I.out ok,r,q⟩
theorem Pz.kept {P:Program} {w:World} {fr:List Addr} {H H':Hp} {h h' h2:Heap} {a T:Addr} {cls:Value} (F:Pz P w fr H h H' h' a T cls) (k:∀ b o,h'.get? b = some o -> h2.get? b = some o):Pz P w fr H h H' h2 a T cls:=by
 obtain ⟨oe,vs,oT,ts,a0,e1,d1,h0,h1,nT,e2,d2,h3⟩ := F.tr
 exact ⟨F.un.trans (Un.kept k),F.ok.kept k,F.exc,F.off,F.new,oe,vs,oT,ts,a0,k _ _ e1,d1,h0,h1,nT,k _ _ e2,d2,h3⟩
def RT (tu:TS) (C:Addr) (i:Nat) (D:Ha):St -> XK -> Prop:=fun σ1 E=>∀ cls H',E cls none H' -> cls = .ref C /\ ∀ a,H' a = some (.ext (Dw a (.ref C))) ->
 tu { nx:=fun σ' H4=>D.nx (σ'.set i none) H4,rt:=fun _ _=>False } (σ1.set i (some (.ref a))) H'
def qo (tb:(St -> XK -> Prop) -> TS) (tu:TS) (C:Addr) (i:Nat):TS:=fun D σ H=>tb (RT tu C i D) D σ H
theorem Fd.all {C:Addr} {es:List Expr} {cs:List Addr} (r:Fd X C es cs):∀ c ∈ cs,PySem.W.subIn X.K (.ref c) (.type "BaseException") = some true /\ PySem.W.subIn X.K (.ref C) (.ref c) = some false:=by
 induction r with
 | nil=>exact fun _ z=>nomatch z
 | cons _ _ _ hb hn _ _ ih =>
  intro c hc
  rcases List.mem_cons.mp hc with e | hc
  ·rw [e]
   exact ⟨hb,hn⟩
  ·exact ih c hc
theorem i5 {C : Addr} {body : List Stmt} {es : List Expr} {cs : List Addr} {xt} {tp p1 p2 pos np : Pos} {b₀ c₀ : Stmt} {bs ss : List Stmt} {x n : Str} {i : Nat} {tb : (St -> XK -> Prop) -> TS} {tu : TS}
  (eI:X.stack = X.env :: X.outer) (hf:X.env.frame = some X.env.locals)
  (hb:∀ (W:Value -> Shared -> Prop) (pn:List (Addr × Obj)) (R:St -> XK -> Prop),U5 (X.vQ pn W) R -> Mc (X.vQ pn W) body (tb R))
  (hn:Fd X C es cs) (jC:es.length <= sizeLine) (hg:Gl X x) (hm:X.mg x = some (.ref C)) (hC:Zd X.K C) (hN:X.N.Nodup) (hi:X.N[i]? = some n) (hl:X.env.scope.names.lookup n = some .local)
  (hu:∀ A:Around,Mc (X.at A) (c₀ :: ss) tu) (lC:(x == ("__debug__" : Str)) = false:=by decide) :
  PS X (.Try body [.ExceptHandler (some (.Tuple es xt tp)) none (b₀ :: bs) p1,.ExceptHandler (some (.Name x np)) (some n) (c₀ :: ss) p2] [] [] pos) (qo tb tu C i):=by
 intro pins s σ H D I h
 refine wpAny_Try_except ?_
 have ok:=I.ok
 refine wpAny_mono (hb _ (X.pn ++ pins) _ ?_ [] s σ H D I.vQ h) (fun f s1 q=>?_) fun e s1 z=>z
 ·rintro iW σ1 H1 s1 e s2 E hR I1 ⟨a,T,cls,H',rfl,os,bare,F,hE⟩
  obtain ⟨rfl,hs⟩ := hR _ _ hE
  have I0:Ag X pins σ1 H1 s1:=I1.out ok
  have F:Pz X.prog X.w (eK X.stack) H1 s1.heap H' s2.heap a T (.ref C):=F
  have I2:=I0.gO os bare F
  obtain ⟨a0,tr⟩ := F.jV (B:=PySem.W.hideAll s2.heap (eK X.stack ++ a :: [T])) (Kq (List.mem_singleton.mpr rfl))
  have hA:X.A.frames = some (X.env :: X.outer):=by rw [<- eI]; exact ok.frames
  have hF:s2.heap.FunFrames (PySem.W.hideAll s2.heap (eK X.stack ++ a :: [T])) (X.env :: X.outer):=by rw [<- eI]; exact Up I2
  refine wpAny_looks_onW hA hf ⟨fun b o q=>PySem.W.of_hideAll _ q,Hw,hF,tr⟩ fun h3 held sm3=>?_
  refine wpAny_landsW held fun h4 fly sm4=>?_
  obtain ⟨k1,_,_,k4⟩ := fly
  obtain ⟨T2,F2⟩ := Pz.on F.un F.ok F.exc I2.cO I2.qS (fun b hb=>by rw [List.mem_singleton.mp hb]; exact ⟨F.off,F.new⟩) k1 (sm3.trans sm4) k4
  have I4:Ag X pins σ1 H' { s2 with heap:=h4 }:=I0.gO os bare F2
  refine wpAny_handleBy_cons (codeAny_handlers_test ?_) (by intro q; cases q)
  refine wpAny_Tuple_spliced (Ni I4 _ hn ⟨by rw [List.length_map,hn.len]; exact jC,?_⟩)
  have k5:∀ b o,h4.get? b = some o -> (h4.push { cls := .type "tuple",data := .seq (cs.map Value.ref).toArray }).get? b = some o:=fun b o e=>Heap.get?_push_of_some _ e
  have t5:(h4.push { cls := .type "tuple",data := .seq (cs.map Value.ref).toArray }).get? h4.objs.size = some { cls := .type "tuple",data := .seq (cs.map Value.ref).toArray }:=Heap.get?_push_size _ rfl
  dsimp only
  generalize h4.push { cls := .type "tuple",data := .seq (cs.map Value.ref).toArray } = h5 at k5 t5 ⊢
  have F5:=F2.kept k5
  obtain ⟨o5,vs5,e5,c5,d5⟩ := F5.cls
  have I5:Ag X pins σ1 H' { s2 with heap:=h5 }:=I0.gO os bare F5
  refine (Xs I5.fW e5 c5 t5 rfl rfl hn.all).at ?_
  show wpAny _ _ (handleBy _ _ [_]) _ _ _
  refine wpAny_handleBy_cons (codeAny_handlers_test (Calls.Name_function_global ok.kind hg (Calls.loadGlobal_global (by rw [ok.glob]; exact I5.mod.glob.keeps I5.bk) hm ?_) lC)) (by intro q; cases q)
  obtain ⟨bm,N,nm,qn,bs',hd,sn,sub,ab,col,dd,z0,z1,z2,z3,z5,mN,hC5,hN5,hni5,T5⟩ := Uj I5.fW hC
  refine wpAny_excMatches_sub_self hC5 e5 c5 (T5.hasType rfl) ?_
  show codeAny _ _ (.handlers _ [_] _) _ _
  refine codeAny_handlers_suite_as ?_
  obtain ⟨a5,tr5⟩ := F5.jV (B:=PySem.W.hideAll h5 (eK X.stack ++ a :: [T2])) (Kq (List.mem_singleton.mpr rfl))
  have hF5:h5.FunFrames (PySem.W.hideAll h5 (eK X.stack ++ a :: [T2])) (X.env :: X.outer):=by rw [<- eI]; exact Up I5
  refine lands_againW (show Heap.FlyingW _ (X.env :: X.outer) a (.ref C) a5 h5 from ⟨fun b o q=>PySem.W.of_hideAll _ q,Hw,hF5,tr5⟩) fun h6 OK sm6=>?_
  obtain ⟨k6,_,_,k7⟩ := OK
  obtain ⟨T3,F6⟩ := Pz.on F5.un F5.ok F5.exc I5.cO I5.qS (fun b hb=>by rw [List.mem_singleton.mp hb]; exact ⟨F5.off,F5.new⟩) k6 sm6 k7
  have I6:Ag X pins σ1 H' { s2 with heap:=h6 }:=I0.gO os bare F6
  refine Lx (v := .ref a) I6 hN hi (.inl hl) rfl (fun s7 I7=>?_) (.inr hl)
  refine wpAny_mono (hu _ pins s7 _ H' _ (I7.at rfl) (hs a F.exc)) (fun f s8 q8=>?_) fun _ _ z=>z.elim
  cases f with
  | next =>
   obtain ⟨σ',H4,I8,q9⟩ := q8
   exact Zp (I8.back ok) hN hi hl fun s9 I9=>⟨_,_,I9,q9⟩
  | brk =>
   obtain ⟨_,_,_,z⟩ := q8
   exact z.elim
  | cont =>
   obtain ⟨_,_,_,z⟩ := q8
   exact z.elim
  | ret u =>
   obtain ⟨_,_,_,_,_,z⟩ := q8
   exact z.elim
 ·cases f with
  | next=>exact wpAny_execs_nil (SP.out ok q)
  | brk=>exact SP.out ok q
  | cont=>exact SP.out ok q
  | ret u=>exact SP.out ok q
end
section
variable {X:Cx}
end
def Mt (val:Nat -> Int) (j:Nat) (m:Int):Prop:=(∃ i,i <= j /\ m = val i) /\ ∀ i,i <= j -> val i <= m
theorem Mt.up {val:Nat -> Int} {j:Nat} {m:Int} (h:Mt val j m) (b:m < val (j + 1)):Mt val (j + 1) (val (j + 1)):=by
 refine ⟨⟨j + 1,Nat.le_refl _,rfl⟩,fun i hi=>?_⟩
 rcases Nat.lt_or_ge j i with z | z
 ·have e:i = j + 1:=by omega
  rw [e]
  omega
 ·have:=h.2 i z
  omega
theorem Mt.same {val:Nat -> Int} {j:Nat} {m:Int} (h:Mt val j m) (b:¬ m < val (j + 1)):Mt val (j + 1) m:=by
 obtain ⟨⟨i0,z0,e0⟩,h2⟩ := h
 refine ⟨⟨i0,by omega,e0⟩,fun i hi=>?_⟩
 rcases Nat.lt_or_ge j i with z | z
 ·have e:i = j + 1:=by omega
  rw [e]
  omega
 ·exact h2 i z
section
variable {prog:Program} {w:World} {A:Around} {R:Result -> Shared -> Prop} {I S:Addr} {fp wr:List Addr} {n:Nat} {P:Nat -> Value -> Prop} {St:Nat -> Heap -> Prop} {val:Nat -> Int}
end
section
variable {prog:Program} {w:World} {A:Around} {E:Value -> Shared -> Prop} {s:Shared} {l:Addr}
theorem N1 {id : String} {b : Builtin} {args : Args} {Q : Value -> Shared -> Prop} (hk : builtinKind id = none) (hp : plainId id = true) (hb : entryFor table id = some b) (ha : argsOk id args)
  (hc:wpAny (model prog w) A.in1 (b args) (fun fin s'=>match fin with
   | .done f=>(match (Except.ok f:Result) with | .ok (.ret v)=>Q v s' | .ok _=>False | .error e=>E e s')
   | .again c'=>c'.quiet = true /\ codeAny (model prog w) A c' (fun r s'=>match r with | .ok (.ret v)=>Q v s' | .ok _=>False | .error e=>E e s') s') E s) :
  wpAny (model prog w) A (call (.builtin id) args.pos args.kw) Q E s:=by
 refine wpAny_call (codeAny_call_builtin hp hb ?_)
 simp only [checkBuiltinCall,hk]
 cases hs:Manifest.signature? id with
 | none=>exact wpAny_pure hc
 | some sg =>
  have h2:Bind.checkArgs id sg args = pure ():=by simpa only [argsOk,hs] using ha
  have h3:(⟨args.pos,args.kw⟩ : Args) = args:=rfl
  simp only [h3,h2]
  exact wpAny_pure hc
end
section
variable {X:Cx} {p pos NQ:Pos} {e d:Expr} {t:TA} {td:TE} {x:Str}
def sj (K:PySem.W.Frag) (t:TA) (td:TE):TE:=fun σ H Q=>t σ H fun vs H1=>cr td mz σ H1 fun ys H2=>∃ (a:Addr) (ns:List Int) (dv:Int),vs = [.ref a] /\ ys = [.int dv] /\ B9 K H2 a (ns.map V.int) /\
 ∀ m:Int,(ns = [] -> m = dv) -> (ns ≠ [] -> m ∈ ns /\ ∀ b ∈ ns,b <= m) -> Q (.int m) H2
end
open PySem PySem.Spec PyProof.Rows PySem.SeqAt
def d9 (A:Around) (s:Shared) (x y:Value) (b:Bool):Prop := ∀ (prog:Program) (w:World) (E:Value -> Shared -> Prop) (Q:Value -> Shared -> Prop),Q (.bool b) s -> wpAny (model prog w) A (richCompare .Lt x y) Q E s
theorem ja (l b : Addr) (xs ys : Array Value) (n n2 : Nat) (dd CA : Option Addr) (sl CB : Array (Option Value)) (e : Nat -> Bool) (r : Bool) :
  Meets (Builtin.«tuple.__lt__» ⟨[.ref l,.ref b],[]⟩)
   (fun A R s=>s.heap.get? l = some { cls := .type "tuple",dict:=dd,data := .seq xs n,slots:=sl } /\ s.heap.get? b = some { cls := .type "tuple",dict:=CA,data := .seq ys n2,slots:=CB } /\
    (∀ j (h1:j < xs.size) (h2:j < ys.size),EqAt A.in1 s xs[j] ys[j] (e j)) /\ (∀ j (h1:j < xs.size) (h2:j < ys.size),(∀ i,i < j -> e i = true) -> e j = false -> d9 A.in1 s xs[j] ys[j] r) /\
    ((∀ j,j < min xs.size ys.size -> e j = true) -> r = decide (xs.size < ys.size)) /\ R (.ok (.ret (.bool r))) s) :=
 .of_wp fun prog w A R s h=>by
  obtain ⟨hp,g,d,tk,os⟩ := s
  obtain ⟨hl,hb,he,hf,hz,h⟩ := h
  have f2:=AutoSeq1.sub_tuple_tuple
  have hZ:(xs.toList.zip ys.toList).length = min xs.size ys.size:=by simp
  wp_walk using wpAny_loadPart' hl,wpAny_loadPart' hb,wpAny_forIn_list _ (fun rest b s'=>b.1 = none /\ s' = ⟨hp,g,d,tk,os⟩ /\ ∃ i,rest = (xs.toList.zip ys.toList).drop i /\ ∀ k,k < i -> k < min xs.size ys.size -> e k = true) _
  case turn =>
   rintro ⟨y,x⟩ rest b s' ⟨gP,rfl,i,hq,hR⟩
   have aZ:i < (xs.toList.zip ys.toList).length:=by
    apply Classical.byContradiction
    intro z
    rw [List.drop_of_length_le (by omega)] at hq
    cases hq
   have h1:i < xs.size:=by omega
   have h2:i < ys.size:=by omega
   rw [List.drop_eq_getElem_cons aZ] at hq
   injection hq with DT mP
   have hy:y = xs[i]:=by simpa using congrArg Prod.fst DT
   have hx:x = ys[i]:=by simpa using congrArg Prod.snd DT
   subst hy hx
   refine wpAny_bind (he i h1 h2 prog w _ _ ?_)
   cases hy:e i with
   | true =>
    wp_walk
    refine ⟨rfl,rfl,i + 1,mP,fun k hk mQ=>?_⟩
    by_cases z:k = i
    ·rw [z]
     exact hy
    ·exact hR k (by omega) mQ
   | false =>
    have lY:=hf i h1 h2 (fun k hk=>hR k hk (by omega)) hy prog w
    wp_walk using lY _ _
    exact ⟨_,rfl,h⟩
  case fin =>
   rintro ⟨b1,b2⟩ s' ⟨gP,rfl,i,hq,hR⟩
   simp only at gP
   subst gP
   have hge:min xs.size ys.size <= i:=by
    apply Classical.byContradiction
    intro z
    rw [List.drop_eq_getElem_cons (by omega)] at hq
    cases hq
   have hr:=hz fun j hj=>hR j (by omega) hj
   wp_walk
   refine ⟨_,rfl,?_⟩
   rw [hr] at h
   simpa [Builtin.Tuple.tupleCompareSizes] using h
  case h =>
   exact ⟨rfl,rfl,0,rfl,fun k hk=>absurd hk (Nat.not_lt_zero k)⟩
mutual
def Hz:PyData -> PyData -> Bool
 | .int a,.int b=>decide (a < b)
 | .tuple xs,.tuple ys=>aQ xs ys
 | _,_=>false
def aQ:List PyData -> List PyData -> Bool
 | [],[]=>false
 | [],_ :: _=>true
 | _ :: _,[]=>false
 | x :: xs,y :: ys=>if PyData.eqv x y then aQ xs ys else Hz x y
end
mutual
def Gr:PyData -> PyData -> Prop
 | .int _,.int _=>True
 | .tuple xs,.tuple ys=>bH xs ys
 | _,_=>False
def bH:List PyData -> List PyData -> Prop
 | x :: xs,y :: ys=>Gr x y /\ bH xs ys
 | _,_=>True
end
theorem Ng:∀ (xs ys:List PyData),(∀ j,j < min xs.length ys.length -> pairEq xs ys j = true) -> aQ xs ys = decide (xs.length < ys.length)
 | [],[],_=>rfl
 | [],y :: ys,_=>by simp [aQ]
 | x :: xs,[],_=>by simp [aQ]
 | x :: xs,y :: ys,h=>by
  have h0:PyData.eqv x y = true:=h 0 (by simp only [List.length_cons]; omega)
  have ih:=Ng xs ys fun j hj=>h (j + 1) (by simp only [List.length_cons]; omega)
  rw [aQ,if_pos h0,ih]
  simp
mutual
theorem Ky : ∀ (da db : PyData) (A : Around) (s : Shared) (a b : Value) (as bs : List Addr), Reads s.heap a da as -> Reads s.heap b db bs -> da.canLay0 = true -> db.canLay0 = true -> Gr da db ->
  A.units + min da.depth db.depth < cLine -> d9 A s a b (Hz da db)
 | .int x,db,A,s,_,_,_,_,ra,rb,_,_,hc,hu=>by
  cases db with
  | int y =>
   cases ra with
   | int _ t =>
    cases rb with
    | int _ u =>
     intro prog w E Q h
     exact richCompare_gives (op := .Lt) (typeIs_int s _ t) (typeIs_int s _ u) F.slot_int_lt F.entry_int_lt (F.args_int_lt_2 _ _) (gives_int_lt _ _ t u) (fun z=>nomatch z) h
  | none=>exact hc.elim
  | bool _=>exact hc.elim
  | str _=>exact hc.elim
  | list _=>exact hc.elim
  | tuple _=>exact hc.elim
  | dict _=>exact hc.elim
 | .tuple xs,db,A,s,_,_,_,_,ra,rb,ha,hb,hc,hu=>by
  cases db with
  | tuple ys =>
   cases ra with
   | @tuple l o vs n _ as₁ h1 h2 h3 h4 =>
    cases rb with
    | @tuple l' o' qT n' _ bs₁ k1 k2 k3 k4 =>
     obtain ⟨oc,od,OL,iA⟩ := o
     obtain ⟨oc',OM,ON,vR⟩ := o'
     simp only at h2 h3 k2 k3
     subst h2 h3 k2 k3
     have n1:vs.size = xs.length:=by simpa using ReadsAll.length _ _ _ h4
     have n2:qT.size = ys.length:=by simpa using ReadsAll.length _ _ _ k4
     intro prog w E Q h
     refine richCompare_meets_room (op := .Lt) ⟨_,h1,rfl⟩ ⟨_,k1,rfl⟩ F.slot_tuple_lt F.entry_tuple_lt (F.args_tuple_lt_2 _ _) (ja l l' vs qT n n' od OM iA vR (pairEq xs ys) (aQ xs ys)) ⟨h1,k1,fun j j1 j2=>?_,fun j j1 j2 f1 f2=>?_,fun f=>?_,(fun z=>nomatch z),h⟩ (room_here hu)
     ·have:=eqAt_readsAll xs ys A.in1 s vs.toList qT.toList _ _ h4 k4 ha hb (room_in hu) j (by simpa using j1) (by simpa using j2)
      simpa using this
     ·have:=eR xs ys A.in1 s vs.toList qT.toList _ _ h4 k4 ha hb hc (room_in hu) j (by simpa using j1) (by simpa using j2) f1 f2
      simpa using this
     ·rw [n1,n2] at f ⊢
      exact Ng xs ys f
  | none=>exact hc.elim
  | bool _=>exact hc.elim
  | str _=>exact hc.elim
  | list _=>exact hc.elim
  | int _=>exact hc.elim
  | dict _=>exact hc.elim
 | .none,_,_,_,_,_,_,_,_,_,_,_,hc,_=>hc.elim
 | .bool _,_,_,_,_,_,_,_,_,_,_,_,hc,_=>hc.elim
 | .str _,_,_,_,_,_,_,_,_,_,_,_,hc,_=>hc.elim
 | .list _,_,_,_,_,_,_,_,_,_,_,_,hc,_=>hc.elim
 | .dict _,_,_,_,_,_,_,_,_,_,_,_,hc,_=>hc.elim
theorem eR : ∀ (xs ys : List PyData) (A : Around) (s : Shared) (vs ws : List Value) (as bs : List Addr), ReadsAll s.heap vs xs as -> ReadsAll s.heap ws ys bs -> PyData.canLayAll0 xs = true -> PyData.canLayAll0 ys = true -> bH xs ys ->
  A.units + min (PyData.depthAll xs) (PyData.depthAll ys) < cLine -> ∀ j (h1:j < vs.length) (h2:j < ws.length),(∀ i,i < j -> pairEq xs ys i = true) -> pairEq xs ys j = false -> d9 A s vs[j] ws[j] (aQ xs ys)
 | [],_,_,_,_,_,_,_,ra,_,_,_,_,_,j,h1,_,_,_=>by cases ra; exact absurd h1 (Nat.not_lt_zero _)
 | _ :: _,[],_,_,_,_,_,_,_,rb,_,_,_,_,j,_,h2,_,_=>by cases rb; exact absurd h2 (Nat.not_lt_zero _)
 | x :: xs,y :: ys,A,s,_,_,_,_,ra,rb,ca,cb,hc,hu,j,h1,h2,f1,f2=>by
  cases ra with
  | cons r1 r2 =>
   cases rb with
   | cons q1 q2 =>
    have tI:x.canLay0 = true /\ PyData.canLayAll0 xs = true:=by simpa [PyData.canLayAll0] using ca
    have tJ:y.canLay0 = true /\ PyData.canLayAll0 ys = true:=by simpa [PyData.canLayAll0] using cb
    have hd:A.units + min x.depth y.depth < cLine /\ A.units + min (PyData.depthAll xs) (PyData.depthAll ys) < cLine:=by
     simp only [PyData.depthAll] at hu
     omega
    cases j with
    | zero =>
     have e:aQ (x :: xs) (y :: ys) = Hz x y:=by
      have f3:PyData.eqv x y = false:=f2
      rw [aQ,f3]
      rfl
     rw [e]
     exact Ky x y A s _ _ _ _ r1 q1 tI.1 tJ.1 hc.1 hd.1
    | succ j =>
     have e:aQ (x :: xs) (y :: ys) = aQ xs ys:=by
      have f3:PyData.eqv x y = true:=f1 0 (Nat.succ_pos _)
      rw [aQ,f3]
      rfl
     rw [e]
     exact eR xs ys A s _ _ _ _ r2 q2 tI.2 tJ.2 hc.2 hd.2 j (Nat.lt_of_succ_lt_succ h1) (Nat.lt_of_succ_lt_succ h2) (fun i hi=>f1 (i + 1) (Nat.succ_lt_succ hi)) f2
end
section
variable {X:Cx} {k:Nat}
def u8:R2:=fun x y H Q=>∃ d e:PyData,Rp H d x /\ Rp H e y /\ Gr d e /\ d.depth <= 60 /\ Q (.bl (Hz d e)) H
end
section
variable {X:Cx}
def l8 (K:PySem.W.Frag):R2:=fun x y H Q=>∃ a b xs ys,x = .ref a /\ y = .ref b /\ Cj K H a xs /\ H b = some (.tup ys) /\ ys ≠ [] /\ xs.length + ys.length <= sizeLine /\
 ∀ p H',Aa H H' -> H' p = some (.tup (xs ++ ys)) -> Q (.ref p) H'
theorem al (K:PySem.W.Frag) (hK:X.K = K:=by rfl):Hk X (binaryOp .Add) (l8 K):=by
 subst hK
 intro pins s σ H x y v u Q I rx ry h
 obtain ⟨a,b,xs,ys,rfl,rfl,ha,hb,hy,hz,q⟩ := h
 by_cases hx:xs = []
 ·subst hx
  cases rx
  cases ry
  obtain ⟨aL,r1,p1,_⟩ := I.tuple ha
  obtain ⟨fE,r2,p2,_⟩ := I.tuple (Cj.of hb)
  cases r1
  obtain ⟨⟨c1,d1,t1,l1⟩,ho,hc,n,hd⟩ := p1
  obtain ⟨⟨c2,d2,t2,l2⟩,iX,jS,n2,hd2⟩ := p2
  simp only at hc hd jS hd2
  subst hc hd jS hd2
  exact concat_meets ⟨_,ho,rfl⟩ ⟨_,iX,rfl⟩ noFill_tuple_add seq_tuple_add PySem.F.slot_tuple_add PySem.F.entry_tuple_add (PySem.F.args_tuple_add_2 _ _) (tuple_addW0 a b _ _ n n2 d1 d2 l1 l2 rfl) ⟨ho,iX,.ref b,H,I,rfl,q b H (Aa.refl H) hb⟩
 ·exact am pins s σ H _ _ v u Q I rx ry ⟨a,b,xs,ys,rfl,rfl,ha,Cj.of hb,hx,hz,fun e=>absurd e hy,fun _ p hp=>q p _ (Aa.upd hp) A5⟩
end
def Ws (h:Heap) (a t:Addr) (i:Int):Prop := ∃ o,h.get? a = some o /\ o.cls = .type "reversed" /\ o.data = .fields #[.ref t,rawInt i]
section
variable {prog:Program} {w:World} {A:Around} {E:Value -> Shared -> Prop} {s:Shared}
theorem Ws.ty {a t:Addr} {i:Int} (x:Ws s.heap a t i):s.TypeIs (.ref a) "reversed" := let ⟨o,ho,hc,_⟩ := x; ⟨o,ho,hc⟩
theorem Ws.at {h h':Heap} {a t:Addr} {i:Int} (x:Ws h a t i) (e:∀ o,h.get? a = some o -> h'.get? a = some o):Ws h' a t i:=let ⟨o,ho,r⟩ := x; ⟨o,e _ ho,r⟩
end
def pz (t:Addr) (i:Int):Obj:={ cls := .type "reversed",data := .fields #[.ref t,rawInt i] }
section
variable {prog:Program} {w:World} {A:Around} {E:Value -> Shared -> Prop} {s:Shared}
end
def t0 (K:PySem.W.Frag) (a:Addr) (xs:List V):It :=
 ⟨fun i H=>Cj K H a xs /\ i < xs.length,fun i H x H'=>H' = H /\ xs.reverse[i]? = some x,fun i H=>Cj K H a xs /\ xs.length <= i⟩
def u4 (K:PySem.W.Frag) (ta:TA):TI:=fun σ H R=>ta σ H fun vs H1=>∃ t xs,vs = [.ref t] /\ Cj K H1 t xs /\ R (t0 K t xs) H1
section
variable {X:Cx} {tg:Expr}
end
section
variable {P:Program} {w:World} {A:Around} {E:Value -> Shared -> Prop} {s:Shared}
end
section
variable {X:Cx}
def nw (K:PySem.W.Frag) (ta:TA):TE:=fun σ H Q=>ta σ H fun vs H1=>∃ l xs,vs = [.ref l] /\ B9 K H1 l xs /\ ∀ d,H1 d = none -> Q (.ref d) (upd H1 d (.tup xs.reverse))
end
section
variable {X:Cx}
end
section
variable {prog:Program} {w:World} {A:Around} {E:Value -> Shared -> Prop} {I:Addr} {fp wr:List Addr} {St:Nat -> Heap -> Prop} {items:Array Value}
end
section
variable {X:Cx} {pos:Pos}
def tw (K:PySem.W.Frag) (n:Nat) (t:Zg):TG:=fun v σ H Q=>∃ a xs,v = .ref a /\ B9 K H a xs /\ xs.length = n /\ t xs σ H Q
end
open PySem.W (Looks)
section
variable {prog:Program} {w:World} {A:Around} {E:Value -> Shared -> Prop} {K:PySem.W.Frag} {x C:Addr} {h:Heap} {g:Array GenState} {d:Drawn} {t:Nat} {os:OsState}
structure jn (K:PySem.W.Frag) (C:Addr):Prop where
 ga:PySem.W.findIn K (.ref C) "__getattribute__" = some (some (.builtin "BaseException.__getattribute__"))
 gt:PySem.W.findIn K (.ref C) "__getattr__" = some none
 cl:PySem.W.findIn K (.ref C) "__class__" = some (some (.builtin "object.__class__"))
 gs:PySem.W.specialIn K (.builtin "object.__class__") "__get__" = some (some (.builtin "getset_descriptor.__get__"))
 tk:PySem.W.takesIn K (.builtin "object.__class__") = some true
 ob:PySem.W.mroIn K C (.type "object") = some true
 be:PySem.W.subIn K (.ref C) (.type "BaseException") = some true
end
section
variable {X:Cx}
def rh (K:PySem.W.Frag):List V -> Hp -> VK -> Prop:=fun xs H Q=>∃ (a C:Addr) (c:Value) (v:V) (b:Bool),xs = [.ref a,v] /\ H a = some (.ext (Dw a (.ref C))) /\ (∀ u,Aw v u -> u = c) /\ jn K C /\ PySem.W.kitOne K (.ref C) c = some b /\ Q (.bl b) H
end
open PySem.W (Looks)
section
variable {X:Cx}
def tq (K:PySem.W.Frag) (tu:TS) (Y:Addr) (i:Nat) (D:Ha):St -> XK -> Prop:=fun σ1 E=>∀ cls H',E cls none H' -> ∃ C,cls = .ref C /\ PySem.W.subIn K (.ref C) (.ref Y) = some true /\ ∀ a,H' a = some (.ext (Dw a (.ref C))) ->
 tu { nx:=fun σ' H4=>D.nx (σ'.set i none) H4,rt:=fun _ _=>False } (σ1.set i (some (.ref a))) H'
def so (K:PySem.W.Frag) (tb:(St -> XK -> Prop) -> TS) (tu:TS) (Y:Addr) (i:Nat):TS:=fun D σ H=>tb (tq K tu Y i D) D σ H
end
section
variable {X:Cx}
def sv (i j:Int):Prop:=0 <= j /\ ((intBits i:Nat):Int) + j <= 2 ^ 27
end
section
variable {prog:Program} {w:World} {A:Around} {E:Value -> Shared -> Prop} {s:Shared} {l:Addr} {xs:Array (Int × Tok)}
end
section
variable {X:Cx}
end
section
variable {X:Cx}
def rf (K:PySem.W.Frag):R2:=fun x y H Q=>∃ a b xs ys,x = .ref a /\ y = .ref b /\ H a = some (.tup xs) /\ H b = some (.tup ys) /\ xs.length + ys.length <= sizeLine /\
 ∀ p H',Aa H H' -> H' p = some (.tup (xs ++ ys)) -> Q (.ref p) H'
end
structure ui (K:PySem.W.Frag) (C:Addr):Prop where
 makes:PySem.W.makesIn K C = true
 init:PySem.W.findIn K (.ref C) "__init__" = some (some (.builtin "object.__init__"))
 kp:PySem.W.keepIn K (.ref C) = true
def qi (C:Addr):TE:=fun σ H Q=>∀ x dx,H x = none -> H dx = none -> dx ≠ x -> Q (.ref x) (upd (upd H dx (.own x)) x (.ins C dx []))
section
variable {X:Cx} {C:Addr} {x:Str} {p pos:Pos}
end
section
variable {K:PySem.W.Frag} {x C:Addr}
end
section
variable {X:Cx}
def rk (K:PySem.W.Frag):List V -> Hp -> VK -> Prop:=fun xs H Q=>∃ (a C tp:Addr) (as:List Addr) (b:Bool),xs = [.ref a,.ref tp] /\ H a = some (.ext (Dw a (.ref C))) /\ H tp = some (.tup (as.map V.ref)) /\ jn K C /\ Zd K C /\
 PySem.W.kitAny K (.ref C) (as.map Value.ref) = some b /\ Q (.bl b) H
end
section
variable {X:Cx}
def nu (K:PySem.W.Frag):V -> List V -> Hp -> VK -> Prop:=fun x vs H Q=>∃ (l:Addr) (ns:List Int) (y:Int) (j:Nat),x = .ref l /\ vs = [.int y] /\ Cj K H l (ns.map V.int) /\ ns[j]? = some y /\ (∀ m,m < j -> ns[m]? ≠ some y) /\ Q (.int (j:Nat)) H
end
section
variable {X:Cx}
end
section
variable {X:Cx} {tg:Expr}
def r9 (ta:TA):TI:=fun σ H R=>ta σ H fun vs H1=>∃ i j:Int,vs = [.int i,.int j,.int (-1)] /\ (-(2 ^ 60) <= i /\ i < 2 ^ 60 /\ -(2 ^ 60) <= j /\ j < 2 ^ 60) /\ R (qy i (-1) (i - j).toNat) H1
end
section
variable {κ:Type} [DecidableEq κ]
def Ad (kvs:List (κ × V)) (k:κ):Option V:=(kvs.find? fun kv=>decide (kv.1 = k)).map (·.2)
def Bl (kvs:List (κ × V)) (k:κ) (v:V):List (κ × V) :=
 if (kvs.any fun kv=>decide (kv.1 = k)) = true then kvs.map (fun kv=>if kv.1 = k then (kv.1,v) else kv) else kvs ++ [(k,v)]
def Bu (kvs:List (κ × V)) (k:κ):List (κ × V):=kvs.filter fun kv=>decide (kv.1 ≠ k)
theorem Yz {k:κ}:Ad ([]:List (κ × V)) k = none:=rfl
theorem Ca {p:κ × V} {r:List (κ × V)} {k:κ} (e:p.1 = k):Ad (p :: r) k = some p.2:=by simp [Ad,List.find?_cons,e]
theorem C9 {p:κ × V} {r:List (κ × V)} {k:κ} (e:¬ p.1 = k):Ad (p :: r) k = Ad r k:=by simp [Ad,List.find?_cons,e]
theorem Dq (k:κ):∀ kvs:List (κ × V),(kvs.any fun kv=>decide (kv.1 = k)) = (Ad kvs k).isSome
 | []=>rfl
 | p :: r=>by
  rw [List.any_cons]
  by_cases e:p.1 = k
  ·simp only [Ca e,decide_eq_true e,Bool.true_or,Option.isSome_some]
  ·rw [C9 e,decide_eq_false e,Bool.false_or]; exact Dq k r
theorem Rl (k j:κ) (y:V):∀ kvs:List (κ × V),Ad (kvs.map fun kv=>if kv.1 = k then (kv.1,y) else kv) j = (Ad kvs j).map fun x=>if j = k then y else x
 | []=>rfl
 | p :: r=>by
  have ih:=Rl k j y r
  rw [List.map_cons]
  by_cases h:p.1 = k
  ·rw [if_pos h]
   by_cases e:p.1 = j
   ·rw [Ca (p:=(p.1,y)) e,Ca e,Option.map_some,if_pos (e.symm.trans h)]
   ·rw [C9 (p:=(p.1,y)) e,C9 e,ih]
  ·rw [if_neg h]
   by_cases e:p.1 = j
   ·rw [Ca (p:=p) e,Ca e,Option.map_some,if_neg (fun z=>h (e.trans z))]
   ·rw [C9 (p:=p) e,C9 e,ih]
theorem Od (k j:κ) (y:V):∀ kvs:List (κ × V),Ad kvs k = none -> Ad (kvs ++ [(k,y)]) j = if j = k then some y else Ad kvs j
 | [],_=>by
  by_cases e:k = j
  ·rw [if_pos e.symm]; exact Ca (p:=(k,y)) e
  ·rw [if_neg (fun z=>e z.symm)]; exact C9 (p:=(k,y)) e
 | p :: r,hn=>by
  rw [List.cons_append]
  have hk:¬ p.1 = k:=fun z=>by rw [Ca z] at hn; cases hn
  rw [C9 hk] at hn
  have ih:=Od k j y r hn
  by_cases e:p.1 = j
  ·rw [Ca e,Ca e,if_neg (fun z=>hk (e.trans z))]
  ·rw [C9 e,C9 e,ih]
theorem E8 (kvs:List (κ × V)) (k j:κ) (y:V):Ad (Bl kvs k y) j = if j = k then some y else Ad kvs j:=by
 unfold Bl
 by_cases a:(kvs.any fun kv=>decide (kv.1 = k)) = true
 ·rw [if_pos a,Rl]
  rw [Dq] at a
  by_cases e:j = k
  ·obtain ⟨x,hx⟩ := Option.isSome_iff_exists.mp a
   rw [if_pos e,e,hx,Option.map_some,if_pos rfl]
  ·rw [if_neg e]
   cases Ad kvs j with
   | none=>rfl
   | some x=>rw [Option.map_some,if_neg e]
 ·rw [if_neg a]
  refine Od k j y kvs ?_
  rw [Dq] at a
  cases q:Ad kvs k with
  | none=>rfl
  | some x=>rw [q] at a; exact (a rfl).elim
theorem Cv (kvs:List (κ × V)) (k:κ) (v:V):(Bl kvs k v).length <= kvs.length + 1:=by
 unfold Bl
 split
 ·rw [List.length_map]; omega
 ·rw [List.length_append,List.length_cons,List.length_nil]; omega
theorem Dp {kvs:List (κ × V)} {k:κ} (v:V) (h:Ad kvs k = none):Bl kvs k v = kvs ++ [(k,v)]:=by
 unfold Bl
 rw [Dq,h]
 exact if_neg (by decide)
theorem Hq.bR {o:Option V} {u:Option Value} (r:Hq o u):o.isSome = u.isSome:=by
 cases o with
 | none=>cases u with
  | none=>rfl
  | some _=>exact (show False from r).elim
 | some _=>cases u with
  | none=>exact (show False from r).elim
  | some _=>rfl
theorem Hq.getD {o:Option V} {u:Option Value} {d:V} {d':Value} (r:Hq o u) (rd:Aw d d'):Aw (o.getD d) (u.getD d'):=by
 cases o with
 | none=>cases u with
  | none=>exact rd
  | some _=>exact (show False from r).elim
 | some _=>cases u with
  | none=>exact (show False from r).elim
  | some _=>exact r
theorem KV.val {kvs:List (κ × V)} {vs:List (κ × Value)} (r:KV kvs vs) (k:κ):Hq (Ad kvs k) (valueAt vs k):=by
 unfold KV at r
 induction r with
 | nil=>exact True.intro
 | @cons p q ps qs h t ih =>
  obtain ⟨h1,h2⟩ := h
  by_cases e:p.1 = k
  ·have e':q.1 = k:=h1.symm.trans e
   have b:valueAt (q :: qs) k = some q.2:=by simp [valueAt,List.find?_cons,e']
   rw [Ca e,b]; exact h2
  ·have e':¬ q.1 = k:=fun z=>e (h1.trans z)
   have b:valueAt (q :: qs) k = valueAt qs k:=by simp [valueAt,List.find?_cons,e']
   rw [C9 e,b]; exact ih
theorem KV.any {kvs:List (κ × V)} {vs:List (κ × Value)} (r:KV kvs vs) (k:κ):(kvs.any fun kv=>decide (kv.1 = k)) = vs.any fun kv=>decide (kv.1 = k):=by
 unfold KV at r
 induction r with
 | nil=>rfl
 | cons h t ih=>rw [List.any_cons,List.any_cons,ih,h.1]
theorem KV.vS {kvs : List (κ × V)} {vs : List (κ × Value)} (r : KV kvs vs) (k : κ) {y : V} {u : Value} (ry : Aw y u) :
  KV (kvs.map fun kv=>if kv.1 = k then (kv.1,y) else kv) (vs.map fun kv=>if kv.1 = k then (kv.1,u) else kv):=by
 unfold KV at r ⊢
 induction r with
 | nil=>exact .nil
 | @cons p q ps qs h t ih =>
  rw [List.map_cons,List.map_cons]
  refine .cons ?_ ih
  obtain ⟨h1,h2⟩ := h
  by_cases e:p.1 = k
  ·rw [if_pos e,if_pos (h1.symm.trans e)]; exact ⟨h1,ry⟩
  ·rw [if_neg e,if_neg (fun z=>e (h1.trans z))]; exact ⟨h1,h2⟩
theorem KV.put {kvs:List (κ × V)} {vs:List (κ × Value)} (r:KV kvs vs) (k:κ) {y:V} {u:Value} (ry:Aw y u):KV (Bl kvs k y) (stored vs k u):=by
 unfold Bl stored
 rw [r.any k]
 by_cases e:(vs.any fun kv=>decide (kv.1 = k)) = true
 ·rw [if_pos e,if_pos e]; exact r.vS k ry
 ·rw [if_neg e,if_neg e]; exact Paired.snoc r ⟨rfl,ry⟩
theorem KV.drop {kvs:List (κ × V)} {vs:List (κ × Value)} (r:KV kvs vs) (k:κ):KV (Bu kvs k) (without vs k):=by
 unfold KV at r ⊢
 unfold Bu without
 induction r with
 | nil=>exact .nil
 | @cons p q ps qs h t ih =>
  obtain ⟨h1,h2⟩ := h
  rw [List.filter_cons,List.filter_cons]
  by_cases e:p.1 = k
  ·have a:¬ decide (p.1 ≠ k) = true:=by simp [e]
   have b:¬ decide (q.1 ≠ k) = true:=by simp [h1.symm.trans e]
   rw [if_neg a,if_neg b]; exact ih
  ·have e':¬ q.1 = k:=fun z=>e (h1.trans z)
   have a:decide (p.1 ≠ k) = true:=by simp [e]
   have b:decide (q.1 ≠ k) = true:=by simp [e']
   rw [if_pos a,if_pos b]; exact .cons ⟨h1,h2⟩ ih
theorem KV.keys {kvs:List (κ × V)} {vs:List (κ × Value)} (r:KV kvs vs):kvs.map (·.1) = vs.map (·.1):=by
 unfold KV at r
 induction r with
 | nil=>rfl
 | cons h t ih=>rw [List.map_cons,List.map_cons,ih,h.1]
theorem KV.length {kvs:List (κ × V)} {vs:List (κ × Value)} (r:KV kvs vs):kvs.length = vs.length:=Paired.length r
theorem Ql (kvs:List (κ × V)) (k:κ):(Bu kvs k).length <= kvs.length:=List.length_filter_le _ _
end
theorem N9 {P:Program} {w:World} {k:Dh} {u:Value} (r:Aw (kV k) u):(Da P w).is k u = true:=by
 cases k with
 | inl i=>obtain ⟨t,e⟩ := (show ∃ t,u = Value.int i t from r); subst e; exact R0 P w i t
 | inr x=>obtain ⟨t,e⟩ := (show ∃ t,u = Value.str x t from r); subst e; exact R6 P w x t
abbrev KT (H:Hp):List ((List Int × Int) × V) -> List ((List Int × Int) × Addr × Value) -> Prop:=Paired fun p q=>p.1 = q.1 /\ E9 H q.2.1 p.1 /\ Aw p.2 q.2.2
theorem KT.val {H:Hp} {kvs:List ((List Int × Int) × V)} {xs:List ((List Int × Int) × Addr × Value)} (r:KT H kvs xs) (k:(List Int × Int)):Hq (Ad kvs k) ((atKey xs k).map (·.2)):=by
 induction r with
 | nil=>exact True.intro
 | @cons p q ps qs h t ih =>
  obtain ⟨h1,_,h2⟩ := h
  by_cases e:p.1 = k
  ·have e':q.1 = k:=h1.symm.trans e
   have b:atKey (q :: qs) k = some q.2:=by simp [atKey,List.find?_cons,e']
   rw [Ca e,b]; exact h2
  ·have e':¬ q.1 = k:=fun z=>e (h1.trans z)
   have b:atKey (q :: qs) k = atKey qs k:=by simp [atKey,List.find?_cons,e']
   rw [C9 e,b]; exact ih
theorem KT.vS {H : Hp} {kvs : List ((List Int × Int) × V)} {xs : List ((List Int × Int) × Addr × Value)} (r : KT H kvs xs) (k : (List Int × Int)) {y : V} {u : Value} (ry : Aw y u) :
  KT H (kvs.map fun kv=>if kv.1 = k then (kv.1,y) else kv) (xs.map (putAt k u)):=by
 induction r with
 | nil=>exact .nil
 | @cons p q ps qs h t ih =>
  rw [List.map_cons,List.map_cons]
  refine .cons ?_ ih
  obtain ⟨h1,h2,h3⟩ := h
  unfold putAt
  by_cases e:p.1 = k
  ·rw [if_pos e,if_pos (h1.symm.trans e)]; exact ⟨h1,h2,ry⟩
  ·rw [if_neg e,if_neg (fun z=>e (h1.trans z))]; exact ⟨h1,h2,h3⟩
theorem KT.put {H : Hp} {kvs : List ((List Int × Int) × V)} {xs : List ((List Int × Int) × Addr × Value)} (r : KT H kvs xs) (k : (List Int × Int)) {b : Addr} {y : V} {u : Value} (hb : E9 H b k) (ry : Aw y u) :
  KT H (Bl kvs k y) (storedH xs k b u):=by
 have e:(kvs.any fun kv=>decide (kv.1 = k)) = (atKey xs k).isSome:=by
  rw [Dq,(r.val k).bR,Option.isSome_map]
 unfold Bl storedH
 rw [e]
 by_cases q:(atKey xs k).isSome = true
 ·rw [if_pos q,if_pos q]; exact r.vS k ry
 ·rw [if_neg q,if_neg q]; exact Paired.snoc r ⟨rfl,hb,ry⟩
theorem KT.keeps {H H':Hp} {kvs:List ((List Int × Int) × V)} {xs:List ((List Int × Int) × Addr × Value)} (r:KT H kvs xs) (ht:∀ b ys,H b = some (.tup ys) -> H' b = some (.tup ys)):KT H' kvs xs :=
 Paired.CZ r fun _ _ z=>⟨z.1,z.2.1.up ht,z.2.2⟩
section
variable {P:Program} {w:World} {H:Hp} {h:Heap} {a:Addr}
theorem ci {u:HO} (ok:Ft P w H h) (e:Rd H a u):Bn P w H h a u:=e.ok ok
theorem Jd {kvs:List (Dh × V)} (ok:Ft P w H h) (e:Rd H a (.dK kvs)):kvs.length <= sizeLine /\ (a == sysModules) = false /\ ∃ vs,KV kvs vs /\ h.DictOf (Da P w) a vs :=
 show Bn P w H h a (.dK kvs) from ci ok e
theorem c8 {kvs:List (Dh × V)} (ok:Ft P w H h) (e:H a = some (.dK kvs)):kvs.length <= sizeLine /\ (a == sysModules) = false /\ ∃ vs,KV kvs vs /\ h.DictOf (Da P w) a vs:=Jd ok (.inl e)
theorem Qp {P:Program} {w:World}:∀ {ks:List Int} {us:List Value},Az (ks.map V.int) us -> ItemsAre (intKind P w) ks us
 | [],us,r=>by
  cases r
  exact .nil
 | k :: ks,us,r=>by
  cases r with
  | cons h t =>
   obtain ⟨tk,rfl⟩ := h
   exact .cons (by simp [intKind,Value.isInt]) (Qp t)
theorem D5 {P:Program} {w:World} {A:Around} (hu:A.units + 20 < cLine):(C6 P w).room A.in1:=by
 first | (show A.units + 1 + 8 < cLine; omega) | (show A.units + 8 < cLine; omega)
theorem Fx {ks:List Int × Int} (ok:Ft P w H h) (e:E9 H a ks):(C6 P w).is h ks a:=by
 obtain ⟨u,e1,e2⟩ := e
 obtain ⟨_,aL,r,o,h1,h2,n,h3⟩ := (show Bn P w H h a (.tup [.ref u,.int ks.2]) from ok a _ e1)
 obtain ⟨_,fE,r2,o2,g1,g2,m,g3⟩ := (show Bn P w H h u (.tup (ks.1.map V.int)) from ok u _ e2)
 cases r with
 | cons r1 rr =>
  cases rr with
  | cons r3 rr =>
   cases rr
   cases (show _ = Value.ref u from r1)
   obtain ⟨t,rfl⟩ := r3
   exact ⟨o,n,u,t,h1,h2,h3,o2,fE.toArray,m,g1,g2,g3,by simpa using Qp r2⟩
theorem Kn {kvs : List ((List Int × Int) × V)} (ok : Ft P w H h) (e : Rd H a (.dT kvs)) : kvs.length <= sizeLine /\ (a == sysModules) = false /\
  ∃ xs,KT H kvs xs /\ h.DictOfH (C6 P w) a xs:=by
 obtain ⟨z,y,xs,r,o,es,ep,h1,h2,h3,h4,h5⟩ := (show Bn P w H h a (.dT kvs) from ci ok e)
 refine ⟨z,y,xs,r,o,es,ep,h1,h2,h3,h4,fun x hx=>?_,h5⟩
 have all:∀ {l:List ((List Int × Int) × V)} {m:List ((List Int × Int) × Addr × Value)},KT H l m -> ∀ x ∈ m,(C6 P w).is h x.1 x.2.1:=by
  intro l m q
  induction q with
  | nil=>intro x hx; exact nomatch hx
  | @cons p q ps qs hq t ih =>
   intro x hx
   rcases List.mem_cons.mp hx with e | hx
   ·subst e
    exact Fx ok (by rw [<- hq.1]; exact hq.2.1)
   ·exact ih x hx
 exact all r x hx
theorem c9 {kvs : List ((List Int × Int) × V)} (ok : Ft P w H h) (e : H a = some (.dT kvs)) : kvs.length <= sizeLine /\ (a == sysModules) = false /\
  ∃ xs,KT H kvs xs /\ h.DictOfH (C6 P w) a xs:=Kn ok (.inl e)
end
def D2 (H:Hp) (a:Addr) (y:V) (r:Option V):Prop :=
 (∃ kvs k,Rd H a (.dK kvs) /\ y = kV k /\ r = Ad kvs k) \/ ∃ kvs k b,Rd H a (.dT kvs) /\ y = .ref b /\ E9 H b k /\ r = Ad kvs k
def K9 (H:Hp) (a:Addr) (y v:V) (H':Hp):Prop :=
 (∃ kvs k,H a = some (.dK kvs) /\ y = kV k /\ kvs.length < sizeLine /\ H' = upd H a (.dK (Bl kvs k v))) \/
 ∃ kvs k b,H a = some (.dT kvs) /\ y = .ref b /\ E9 H b k /\ kvs.length < sizeLine /\ H' = upd H a (.dT (Bl kvs k v))
theorem D2.k {H:Hp} {a:Addr} {kvs:List (Dh × V)} {k:Dh} (e:H a = some (.dK kvs)):D2 H a (kV k) (Ad kvs k) := .inl ⟨kvs,k,.inl e,rfl,rfl⟩
theorem D2.t {H:Hp} {a b:Addr} {kvs:List ((List Int × Int) × V)} {k:(List Int × Int)} (e:H a = some (.dT kvs)) (eb:E9 H b k):D2 H a (.ref b) (Ad kvs k) := .inr ⟨kvs,k,b,.inl e,rfl,eb,rfl⟩
theorem K9.k {H:Hp} {a:Addr} {kvs:List (Dh × V)} {k:Dh} {v:V} (e:H a = some (.dK kvs)) (hl:kvs.length < sizeLine):K9 H a (kV k) v (upd H a (.dK (Bl kvs k v))) := .inl ⟨kvs,k,e,rfl,hl,rfl⟩
theorem K9.t {H : Hp} {a b : Addr} {kvs : List ((List Int × Int) × V)} {k : (List Int × Int)} {v : V} (e : H a = some (.dT kvs)) (eb : E9 H b k) (hl : kvs.length < sizeLine) :
  K9 H a (.ref b) v (upd H a (.dT (Bl kvs k v))) := .inr ⟨kvs,k,b,e,rfl,eb,hl,rfl⟩
section
variable {X:Cx} {pins:List (Addr × Obj)} {σ:St} {H:Hp} {s:Shared} {a:Addr} {y v:V} {u r:Value} {o:Option V} {A:Around} {E:Value -> Shared -> Prop}
theorem Ag.big (I:Ag X pins σ H s):sysModules < s.heap.objs.size:=by
 have h:mainGlobals < s.heap.objs.size:=(I.mod.glob.keeps I.bk).lt
 exact Nat.lt_trans (by decide) h
theorem Vg {Q : Value -> Shared -> Prop} (hu : A.units + 20 < cLine) (I : Ag X pins σ H s) (g : D2 H a y (some v)) (ry : Aw y u) (h : ∀ w' s', Ag X pins σ H s' -> Aw v w' -> Q w' s') :
  wpAny (model X.prog X.w) A (getItem (.ref a) u) Q E s:=by
 rcases g with ⟨kvs,k,e,ey,l⟩ | ⟨kvs,k,b,e,ey,eb,l⟩
 ·subst ey
  obtain ⟨z,hd,vs,rel,dd⟩ := Jd I.aP e
  obtain ⟨w',hw,fY⟩ := Hq.some_of (v:=v) (o:=valueAt vs k) (by rw [l]; exact rel.val k)
  exact wpAny_getItem_of (N9 ry) dd.mapOf hw (h w' _ (I.tok _) fY)
 ·subst ey
  cases (show u = Value.ref b from ry)
  obtain ⟨z,hd,xs,rel,dd⟩ := Kn I.aP e
  obtain ⟨w',hw,fY⟩ := Hq.some_of (v:=v) (o:=(atKey xs k).map (·.2)) (by rw [l]; exact rel.val k)
  obtain ⟨p,hp,DU⟩ := Option.map_eq_some_iff.mp hw
  refine wpAny_getItem_heap (D5 hu) (Fx I.aP eb) dd hp ?_
  rw [DU]
  exact h w' _ (I.tok _) fY
theorem ou {Q : Value -> Shared -> Prop} (hu : A.units + 20 < cLine) (I : Ag X pins σ H s) (g : D2 H a y o) (ry : Aw y u) (h : ∀ s', Ag X pins σ H s' -> Q (.bool o.isSome) s') :
  wpAny (model X.prog X.w) A (compareOp .In u (.ref a)) Q E s:=by
 rcases g with ⟨kvs,k,e,ey,l⟩ | ⟨kvs,k,b,e,ey,eb,l⟩
 ·subst ey
  obtain ⟨z,hd,vs,rel,dd⟩ := Jd I.aP e
  refine wpAny_in_of (N9 ry) hd dd.mapOf ?_
  rw [<- (rel.val k).bR,<- l]
  exact h _ (I.tok _)
 ·subst ey
  cases (show u = Value.ref b from ry)
  obtain ⟨z,hd,xs,rel,dd⟩ := Kn I.aP e
  refine wpAny_in_heap (D5 hu) (Fx I.aP eb) hd dd ?_
  have q:=(rel.val k).bR
  rw [Option.isSome_map] at q
  rw [<- q,<- l]
  exact h _ (I.tok _)
theorem Zn {Q : Value -> Shared -> Prop} (hu : A.units + 20 < cLine) (I : Ag X pins σ H s) (g : D2 H a y o) (ry : Aw y u) (h : ∀ s', Ag X pins σ H s' -> Q (.bool (!o.isSome)) s') :
  wpAny (model X.prog X.w) A (compareOp .NotIn u (.ref a)) Q E s:=by
 rcases g with ⟨kvs,k,e,ey,l⟩ | ⟨kvs,k,b,e,ey,eb,l⟩
 ·subst ey
  obtain ⟨z,hd,vs,rel,dd⟩ := Jd I.aP e
  refine wpAny_notIn_of (N9 ry) hd dd.mapOf ?_
  rw [<- (rel.val k).bR,<- l]
  exact h _ (I.tok _)
 ·subst ey
  cases (show u = Value.ref b from ry)
  obtain ⟨z,hd,xs,rel,dd⟩ := Kn I.aP e
  refine wpAny_notIn_heap (D5 hu) (Fx I.aP eb) hd dd ?_
  have q:=(rel.val k).bR
  rw [Option.isSome_map] at q
  rw [<- q,<- l]
  exact h _ (I.tok _)
theorem Jw {h' : Heap} {t' : Nat} {ob : HO} (I : Ag X pins σ H s) (mu : jq (H a)) (hs : Heap.SameBut a s.heap h') (he : ∃ q, h'.get? a = some q) (new : Bn X.prog X.w (upd H a ob) h' a ob) :
  Ag X pins σ (upd H a ob) { s with heap:=h',toks:=t' } :=
 I.write (x:=a) (e:=a) mu (.inl rfl) (fun b q hb z=>(hs.2 b hb).trans z) he new
theorem X2 {P : Program} {w : World} {H' : Hp} {h' : Heap} {kvs : List (Dh × V)} {vs : List (Dh × Value)} (z : kvs.length <= sizeLine) (hd : (a == sysModules) = false) (rel : KV kvs vs) (dd : h'.DictOf (Da P w) a vs) :
  Bn P w H' h' a (.dK kvs):=⟨z,hd,vs,rel,dd⟩
theorem Vh {H' : Hp} {Q : Unit -> Shared -> Prop} (hu : A.units + 20 < cLine) (I : Ag X pins σ H s) (g : K9 H a y v H') (ry : Aw y u) (rv : Aw v r) (h : ∀ s', Ag X pins σ H' s' -> Q () s') :
  wpAny (model X.prog X.w) A (setItem (.ref a) u r) Q E s:=by
 rcases g with ⟨kvs,k,e,ey,l,eH⟩ | ⟨kvs,k,b,e,ey,eb,l,eH⟩
 ·subst ey eH
  obtain ⟨z,hd,vs,rel,dd⟩ := c8 I.aP e
  have hz:vs.length <= sizeLine:=by rw [<- rel.length]; exact z
  have hl:(Bl kvs k v).length <= sizeLine:=by have:=Cv kvs k v; omega
  refine wpAny_setItem_pairs (hsz:=hz) (N9 ry) dd fun h' rN hs=>h _ ?_
  have he:∃ q,h'.get? a = some q:=let ⟨q,_,_,hq,_⟩ := rN; ⟨q,hq⟩
  exact Jw I (by rw [e]; exact True.intro) hs he (X2 hl hd (rel.put k rv) rN)
 ·subst ey eH
  cases (show u = Value.ref b from ry)
  obtain ⟨z,hd,xs,rel,dd⟩ := c9 I.aP e
  have hz:xs.length <= sizeLine:=by rw [<- Paired.length rel]; exact z
  have hl:(Bl kvs k v).length <= sizeLine:=by have:=Cv kvs k v; omega
  refine wpAny_setItem_heap (hsz:=hz) (D5 hu) (Fx I.aP eb) dd fun h' rN hs=>h _ ?_
  obtain ⟨q,es,ep,hq,h2,h3,h4,_,h5⟩ := rN
  refine Jw I (by rw [e]; exact True.intro) hs ⟨q,hq⟩ ⟨hl,hd,_,(rel.put k eb rv).keeps fun c ys ec=>?_,q,es,ep,hq,h2,h3,h4,h5⟩
  rw [Ac (Bw ec e (fun z=>nomatch z))]
  exact ec
end
section
variable {X:Cx} {pins:List (Addr × Obj)} {σ:St} {H:Hp} {s:Shared} {a:Addr} {kvs:List (Dh × V)} {k:Dh} {u:Value} {A:Around} {E:Value -> Shared -> Prop}
theorem jy {v : V} {more : List Value} {Q : Value -> Shared -> Prop} (I : Ag X pins σ H s) (e : H a = some (.dK kvs)) (ry : Aw (kV k) u) (l : Ad kvs k = some v) (hm : more = [] \/ ∃ x, more = [x])
  (h:∀ w' s',Ag X pins σ (upd H a (.dK (Bu kvs k))) s' -> Aw v w' -> Q w' s'):wpAny (model X.prog X.w) A (call (.builtin "dict.pop") (.ref a :: u :: more)) Q E s:=by
 obtain ⟨z,hd,vs,rel,dd⟩ := c8 I.aP e
 obtain ⟨w',hw,fY⟩ := Hq.some_of (v:=v) (o:=valueAt vs k) (by rw [<- l]; exact rel.val k)
 have hp:(keyPart u).isSome = true:=by
  cases k with
  | inl i=>obtain ⟨t,q⟩ := (show ∃ t,u = Value.int i t from ry); subst q; rfl
  | inr x=>obtain ⟨t,q⟩ := (show ∃ t,u = Value.str x t from ry); subst q; rfl
 have ha:argsOk "dict.pop" ⟨.ref a :: u :: more,[]⟩ := by
  rcases hm with q | ⟨x,q⟩
  ·subst q; exact PySem.F.args_dict_pop_2 _ _
  ·subst q; exact PySem.F.args_dict_pop_3 _ _ _
 refine call_meetsIn PySem.F.slot_dict_pop dd.typeIs PySem.F.entry_dict_pop ha (meets_dict_pop_there (Da X.prog X.w) a (N9 ry) more hm hp)
  ⟨vs,w',dd,by rw [<- rel.length]; exact z,hw,fun h' rN hs=>h w' _ ?_ fY⟩
 have he:∃ q,h'.get? a = some q:=let ⟨q,_,_,hq,_⟩ := rN; ⟨q,hq⟩
 exact Jw I (by rw [e]; exact True.intro) hs he (X2 (Nat.le_trans (Ql kvs k) z) hd (rel.drop k) rN)
end
def jr (i:Expr):Prop := ∀ ov iv,subscripted i false ov iv = operate [ov,iv] (getItem ov iv)
theorem bi {prog : Program} {w : World} {A : Around} {E : Value -> Shared -> Prop} {s : Shared} {env : Env} {value slice : Expr} {pos : Pos} {T id : String} {Q : Value -> Shared -> Prop}
  (hl:typeLookup (.type T) "__getitem__" = pure (some (.builtin id))) (hs:jr slice)
  (h:wpAny (model prog w) A (eval value env) (fun o s₁=>wpAny (model prog w) A (eval slice env) (fun i s₂=>s₂.TypeIs o T /\ wpAny (model prog w) A (getItem o i) Q E s₂) E s₁) E s) :
  wpAny (model prog w) A (eval (.Subscript value slice pos) env) Q E s:=by
 refine Subscript_ (wpAny_mono h (fun o s₁ h₁=>wpAny_mono h₁ (fun i s₂ h₂=>?_) fun _ _ x=>x) fun _ _ x=>x)
 obtain ⟨hT,h₂⟩ := h₂
 unfold subscriptTail
 refine wpAny_bind ?_
 rw [getitemInPython_of_ne hT.not_modules]
 refine wpAny_bind (wpAny_specialOf hT hl ?_)
 have fin:wpAny (model prog w) A (subscripted slice false o i) (fun r s₃=>wpAny (model prog w) A (letTemporaryGo value o r >>= fun _=>pure r) Q E s₃) E s₂:=by
  rw [hs o i]
  exact wpAny_operating (wpAny_mono h₂ (fun r s₃ h₃=>wpAny_bind (wpAny_letTemporaryGo (wpAny_pure h₃))) fun _ _ x=>x)
 first
  | exact wpAny_pure (wpAny_bind fin)
  | exact wpAny_bind (wpAny_pure (wpAny_bind fin))
  | exact wpAny_bind fin
theorem Qj {X:Cx} {pins:List (Addr × Obj)} {σ:St} {H:Hp} {s:Shared} {a:Addr} {y:V} {o:Option V} (I:Ag X pins σ H s) (g:D2 H a y o):s.TypeIs (.ref a) "dict" := by
 rcases g with ⟨kvs,k,e,_,_⟩ | ⟨kvs,k,b,e,_,_,_⟩
 ·obtain ⟨_,_,vs,_,dd⟩ := Jd I.aP e
  exact dd.typeIs
 ·obtain ⟨_,_,xs,_,dd⟩ := Kn I.aP e
  exact dd.typeIs
def mq (td ty:TE):TE:=fun σ H Q=>td σ H fun x H1=>ty σ H1 fun y H2=>∃ a v,x = .ref a /\ D2 H2 a y (some v) /\ Q v H2
def qb (ty td:TE):TE:=fun σ H Q=>ty σ H fun y H1=>td σ H1 fun x H2=>∃ a o,x = .ref a /\ D2 H2 a y o /\ Q (.bl o.isSome) H2
def bj (ty td:TE):TE:=fun σ H Q=>ty σ H fun y H1=>td σ H1 fun x H2=>∃ a o,x = .ref a /\ D2 H2 a y o /\ Q (.bl (!o.isSome)) H2
def lw (td ty tv:TE):TS:=fun D σ H=>tv σ H fun v H1=>td σ H1 fun x H2=>ty σ H2 fun y H3=>∃ a H4,x = .ref a /\ K9 H3 a y v H4 /\ D.nx σ H4
def rq (td ty tv:TE) (rd:V -> V -> Hp -> VK -> Prop):TS:=fun D σ H=>td σ H fun x H1=>ty σ H1 fun y H2=>∃ a v,x = .ref a /\ D2 H2 a y (some v) /\
 tv σ H2 fun y2 H3=>rd v y2 H3 fun z H4=>∃ H5,K9 H4 a y z H5 /\ D.nx σ H5
def sd (td ty:TE):TS:=fun D σ H=>td σ H fun x H1=>ty σ H1 fun y H2=>∃ a kvs k,x = .ref a /\ H2 a = some (.dK kvs) /\ y = kV k /\ (Ad kvs k).isSome = true /\ D.nx σ (upd H2 a (.dK (Bu kvs k)))
section
variable {X:Cx} {o i e value:Expr} {pos pos' vG:Pos} {td ty tv:TE}
theorem Ei (hu:X.A.units + 20 < cLine) (ho:PE X o td) (hi:PE X i ty) (hs:jr i):PE X (.Subscript o i pos) (mq td ty):=by
 intro pins s σ H Q I h
 refine bi PySem.F.slot_dict_getitem.lookup hs (Ci (ho pins s σ H _ I h) fun u s1 ⟨x,H1,I1,rx,q1⟩=>Ci (hi pins s1 σ H1 _ I1 q1) fun iv s2 bA=>?_)
 obtain ⟨y,H2,I2,ry,a,v,ex,g,q2⟩ := bA
 subst ex
 obtain rfl:u = Value.ref a:=rx
 exact ⟨Qj I2 g,Vg hu I2 g ry fun w' s3 I3 fY=>⟨v,H2,I3,fY,q2⟩⟩
theorem Sn (hu:X.A.units + 20 < cLine) (hi:PE X i ty) (ho:PE X o td):PC X .In i o (qb ty td):=by
 intro pins s σ H Q I h
 refine Ci (hi pins s σ H _ I h) fun iv s1 ⟨y,H1,I1,ry,q1⟩=>Ci (ho pins s1 σ H1 _ I1 q1) fun u s2 bA=>?_
 obtain ⟨x,H2,I2,rx,a,ov,ex,g,q2⟩ := bA
 subst ex
 obtain rfl:u = Value.ref a:=rx
 exact ou hu I2 g ry fun s3 I3=>⟨.bl ov.isSome,H2,I3,rfl,q2⟩
theorem J1 (hu:X.A.units + 20 < cLine) (hi:PE X i ty) (ho:PE X o td):PC X .NotIn i o (bj ty td):=by
 intro pins s σ H Q I h
 refine Ci (hi pins s σ H _ I h) fun iv s1 ⟨y,H1,I1,ry,q1⟩=>Ci (ho pins s1 σ H1 _ I1 q1) fun u s2 bA=>?_
 obtain ⟨x,H2,I2,rx,a,ov,ex,g,q2⟩ := bA
 subst ex
 obtain rfl:u = Value.ref a:=rx
 exact Zn hu I2 g ry fun s3 I3=>⟨.bl (!ov.isSome),H2,I3,rfl,q2⟩
theorem Ie (hu : X.A.units + 20 < cLine) (ho : PE X o td) (hi : PE X i ty) (hv : PE X value tv) (hs : swapsWith value (some (.Subscript o i pos')) pos.line X.env = pure false) :
  PS X (.Assign [.Subscript o i pos'] value pos) (lw td ty tv):=by
 intro pins s σ H D I h
 refine wpAny_Assign_Subscript (Ci (hv pins s σ H _ I h) fun r s1 ⟨v,H1,I1,rv,q1⟩=>Ci (ho pins s1 σ H1 _ I1 q1) fun u s2 ⟨x,H2,I2,rx,q2⟩=>Ci (hi pins s2 σ H2 _ I2 q2) fun iv s3 ⟨y,H3,I3,ry,a,H4,ex,g,q3⟩=>?_) hs
 subst ex
 obtain rfl:u = Value.ref a:=rx
 exact Vh hu I3 g ry rv fun s4 I4=>⟨σ,H4,I4,q3⟩
end
theorem X1 {P:Program} {w:World} {H:Hp} (h:Heap) (hb:sysModules < h.objs.size):Bn P w H (h.push { cls := .type "dict",data := .dict #[] }) h.objs.size (.dK []) :=
 ⟨Nat.zero_le _,beq_eq_false_iff_ne.mpr (Ne.symm (Nat.ne_of_lt hb)),[],.nil,Heap.DictOf.new h⟩
theorem X3 {P:Program} {w:World} {H:Hp} (h:Heap) (hb:sysModules < h.objs.size):Bn P w H (h.push { cls := .type "dict",data := .dict #[] }) h.objs.size (.dT []) :=
 ⟨Nat.zero_le _,beq_eq_false_iff_ne.mpr (Ne.symm (Nat.ne_of_lt hb)),[],.nil,_,#[],0,Heap.get?_push_size _ rfl,⟨rfl,rfl,rfl⟩,rfl,rfl,List.nodup_nil⟩
def iz:TE:=fun _ H Q=>∀ p,H p = none -> Q (.ref p) (upd H p (.dK []))
def j0:TE:=fun _ H Q=>∀ p,H p = none -> Q (.ref p) (upd H p (.dT []))
section
variable {X:Cx} {pos:Pos}
theorem Y0:PE X (.Dict [] [] pos) iz:=fun pins s σ H Q I h =>
 wpAny_Dict_empty ⟨.ref s.heap.objs.size,_,I.laid (a:=s.heap.objs.size) (o := .dK []) (t':=s.toks) (fun _ _ q=>Heap.get?_push_of_some _ q) (Nat.le_refl _) (X1 s.heap I.big),rfl,h _ (I.aP.fresh (Nat.le_refl _))⟩
theorem Fz:PE X (.Dict [] [] pos) j0:=fun pins s σ H Q I h =>
 wpAny_Dict_empty ⟨.ref s.heap.objs.size,_,I.laid (a:=s.heap.objs.size) (o := .dT []) (t':=s.toks) (fun _ _ q=>Heap.get?_push_of_some _ q) (Nat.le_refl _) (X3 s.heap I.big),rfl,h _ (I.aP.fresh (Nat.le_refl _))⟩
end
def Pq:List (TE × TE) -> St -> Hp -> (List (V × V) -> Hp -> Prop) -> Prop
 | [],_,H,Q=>Q [] H
 | (tk,tv) :: r,σ,H,Q=>tk σ H fun x H1=>tv σ H1 fun y H2=>Pq r σ H2 fun ps H3=>Q ((x,y) :: ps) H3
abbrev VV:List (V × V) -> List (Value × Value) -> Prop:=Paired fun p q=>Aw p.1 q.1 /\ Aw p.2 q.2
def uj (X:Cx) (pos:Pos) (keys:List (Option Expr)) (values:List Expr) (OO:List (TE × TE)):Prop :=
 ∀ (pins:List (Addr × Obj)) (s:Shared) (σ:St) (H:Hp) (Q:List (V × V) -> Hp -> Prop),Ag X pins σ H s -> Pq OO σ H Q ->
  wpAny (model X.prog X.w) X.A (evalPairs (pairTrees keys values X.env pos)) (fun vs s'=>∃ ps H',Ag X pins σ H' s' /\ VV ps vs /\ Q ps H') X.xe s
def fh (kvs more:List (Dh × V)):List (Dh × V):=more.foldl (fun acc kv=>Bl acc kv.1 kv.2) kvs
def si (OO:List (TE × TE)):TE:=fun σ H Q=>∀ p,H p = none -> Pq OO σ (upd H p (.dK [])) fun ps H2=>H2 p = some (.dK []) /\ ∃ kvs:List (Dh × V),ps = kvs.map (fun kv=>(kV kv.1,kv.2)) /\ kvs.length <= 15 /\ Q (.ref p) (upd H2 p (.dK (fh [] kvs)))
structure M1 (X:Cx) (o:Expr) (m:Str) (apos:Pos) (e:Expr) (aY:Pos):Prop where
 base:attributeBase o m X.env (eval o X.env) = eval o X.env
 CF:((backTo aY (starEach [e] X.env)).all (fun x=>!x.1) && (backToKw aY (keywordEach [] X.env)).all (fun x=>x.1.isSome)
  && decide (([e]:List Expr).length + ([]:List Keyword).length + (if ([]:List Keyword).isEmpty then 0 else 1) < 30)) = true
 line:(apos.endLine == aY.line) = true
 trees:backTo aY (starEach [e] X.env) = [(false,eval e X.env)]
structure M2 (X:Cx) (o:Expr) (m:Str) (apos:Pos) (e f:Expr) (aY:Pos):Prop where
 base:attributeBase o m X.env (eval o X.env) = eval o X.env
 CF:((backTo aY (starEach [e,f] X.env)).all (fun x=>!x.1) && (backToKw aY (keywordEach [] X.env)).all (fun x=>x.1.isSome)
  && decide (([e,f]:List Expr).length + ([]:List Keyword).length + (if ([]:List Keyword).isEmpty then 0 else 1) < 30)) = true
 line:(apos.endLine == aY.line) = true
 trees:backTo aY (starEach [e,f] X.env) = [(false,eval e X.env),(false,eval f X.env)]
def jd (H:Hp) (a:Addr):Prop:=(∃ kvs,Rd H a (.dK kvs)) \/ ∃ kvs,Rd H a (.dT kvs)
theorem Sa {X : Cx} {pins : List (Addr × Obj)} {σ : St} {H : Hp} {s : Shared} {a : Addr} (I : Ag X pins σ H s) (d : jd H a) :
  s.TypeIs (.ref a) "dict" /\ (∀ b,Value.ref a = .ref b -> ∃ ob,s.heap.get? b = some ob /\ ob.dict = none) /\ (a == sysModules) = false:=by
 rcases d with ⟨kvs,e⟩ | ⟨kvs,e⟩
 ·obtain ⟨_,hd,vs,_,dd⟩ := Jd I.aP e
  refine ⟨dd.typeIs,fun b q=>?_,hd⟩
  cases q
  obtain ⟨ob,_,_,h1,h2,_⟩ := dd
  exact ⟨ob,h1,h2.2.1⟩
 ·obtain ⟨_,hd,xs,_,dd⟩ := Kn I.aP e
  refine ⟨dd.typeIs,fun b q=>?_,hd⟩
  cases q
  obtain ⟨ob,_,_,h1,h2,_⟩ := dd
  exact ⟨ob,h1,h2.2.1⟩
section
variable {X:Cx} {pins:List (Addr × Obj)} {σ:St} {H:Hp} {s:Shared} {a:Addr} {y d:V} {u r:Value} {o:Option V} {A:Around} {E:Value -> Shared -> Prop}
theorem du {Q : Value -> Shared -> Prop} (hu : A.units + 20 < cLine) (I : Ag X pins σ H s) (g : D2 H a y o) (ry : Aw y u) (rd : Aw d r) (h : ∀ w' s', Ag X pins σ H s' -> Aw (o.getD d) w' -> Q w' s') :
  wpAny (model X.prog X.w) A (call (.builtin "dict.get") [.ref a,u,r]) Q E s:=by
 rcases g with ⟨kvs,k,e,ey,l⟩ | ⟨kvs,k,b,e,ey,eb,l⟩
 ·subst ey
  obtain ⟨z,hd,vs,rel,dd⟩ := Jd I.aP e
  refine call_meetsIn PySem.F.slot_dict_get dd.typeIs PySem.F.entry_dict_get (PySem.F.args_dict_get_3 _ _ _) (meets_dict_get_default (Da X.prog X.w) a (N9 ry) hd r) ⟨_,dd.mapOf,h _ _ (I.tok _) ?_⟩
  rw [l]
  exact (rel.val k).getD rd
 ·subst ey
  cases (show u = Value.ref b from ry)
  obtain ⟨z,hd,xs,rel,dd⟩ := Kn I.aP e
  refine call_meetsIn PySem.F.slot_dict_get dd.typeIs PySem.F.entry_dict_get (PySem.F.args_dict_get_3 _ _ _) (meetsH_dict_get_default (C6 X.prog X.w) a b hd r) ⟨D5 hu,k,xs,Fx I.aP eb,dd,h _ _ (I.tok _) ?_⟩
  rw [l]
  exact (rel.val k).getD rd
end
def qa (td ty:TE):TE:=fun σ H Q=>td σ H fun x H1=>∃ a,x = .ref a /\ jd H1 a /\ ty σ H1 fun y H2=>∃ o,D2 H2 a y o /\ Q (o.getD .aW) H2
def iy (td ty tx:TE):TE:=fun σ H Q=>td σ H fun x H1=>∃ a,x = .ref a /\ jd H1 a /\ ty σ H1 fun y H2=>tx σ H2 fun z H3=>∃ o,D2 H3 a y o /\ Q (o.getD z) H3
def j5 (td ty:TE):TE:=fun σ H Q=>td σ H fun x H1=>∃ a,x = .ref a /\ jd H1 a /\ ty σ H1 fun y H2=>∃ kvs k v,H2 a = some (.dK kvs) /\ y = kV k /\ Ad kvs k = some v /\ Q v (upd H2 a (.dK (Bu kvs k)))
def qc (td ty tx:TE):TE:=fun σ H Q=>td σ H fun x H1=>∃ a,x = .ref a /\ jd H1 a /\ ty σ H1 fun y H2=>tx σ H2 fun z H3=>∃ kvs k,H3 a = some (.dK kvs) /\ y = kV k /\
 (∀ v,Ad kvs k = some v -> Q v (upd H3 a (.dK (Bu kvs k)))) /\ (Ad kvs k = none -> Q z H3)
section
variable {X:Cx} {o e f:Expr} {apos aY:Pos} {td ty tx:TE}
theorem Xz (hu:X.A.units + 20 < cLine) (ho:PE X o td) (he:PE X e ty) (hf:PE X f tx) (m:M2 X o "get" apos e f aY):PE X (.Call (.Attribute o "get" apos) [e,f] [] aY) (iy td ty tx):=by
 intro pins s σ H Q I h
 refine wpAny_Call_method m.base m.CF m.line PySem.F.plainAttrs_dict PySem.F.slot_dict_get PySem.F.type_dict_get (Ci (ho pins s σ H _ I h) fun u s1 bA=>?_)
 obtain ⟨x,H1,I1,rx,a,ex,d,q1⟩ := bA
 subst ex
 obtain rfl:u = Value.ref a:=rx
 obtain ⟨t1,t2,_⟩ := Sa I1 d
 refine ⟨t1,t2,?_⟩
 rw [m.trees]
 refine Calls.callWith_builtin rfl (Calls.evalArgs_plain (Calls.spliced_cons (Ci (he pins s1 σ H1 _ I1 q1) fun iv s2 ⟨y,H2,I2,ry,q2⟩ =>
  Calls.spliced_cons (Ci (hf pins s2 σ H2 _ I2 q2) fun fv s3 ⟨z,H3,I3,rz,ov,g,q3⟩=>Calls.spliced_nil ?_))))
 exact du hu I3 g ry rz fun w' s4 I4 fY=>⟨_,H3,I4,fY,q3⟩
theorem Y1 (ho:PE X o td) (he:PE X e ty) (m:M1 X o "pop" apos e aY):PE X (.Call (.Attribute o "pop" apos) [e] [] aY) (j5 td ty):=by
 intro pins s σ H Q I h
 refine wpAny_Call_method m.base m.CF m.line PySem.F.plainAttrs_dict PySem.F.slot_dict_pop PySem.F.type_dict_pop (Ci (ho pins s σ H _ I h) fun u s1 bA=>?_)
 obtain ⟨x,H1,I1,rx,a,ex,d,q1⟩ := bA
 subst ex
 obtain rfl:u = Value.ref a:=rx
 obtain ⟨t1,t2,_⟩ := Sa I1 d
 refine ⟨t1,t2,?_⟩
 rw [m.trees]
 refine Calls.callWith_builtin rfl (Calls.evalArgs_plain (Calls.spliced_cons (Ci (he pins s1 σ H1 _ I1 q1) fun iv s2 ⟨y,H2,I2,ry,kvs,k,v,ea,ey,l,q2⟩=>Calls.spliced_nil ?_)))
 subst ey
 exact jy I2 ea ry l (.inl rfl) fun w' s3 I3 fY=>⟨v,_,I3,fY,q2⟩
end
section
variable {X:Cx} {pins:List (Addr × Obj)} {σ:St} {H:Hp} {s:Shared} {a:Addr} {kvs:List (Dh × V)} {A:Around} {E:Value -> Shared -> Prop}
end
section
variable {X:Cx} {pins:List (Addr × Obj)} {σ:St} {H:Hp} {s:Shared} {a:Addr} {y:V} {u:Value} {A:Around} {E:Value -> Shared -> Prop}
end
section
variable {κ:Type} [DecidableEq κ]
theorem Ik {kvs:List (κ × V)} {k:κ} (h:Ad kvs k = none):¬ k ∈ kvs.map (·.1):=by
 intro m
 obtain ⟨p,hp,e⟩ := List.mem_map.mp m
 have q:(kvs.any fun kv=>decide (kv.1 = k)) = true:=List.any_eq_true.mpr ⟨p,hp,decide_eq_true e⟩
 rw [Dq,h] at q
 exact absurd q (by simp)
theorem Pt {kvs:List (κ × V)} {k:κ} {v:V} (h:Ad kvs k = some v):k ∈ kvs.map (·.1):=by
 have q:(kvs.any fun kv=>decide (kv.1 = k)) = true:=by
  rw [Dq,h]
  all_goals rfl
 obtain ⟨p,hp,e⟩ := List.any_eq_true.mp q
 exact List.mem_map.mpr ⟨p,hp,of_decide_eq_true e⟩
theorem Us:∀ {l:List κ} {k:κ},l.Nodup -> ¬ k ∈ l -> (l ++ [k]).Nodup
 | [],k,_,_=>by simp
 | a :: r,k,h,hk=>by
  obtain ⟨h1,h2⟩ := List.nodup_cons.mp h
  show (a :: (r ++ [k])).Nodup
  refine List.nodup_cons.mpr ⟨fun m=>?_,Us h2 fun m=>hk (List.mem_cons.mpr (Or.inr m))⟩
  rcases List.mem_append.mp m with q | q
  ·exact h1 q
  ·exact hk (List.mem_cons.mpr (Or.inl (List.mem_singleton.mp q).symm))
theorem ah {kvs:List (κ × V)} {k:κ} (v:V) (hn:(kvs.map (·.1)).Nodup) (h:Ad kvs k = none):((Bl kvs k v).map (·.1)).Nodup:=by
 rw [Dp v h,List.map_append]
 exact Us hn (Ik h)
theorem Vk {p:κ × V} {r:List (κ × V)} {k:κ} (e:p.1 = k):Bu (p :: r) k = Bu r k:=by
 unfold Bu
 rw [List.filter_cons,if_neg (by simp [e])]
end
section
variable {P:Program} {w:World} {A:Around} {E:Value -> Shared -> Prop} {s:Shared}
theorem Xy {it d : Addr} {i n ep : Nat} {ok ov key val : Value} {Q : Value -> Shared -> Prop} (hit : IsItemIter s.heap it d i n ep ok ov)
  (hQ:∀ h',IsItemIterOut h' it d i n ep key val s.heap.objs.size -> h'.get? s.heap.objs.size = some { cls := .type "tuple",data := .seq #[key,val] } -> (∀ b o,b ≠ it -> s.heap.get? b = some o -> h'.get? b = some o) -> Q (.ref s.heap.objs.size) { s with heap:=h' }) :
  wpAny (model P w) A (Builtin.Dict_items.pairFromOwner (.ref it) 6 key val) Q E s:=by
 unfold Builtin.Dict_items.pairFromOwner; refine wpAny_bind (wpAny_newTuple ?_)
 have aZ:it < s.heap.objs.size:=Heap.lt_size hit
 have a1:IsItemIter (s.heap.push { cls := .type "tuple",data := .seq #[key,val] }) it d i n ep ok ov:=Heap.get?_push_of_some _ hit
 have a2:(s.heap.push { cls := .type "tuple",data := .seq #[key,val] }).get? s.heap.objs.size = some { cls := .type "tuple",data := .seq #[key,val] }:=Heap.get?_push_size _ rfl
 have a3:∀ b o,s.heap.get? b = some o -> (s.heap.push { cls := .type "tuple",data := .seq #[key,val] }).get? b = some o:=fun b o z=>Heap.get?_push_of_some _ z
 show wpAny (model P w) A (Builtin.Dict_items.ownedTupleIsFree (.ref it) >>= _) Q E { s with heap:=s.heap.push { cls := .type "tuple",data := .seq #[key,val] } }
 generalize s.heap.push { cls := .type "tuple",data := .seq #[key,val] } = h1 at a1 a2 a3 ⊢
 unfold Builtin.Dict_items.ownedTupleIsFree; refine wpAny_bind (wpAny_bind (wpAny_field a1 rfl (x := .none) rfl (wpAny_pure ?_))); simp only [if_true]
 refine wpAny_bind (wpAny_field a1 rfl (x:=ok) rfl (wpAny_bind (wpAny_field a1 rfl (x:=ov) rfl ?_)))
 refine wpAny_bind (wpAny_setField_rec a1 (by simp) fun h2 b2 c2=>wpAny_bind ?_)
 have b2':IsItemIter h2 it d i n ep key ov:=b2
 refine wpAny_setField_rec b2' (by simp) fun h3 b3 c3=>wpAny_bind ?_
 have b3':IsItemIter h3 it d i n ep key val:=b3
 refine wpAny_setField_rec b3' (by simp) fun h4 b4 c4=>wpAny_bind ?_
 have b4':IsItemIterOut h4 it d i n ep key val s.heap.objs.size:=b4
 refine wpAny_setField_rec b4' (by simp) fun h5 b5 c5=>wpAny_bind (wpAny_letGo (wpAny_pure ?_))
 have up:∀ b o,b ≠ it -> h1.get? b = some o -> h5.get? b = some o:=fun b o hb z=>c5.extBut b o hb (c4.extBut b o hb (c3.extBut b o hb (c2.extBut b o hb z)))
 exact hQ h5 b5 (up _ _ (Nat.ne_of_gt aZ) a2) fun b o hb z=>up b o hb (a3 b o z)
theorem Qi {it d : Addr} {i ep : Nat} {es : Array DictEntry} {ok ov : Value} {o : Obj} {Q : Option Value -> Shared -> Prop} (hit : IsItemIter s.heap it d i es.size ep ok ov) (gA : s.heap.get? d = some o) (dY : o.data = .dict es ep)
  {en:DictEntry} (he:es[i]? = some en)
  (hQ:∀ h',IsItemIterOut h' it d (i + 1) es.size ep en.key en.val s.heap.objs.size -> h'.get? s.heap.objs.size = some { cls := .type "tuple",data := .seq #[en.key,en.val] } -> (∀ b o,b ≠ it -> s.heap.get? b = some o -> h'.get? b = some o) -> Q (some (.ref s.heap.objs.size)) { s with heap:=h' }) :
  wpAny (model P w) A (pyNext (.ref it)) Q E s:=by
 have hT:s.TypeIs (.ref it) "dict_itemiterator" := ⟨_,hit,rfl⟩
 have own:Builtin.Dict_items.ownsTuple "dict_itemiterator" = true:=by decide
 unfold pyNext; refine wpAny_bind (wpAny_attempt (wpAny_callSpecial?_slot (name:=Str.ofString "__next__") hT F.slot_dict_itemiterator_next (wpAny_call_entry F.slot_dict_itemiterator_next hT F.entry_dict_itemiterator_next ?_ (F.args_dict_itemiterator_next_1 _))))
 refine wpAny_bind (wpAny_pure (wpAny_bind (wpAny_bind (wpAny_bind (wpAny_typeNameOfWhole_itemiter hT (wpAny_pure (wpAny_bind (wpAny_fieldsOf hit rfl ?_))))))))
 simp only [own,if_true]; show wpAny _ _ (if (Value.ref d == Value.none) = true then _ else _) _ _ s
 rw [if_neg (show ¬ (Value.ref d == Value.none) = true from Bool.false_ne_true)]; refine wpAny_bind (wpAny_pure (wpAny_bind (wpAny_dictEntries gA dY ?_)))
 rw [if_neg (show ¬ ((es.size:Int) != (es.size:Int)) = true by simp)]; refine wpAny_bind (wpAny_pure (wpAny_bind (wpAny_dictEpoch gA dY ?_)))
 rw [if_neg (show ¬ ((ep:Int) != (ep:Int)) = true by simp)]; refine wpAny_pure ?_
 simp only [show ¬ ((i:Int) < 0) by omega,if_false,Int.toNat_natCast,he]
 refine wpAny_bind (wpAny_bind (wpAny_typeNameOfWhole_itemiter hT (wpAny_pure (wpAny_bind (wpAny_isOneOf_itemiter hT ?_)))))
 show wpAny _ _ (setField (.ref it) 3 (rawInt ((i:Int) + 1)) >>= _) _ _ s; refine wpAny_bind (wpAny_setField_rec hit (by simp) fun h1 b1 c1=>?_)
 have DV:IsItemIter h1 it d (i + 1) es.size ep ok ov:=by
  have e:((i + 1:Nat):Int) = (i:Int) + 1:=by omega
  unfold IsItemIter; rw [e]; simpa [rawInt] using b1
 have vT:Shared.TypeIs { s with heap:=h1 } (.ref it) "dict_itemiterator" := ⟨_,DV,rfl⟩
 refine wpAny_bind (wpAny_holding (wpAny_bind (wpAny_isOneOf_itemiter vT (wpAny_bind (wpAny_isOneOf_itemiter vT ?_)))))
 have z1:h1.objs.size = s.heap.objs.size:=c1.1
 refine Xy (s:={ s with heap:=h1 }) DV fun h2 e1 e2 e3=>?_
 rw [show (Shared.heap { s with heap:=h1 }).objs.size = s.heap.objs.size from z1] at e1 e2 ⊢
 exact wpAny_pure ⟨_,rfl,wpAny_pure (hQ h2 e1 e2 fun b o hb z=>e3 b o hb (c1.extBut b o hb z))⟩
end
section
variable {X:Cx}
def rl (K:PySem.W.Frag):V -> List V -> Hp -> VK -> Prop:=fun x xs H Q=>∃ (sep:Str) (a:Addr) (zs:List Str),x = .str sep /\ xs = [.ref a] /\ B9 K H a (zs.map V.str) /\ zs.length <= 500 /\ (∀ z ∈ zs,z.length <= 30000) /\ sep.length <= 500 /\ Q (.str (Txt.join sep zs)) H
def rj (K:PySem.W.Frag):List V -> Hp -> VK -> Prop:=fun xs H Q=>∃ (a C dx:Addr) (fs:List (Str × V)) (c:Value) (v:V),xs = [.ref a,v] /\ H a = some (.ins C dx fs) /\ (∀ u,Aw v u -> u = c) /\ PySem.W.kitOne K (.ref C) c = some true /\ Q (.bl true) H
def rg (K:PySem.W.Frag):R2:=fun x y H Q=>∃ a b xs ys,x = .ref a /\ y = .ref b /\ B9 K H a xs /\ B9 K H b ys /\ xs.length + ys.length <= sizeLine /\ ∀ p,H p = none -> Q (.ref p) (upd H p (.lst (xs ++ ys)))
end
theorem Ug:entryFor table "dict.update.loop" = some Builtin.«dict.update.loop» := entryFor_of_tree (by kernel_rfl)
theorem P7:plainId "dict.update.loop" = true:=by decide +kernel
section
variable {P:Program} {w:World} {A:Around} {R:Result -> Shared -> Prop} {K:Type} [DecidableEq K] {knd:HeapKind P w K}
def Ga (ps:Nat -> K × Addr × Value) (xs:List (K × Addr × Value)) (i k:Nat):List (K × Addr × Value):=(List.range' i k).foldl (fun xs j=>storedH xs (ps j).1 (ps j).2.1 (ps j).2.2) xs
theorem Rj {xs:List (K × Addr × Value)} {k:K} {a:Addr} {v:Value}:(storedH xs k a v).length <= xs.length + 1:=by
 cases h:atKey xs k with
 | none =>
  rw [storedH_new h,List.length_append]
  exact Nat.le_refl _
 | some p =>
  unfold storedH
  simp [h]
theorem jb {l I d : Addr} {items : Array Value} {ps : Nat -> K × Addr × Value} {h0 : Heap} (no : A.in1.handled = none) (hu : knd.room A.in1) (hlI : l ≠ I) (hdI : d ≠ I) (DW : d ≠ l)
  (hit:∀ j v,items[j]? = some v -> ∃ t o n,v = .ref t /\ t ≠ I /\ t ≠ d /\ h0.get? t = some o /\ o.cls = .type "tuple" /\ o.data = .seq #[.ref (ps j).2.1,(ps j).2.2] n)
  (gB:∀ j,j < items.size -> ∀ h:Heap,(∀ b o,b ≠ I -> b ≠ d -> h0.get? b = some o -> h.get? b = some o) -> knd.is h (ps j).1 (ps j).2.1) (LX:∀ (h h':Heap) (j:Nat) xs,h.IsListIter I l j -> h.DictOfH knd d xs -> (∀ b o,b ≠ I -> h.get? b = some o -> h'.get? b = some o) -> h'.DictOfH knd d xs) :
  ∀ (k i:Nat) (s:Shared) (xs:List (K × Addr × Value)) (tk:Tok),items.size = i + k -> (s.heap.IsListIter I l i /\ s.heap.IsList l items) -> s.heap.DictOfH knd d xs -> (∀ b o,b ≠ I -> b ≠ d -> h0.get? b = some o -> s.heap.get? b = some o) -> xs.length + k <= sizeLine ->
   (∀ h' mR,h'.DictOfH knd d (Ga ps xs i k) -> (∀ b o,b ≠ I -> b ≠ d -> s.heap.get? b = some o -> h'.get? b = some o) -> R (.ok (.ret .none)) { s with heap:=h',toks:=mR }) ->
   codeAny (model P w) A (.builtin "dict.update.loop" ⟨[.ref d,.ref I,.int i tk,.none],[]⟩) R s:=by
 have W:=Walks.list (prog:=P) (w:=w) (A:=A.in1) no I l hlI items
 intro k
 induction k with
 | zero =>
  intro i s xs tk hk dQ hm hf hz hR
  refine codeAny_builtin Ug ?_
  rw [Around.under_plainId P7 _]
  show wpAny (model P w) A.in1 (pyNext (.ref I) >>= _) _ _ s
  have ei:i = items.size:=by omega
  refine wpAny_bind (W.done s _ _ (ei ▸ dQ) fun h1 iC k1=>?_)
  show wpAny (model P w) A.in1 (Builtin.Dict.addKeywords d [] >>= _) _ _ _
  refine wpAny_bind ?_
  unfold Builtin.Dict.addKeywords
  refine wpAny_pure (wpAny_pure ?_)
  have jO:∀ b o,b ≠ I -> s.heap.get? b = some o -> h1.get? b = some o:=fun b o hb e=>k1 b o (by simpa using hb) e
  exact hR h1 iC (LX _ _ _ _ dQ.1 hm jO) fun b o hb _ e=>jO b o hb e
 | succ k ih =>
  intro i s xs tk hk dQ hm hf hz hR
  refine codeAny_builtin Ug ?_
  rw [Around.under_plainId P7 _]
  show wpAny (model P w) A.in1 (pyNext (.ref I) >>= _) _ _ s
  refine wpAny_bind (W.item i s _ _ (by omega) dQ fun v h1 iC hP bN k1=>?_)
  have jO:∀ b o,b ≠ I -> s.heap.get? b = some o -> h1.get? b = some o:=fun b o hb e=>k1 b o (by simpa using hb) e
  obtain ⟨t,o,n,rfl,htI,OJ,ht,hc,hd⟩ := hit i _ hP
  have ht1:=jO _ _ htI (hf _ _ htI OJ ht)
  have mB:=LX _ _ _ _ dQ.1 hm jO
  have hf1:∀ b o,b ≠ I -> b ≠ d -> h0.get? b = some o -> h1.get? b = some o:=fun b o hb gP e=>jO b o hb (hf b o hb gP e)
  refine wpAny_bind ?_
  refine wpAny_holding ?_
  refine wpAny_bind (wpAny_tryCatch ?_)
  unfold Builtin.Dict.pairItems
  refine wpAny_bind (wpAny_typeOf (T := "tuple") (s:={ s with heap:=h1,toks:=iC }) ⟨o,ht1,hc⟩ ?_)
  rw [if_pos (by decide)]
  refine wpAny_bind (wpAny_seqItems (s:={ s with heap:=h1,toks:=iC }) ht1 hd ?_)
  refine wpAny_pure ?_
  show wpAny (model P w) A.in1 (holding [.ref (ps i).2.1,(ps i).2.2] (dictSet d (.ref (ps i).2.1) (ps i).2.2)) _ _ _
  refine wpAny_holding ?_
  refine wpAny_dictSet_heap (s:={ s with heap:=h1,toks:=iC }) hu (gB i (by omega) h1 hf1) mB (fun h2 CG rG=>?_) (by omega)
  have k2:∀ b o,b ≠ d -> h1.get? b = some o -> h2.get? b = some o:=fun b o hb e=>(rG.2 b hb).trans e
  refine wpAny_pure ⟨plainId_quiet P7 _,?_⟩
  have lY:(storedH xs (ps i).1 (ps i).2.1 (ps i).2.2).length <= xs.length + 1:=Rj
  refine ih (i + 1) _ (storedH xs (ps i).1 (ps i).2.1 (ps i).2.2) _ (by omega) ⟨?_,?_⟩ CG (fun b o hb gP e=>k2 b o gP (hf1 b o hb gP e)) (by omega) fun h' mR kT cR=>?_
  ·exact bN.1.at fun o e=>k2 _ _ hdI.symm e
  ·exact bN.2.at fun o e=>k2 _ _ DW.symm e
  ·exact hR h' mR kT fun b o hb gP e=>cR b o hb gP (k2 b o gP (jO b o hb e))
end
theorem dw:mroOf (.type "dict") = pure [.type "dict",.type "object"]:=by rw [mroOf_type]; kernel_rfl
theorem Vj:typeLookup (.type "dict") "__new__" = pure (some (.builtin "dict.__new__")):=by rw [typeLookup_type,builtinLookup_eq_fast]; kernel_rfl
theorem On:TypeCalled "dict" "dict.__new__" "dict.__init__" :=
 ⟨by decide +kernel,by decide +kernel,⟨_,_,dw⟩,madeBy_type dw Vj (by decide +kernel),by decide +kernel,by rw [isSubtype_type]; kernel_rfl,PySem.F.slot_dict_init⟩
theorem M6 (a:Value):checkTypeCall "dict" ⟨[a],[]⟩ = pure ():=by kernel_rfl
theorem Mq (a:Value):checkBuiltinCall "dict.__new__" ⟨[.type "dict",a],[]⟩ = pure ():=by kernel_rfl
theorem Jr:entryFor table "dict.__new__" = some Builtin.«dict.__new__» := entryFor_of_tree (by kernel_rfl)
theorem Fp:plainId "dict.__new__" = true:=by decide +kernel
theorem Ly:isSubtype (.type "dict") (.type "dict") = pure true:=by rw [isSubtype_type]; kernel_rfl
theorem Jo (a b:Value):argsOk "dict.__init__" ⟨[a,b],[]⟩ := by
 unfold argsOk
 kernel_rfl
theorem Ow:typeLookup (.type "list") (Str.ofString "keys") = pure none:=by rw [typeLookup_type,builtinLookup_eq_fast]; kernel_rfl
section
variable {prog:Program} {w:World} {A:Around} {E:Value -> Shared -> Prop} {s:Shared}
theorem Kg (a : Value) {Q₁ : Value -> Shared -> Prop}
  (h:Q₁ (.ref s.heap.objs.size) { s with heap:=s.heap.push { cls := .type "dict",data := .dict #[] } }) :
  codeAny (model prog w) A (.call (.builtin "dict.__new__") ⟨[.type "dict",a],[]⟩) (wants Q₁ E) s:=by
 refine codeAny_of_tree ?_
 show wpAny _ A.in1 (do checkBuiltinCall "dict.__new__" ⟨[.type "dict",a],[]⟩; again (.builtin "dict.__new__" ⟨[.type "dict",a],[]⟩)) _ _ s
 refine wpAny_bind (wpAny_of_eq (Mq a) (wpAny_pure ⟨plainId_quiet Fp _,codeAny_builtin Jr ?_⟩))
 rw [Around.under_plainId Fp _]
 have vU:=Ly
 have hm:=dw
 obtain ⟨hp,g,d,tk,os⟩ := s
 unfold Builtin.«dict.__new__»
 dsimp only
 wp_walk
 exact h
theorem ai {l : Addr} {xs : Array Value} {k : Nat} {sl : Array (Option Value)} {Q : Option Value -> Shared -> Prop} (hx : s.heap.get? l = some { cls := .type "list", dict := none, data := .seq xs k, slots := sl })
  (hA:A.handled = none) (h:∀ h' tk,(∀ b o,s.heap.get? b = some o -> h'.get? b = some o) -> Q none { s with heap:=h',toks:=tk }):wpAny (model prog w) A (getAttr? (.ref l) (Str.ofString "keys")) Q E s:=by
 obtain ⟨hp,g,d,tk,os⟩ := s
 have hT:∀ mR,(⟨hp,g,d,mR,os⟩ : Shared).TypeIs (.ref l) "list" := fun _=>⟨_,hx,rfl⟩
 have f3:=PySem.F.slot_list_getattribute.lookup
 have f4:=PySem.F.slot_list_getattribute.bind (.ref l)
 have f5:=am_list_getattr_none
 have f6:=Ow
 have f1:=sub_AttributeError
 unfold getAttr? getAttrBy?
 repeat (any_goals (first | assumption | exact hT _ | ((with_reducible show wpAny _ _ (call (Value.builtin "list.__getattribute__") _ _) _ _ _); refine call_meets PySem.F.slot_list_getattribute (hT _) am_entry_list_getattribute (PySem.F.args_list_getattribute_2 _ _) (meets_getattribute_miss_list _ _ _ _ _ _ f6 (by decide)) ⟨hx,hA,fun h' mR e lZ=>?_⟩) | wp_step))
 obtain ⟨t',u',he⟩ := lZ.there
 show wpAny _ _ (getattributeRaised _ _ _ _ _ _ _) _ _ _
 unfold getattributeRaised
 repeat (any_goals (first | assumption | wp_step))
 exact h h' mR lZ.keeps
end
section
variable {P:Program} {w:World} {A:Around} {E:Value -> Shared -> Prop} {s:Shared} {R:Result -> Shared -> Prop}
theorem Qk {d l : Addr} {xs : Array Value} {k : Nat} {sl : Array (Option Value)} {Q : PySem.Fin -> Shared -> Prop} (hA : A.handled = none) (hd : s.TypeIs (.ref d) "dict") (hl : s.heap.get? l = some { cls := .type "list", dict := none, data := .seq xs k, slots := sl })
  (h:∀ (h':Heap) (tk:Nat),(∀ b o,s.heap.get? b = some o -> h'.get? b = some o) -> Q (.again (.builtin "dict.update.loop" ⟨[.ref d,.ref h'.objs.size,.int 0 0,.none],[]⟩)) { s with heap:=h'.push { cls := .type "list_iterator",data := .fields #[.ref l,.int 0 0] },toks:=tk }) :
  wpAny (model P w) A (Builtin.«dict.__init__» ⟨[.ref d,.ref l],[]⟩) Q E s:=by
 unfold Builtin.«dict.__init__» Builtin.Dict.selfAndRest
 refine wpAny_bind (wpAny_bind (wpAny_notOrdered_dict hd ?_))
 refine wpAny_bind ?_
 show wpAny _ _ (pure d) _ _ _
 refine wpAny_pure (wpAny_pure ?_)
 show wpAny _ _ (Builtin.Dict.updateFrom "dict.__init__" d (.ref l) [] .none) _ _ _
 unfold Builtin.Dict.updateFrom
 refine wpAny_bind (wpAny_typeOf (T := "list") ⟨_,hl,rfl⟩ ?_)
 rw [if_pos (by decide)]
 refine wpAny_bind (ai hl hA fun h1 iC k1=>?_)
 rw [if_pos (show (none:Option Value).isNone = true from rfl)]
 refine wpAny_bind (wpAny_rule ?_)
 refine wpAny_bind (wpAny_pyIter_list (s:={ s with heap:=h1,toks:=iC }) (items:=xs) ⟨_,k1 _ _ hl,rfl,k,rfl⟩ ?_)
 exact wpAny_pure (h h1 iC k1)
theorem Rz {K : Type} [DecidableEq K] {knd : HeapKind P w K} {l : Addr} {xs : Array Value} {k : Nat} {sl : Array (Option Value)} {ps : Nat -> K × Addr × Value} {Q : Value -> Shared -> Prop} (hA : A.handled = none) (hu : knd.room A.in1.in1) (hz : xs.size <= sizeLine)
  (hl:s.heap.get? l = some { cls := .type "list",dict:=none,data := .seq xs k,slots:=sl })
  (hit:∀ j v,xs[j]? = some v -> ∃ t o n,v = .ref t /\ s.heap.get? t = some o /\ o.cls = .type "tuple" /\ o.data = .seq #[.ref (ps j).2.1,(ps j).2.2] n)
  (gB:∀ j,j < xs.size -> ∀ h:Heap,(∀ b o,s.heap.get? b = some o -> h.get? b = some o) -> knd.is h (ps j).1 (ps j).2.1)
  (LX:∀ d I (h h':Heap) (j:Nat) xs,h.IsListIter I l j -> h.DictOfH knd d xs -> (∀ b o,b ≠ I -> h.get? b = some o -> h'.get? b = some o) -> h'.DictOfH knd d xs)
  (hem:∀ (h:Heap) d,h.get? d = some { cls := .type "dict",data := .dict #[] } -> h.DictOfH knd d [])
  (q:∀ h' tk,h'.DictOfH knd s.heap.objs.size (Ga ps [] 0 xs.size) -> (∀ b o,s.heap.get? b = some o -> h'.get? b = some o) -> Q (.ref s.heap.objs.size) { s with heap:=h',toks:=tk }) :
  wpAny (model P w) A (call (.type "dict") [.ref l]) Q E s:=by
 refine callType_codes (Q₁:=fun obj s₁=>obj = .ref s.heap.objs.size /\ s₁ = { s with heap:=s.heap.push { cls := .type "dict",data := .dict #[] } }) On (M6 _) PySem.F.entry_dict_init (Kg _ ⟨rfl,rfl⟩) fun obj s1 k1=>?_
 obtain ⟨rfl,rfl⟩ := k1
 have hD:(s.heap.push { cls := .type "dict",data := .dict #[] }).get? s.heap.objs.size = some { cls := .type "dict",data := .dict #[] }:=Heap.get?_push_size _ rfl
 refine ⟨⟨_,hD,rfl⟩,Jo _ _,?_⟩
 refine Qk (s:={ s with heap:=s.heap.push { cls := .type "dict",data := .dict #[] } }) hA ⟨_,hD,rfl⟩ (Heap.get?_push_of_some _ hl) fun h1 iC k1=>?_
 refine ⟨plainId_quiet P7 _,?_⟩
 have ks:∀ b o,s.heap.get? b = some o -> h1.get? b = some o:=fun b o e=>k1 b o (Heap.get?_push_of_some _ e)
 have hDl:s.heap.objs.size < h1.objs.size:=Heap.lt_size (k1 _ _ hD)
 have fJ:∀ b o,s.heap.get? b = some o -> b ≠ s.heap.objs.size /\ b ≠ h1.objs.size:=fun b o e=>⟨Nat.ne_of_lt (Heap.lt_size e),Nat.ne_of_lt (Heap.lt_size (ks b o e))⟩
 have kp:∀ b o,h1.get? b = some o -> (h1.push { cls := .type "list_iterator",data := .fields #[.ref l,.int 0 0] }).get? b = some o:=fun b o e=>Heap.get?_push_of_some _ e
 have hI:(h1.push { cls := .type "list_iterator",data := .fields #[.ref l,.int 0 0] }).get? h1.objs.size = some { cls := .type "list_iterator",data := .fields #[.ref l,.int 0 0] }:=Heap.get?_push_size _ rfl
 obtain ⟨nl1,nl2⟩ := fJ _ _ hl
 refine jb (knd:=knd) (A:=A.in1) (l:=l) (I:=h1.objs.size) (d:=s.heap.objs.size) (items:=xs) (ps:=ps) (h0:=s.heap) hA hu nl2 (Nat.ne_of_lt hDl) nl1.symm ?_ ?_ (LX _ _) xs.size 0 _ [] 0 (by omega) ⟨⟨_,hI,rfl,rfl⟩,⟨_,kp _ _ (ks _ _ hl),rfl,k,rfl⟩⟩ (hem _ _ (kp _ _ (k1 _ _ hD))) (fun b o _ _ e=>kp _ _ (ks b o e)) (by simpa using hz) fun h' mR kT cR=>?_
 ·intro j v hv
  obtain ⟨t,o,n,rfl,ht,hc,hd⟩ := hit j v hv
  exact ⟨t,o,n,rfl,(fJ _ _ ht).2,(fJ _ _ ht).1,ht,hc,hd⟩
 ·intro j hj h2 hf
  exact gB j hj h2 fun b o e=>hf b o (fJ _ _ e).2 (fJ _ _ e).1 e
 ·exact ⟨rfl,q h' mR kT fun b o e=>cR b o (fJ _ _ e).2 (fJ _ _ e).1 (kp _ _ (ks b o e))⟩
end
theorem Bq.frame {prog:Program} {w:World} {h h':Heap} {k:List Int × Int} {a I l:Addr} {j:Nat} (x:Bq prog w h k a) (hI:h.IsListIter I l j) (hk:∀ b o,b ≠ I -> h.get? b = some o -> h'.get? b = some o):Bq prog w h' k a:=by
 obtain ⟨o,n,u,t,ho,hc,hd,o2,aL,n2,iX,jS,hd2,hi⟩ := x
 obtain ⟨oi,LY,OP,_⟩ := hI
 have n1:a ≠ I:=by
  rintro rfl
  rw [LY] at ho
  cases ho
  rw [OP] at hc
  exact absurd hc (by decide)
 have OQ:u ≠ I:=by
  rintro rfl
  rw [LY] at iX
  cases iX
  rw [OP] at jS
  exact absurd jS (by decide)
 exact ⟨o,n,u,t,hk _ _ n1 ho,hc,hd,o2,aL,n2,hk _ _ OQ iX,jS,hd2,hi⟩
theorem Bq.ext {prog:Program} {w:World} {h h':Heap} {k:List Int × Int} {a:Addr} (x:Bq prog w h k a) (hk:∀ b o,h.get? b = some o -> h'.get? b = some o):Bq prog w h' k a:=by
 obtain ⟨o,n,u,t,ho,hc,hd,o2,aL,n2,iX,jS,hd2,hi⟩ := x
 exact ⟨o,n,u,t,hk _ _ ho,hc,hd,o2,aL,n2,hk _ _ iX,jS,hd2,hi⟩
theorem S4 {prog:Program} {w:World} {d I l:Addr} {h h':Heap} {j:Nat} {xs:List ((List Int × Int) × Addr × Value)} (hI:h.IsListIter I l j) (hm:h.DictOfH (C6 prog w) d xs) (hk:∀ b o,b ≠ I -> h.get? b = some o -> h'.get? b = some o):h'.DictOfH (C6 prog w) d xs:=by
 obtain ⟨o,es,ep,ho,hc,hd,he,LZ,hn⟩ := hm
 have n1:d ≠ I:=by
  rintro rfl
  obtain ⟨oi,LY,OP,hdi⟩ := hI
  rw [LY] at ho
  cases ho
  rw [hdi] at hd
  exact nomatch hd
 exact ⟨o,es,ep,hk _ _ n1 ho,hc,hd,he,fun x hx=>Bq.frame (LZ x hx) hI hk,hn⟩
def Df (kvs:List ((List Int × Int) × V)) (ps:List ((List Int × Int) × V)):List ((List Int × Int) × V):=ps.foldl (fun acc p=>Bl acc p.1 p.2) kvs
theorem Lh:∀ (ps kvs:List ((List Int × Int) × V)),(Df kvs ps).length <= kvs.length + ps.length
 | [],kvs=>Nat.le_refl _
 | p :: ps,kvs=>by
  have h1:=Lh ps (Bl kvs p.1 p.2)
  have h2:=Cv kvs p.1 p.2
  show (Df (Bl kvs p.1 p.2) ps).length <= _
  rw [List.length_cons]
  omega
theorem Xm {H : Hp} {ps : List ((List Int × Int) × V)} {f : Nat -> (List Int × Int) × Addr × Value} (hf : ∀ (j : Nat) q, ps[j]? = some q -> (f j).1 = q.1 /\ E9 H (f j).2.1 q.1 /\ Aw q.2 (f j).2.2) :
  ∀ (k i:Nat) (kvs:List ((List Int × Int) × V)) (xs:List ((List Int × Int) × Addr × Value)),i + k = ps.length -> KT H kvs xs -> KT H (Df kvs (ps.drop i)) (Ga f xs i k)
 | 0,i,kvs,xs,e,r=>by
  rw [List.drop_of_length_le (by omega)]
  exact r
 | k + 1,i,kvs,xs,e,r=>by
  have hi:i < ps.length:=by omega
  obtain ⟨e1,e2,e3⟩ := hf i ps[i] (List.getElem?_eq_getElem hi)
  rw [List.drop_eq_getElem_cons hi]
  show KT H (Df (Bl kvs ps[i].1 ps[i].2) (ps.drop (i + 1))) (Ga f (storedH xs (f i).1 (f i).2.1 (f i).2.2) (i + 1) k)
  rw [e1]
  exact Xm hf k (i + 1) _ _ (by omega) (r.put _ e2 e3)
section
variable {X:Cx}
def i8 (K:PySem.W.Frag):List V -> Hp -> VK -> Prop:=fun xs H Q=>∃ (p:Addr) (us:List V) (ps:List ((List Int × Int) × V)),xs = [.ref p] /\ B9 K H p us /\ us.length = ps.length /\
 (∀ (j:Nat) u q,us[j]? = some u -> ps[j]? = some q -> ∃ t b,u = .ref t /\ H t = some (.tup [.ref b,q.2]) /\ E9 H b q.1) /\ ∀ d,H d = none -> Q (.ref d) (upd H d (.dT (Df [] ps)))
theorem Kf (K:PySem.W.Frag) (hu:X.A.units + 24 < cLine) (hc:X.calm = true) (hK:X.K = K:=by rfl):Dt X (.type "dict") (i8 K):=by
 subst hK
 intro pins s σ H xs OS Q I r h
 obtain ⟨p,us,ps,rfl,hq,hlen,iD,q⟩ := h
 obtain ⟨u0,rfl,ru⟩ := Az.one r
 cases ru
 obtain ⟨aL,rv,pl,hz⟩ := I.list hq
 obtain ⟨⟨ocls,od,odata,iA⟩,n,e,iE,tK,tL⟩ := pl
 simp only at iE tK tL
 subst iE tK tL
 have lY:=Az.length rv
 have ex:∀ j:Nat,∃ x:(List Int × Int) × Addr × Value,∀ q,ps[j]? = some q -> (x.1 = q.1 /\ E9 H x.2.1 q.1 /\ Aw q.2 x.2.2) /\ ∀ v,aL[j]? = some v -> ∃ t o n,v = .ref t /\ s.heap.get? t = some o /\ o.cls = .type "tuple" /\ o.data = .seq #[.ref x.2.1,x.2.2] n:=by
  intro j
  cases hj:ps[j]? with
  | none=>exact ⟨(([],0),0,.none),fun q z=>nomatch z⟩
  | some q =>
   have qU:=(List.getElem?_eq_some_iff.mp hj).1
   have hju:us[j]? = some us[j]:=List.getElem?_eq_getElem (by omega)
   obtain ⟨t,b,eu,ht,hb⟩ := iD j _ q hju hj
   obtain ⟨_,fE,r2,o,h1,h2,m,h3⟩ := I.aP t _ ht
   obtain ⟨v1,v2,rfl,rv1,rv2⟩ := Az.two r2
   cases rv1
   refine ⟨(q.1,b,v2),fun q' z=>?_⟩
   cases z
   refine ⟨⟨rfl,hb,rv2⟩,fun v hv=>?_⟩
   obtain ⟨w',ew,fY⟩ := rv.get hju
   rw [ew] at hv
   cases hv
   rw [eu] at fY
   cases fY
   exact ⟨t,o,m,rfl,h1,h2,h3⟩
 obtain ⟨f,hf⟩ := Classical.axiomOfChoice ex
 have hA:=I.ok.hd hc
 refine Rz (knd:=C6 X.prog X.w) (ps:=f) hA (D5 (A:=X.A.in1) (by show X.A.units + 1 + 20 < cLine; omega)) (by rw [List.size_toArray]; omega) e ?_ ?_ (fun d I' h h' j xs hI hm hk=>S4 hI hm hk) ?_ fun h' tk hm hk=>?_
 ·intro j v hv
  rw [List.getElem?_toArray] at hv
  have qU:=(List.getElem?_eq_some_iff.mp hv).1
  exact (hf j _ (List.getElem?_eq_getElem (show j < ps.length by omega))).2 v hv
 ·intro j hj h2 mQ
  rw [List.size_toArray] at hj
  obtain ⟨⟨e1,e2,_⟩,_⟩ := hf j _ (List.getElem?_eq_getElem (show j < ps.length by omega))
  rw [e1]
  exact Bq.ext (Fx I.aP e2) mQ
 ·intro h2 d hd
  exact ⟨_,#[],0,hd,⟨rfl,rfl,rfl⟩,rfl,rfl,(fun x hx=>nomatch hx),List.nodup_nil⟩
 ·have eI:H s.heap.objs.size = none:=I.aP.fresh (Nat.le_refl _)
  rw [List.size_toArray] at hm
  have kt:KT H (Df [] (ps.drop 0)) (Ga f [] 0 aL.length):=Xm (fun j q z=>(hf j q z).1) aL.length 0 [] [] (by omega) .nil
  rw [List.drop_zero] at kt
  obtain ⟨o,es,ep,ho,hex,hd,he,_,hn⟩ := hm
  have hlp:(Df [] ps).length <= sizeLine:=by
   have z1:=Lh ps []
   rw [List.length_nil] at z1
   omega
  have DX:Bn X.prog X.w (upd H s.heap.objs.size (.dT (Df [] ps))) h' s.heap.objs.size (.dT (Df [] ps)) :=
   ⟨hlp,beq_eq_false_iff_ne.mpr (Ne.symm (Nat.ne_of_lt I.big)),_,kt.keeps (fun b ys eb=>by rw [Ac (Ae eb eI)]; exact eb),o,es,ep,ho,hex,hd,he,hn⟩
  exact ⟨.ref s.heap.objs.size,_,I.laid (t':=tk) hk (Nat.le_refl _) DX,rfl,q _ eI⟩
end
section
variable {X:Cx} {pins:List (Addr × Obj)} {σ:St} {H:Hp} {s:Shared} {k:Nat}
theorem Gn (I:Ag X pins σ H s) {d:PyData} {v:V} {u:Value} (h:Rp H d v) (r:Aw v u):∃ as,Reads s.heap u d as:=Cz I d v u h r
noncomputable def Fn (h:Heap) (d:PyData) (w:Value):Bool:=open Classical in if z:∃ e as,Reads h w e as /\ e.canLay0 = true then PyData.eqv z.choose d else false
theorem Kw {h:Heap} {d e:PyData} {w:Value} {as:List Addr} (r:Reads h w e as) (hc:e.canLay0 = true):Fn h d w = PyData.eqv e d:=by
 have z:∃ e as,Reads h w e as /\ e.canLay0 = true:=⟨e,as,r,hc⟩
 unfold Fn
 rw [dif_pos z]
 obtain ⟨bs,r',iQ⟩ := z.choose_spec
 rw [(PySem.SeqAt.Reads.unique e _ w as bs hc r r')]
theorem Kd (I:Ag X pins σ H s) {d:PyData}:∀ {ds:List PyData} {vs:List V} {us:List Value},aN H ds vs -> Az vs us -> us.any (Fn s.heap d) = ds.any fun e=>PyData.eqv e d
 | [],vs,us,h,r=>by
  unfold aN at h
  subst h
  cases r
  rfl
 | e :: ds,vs,us,h,r=>by
  unfold aN at h
  obtain ⟨x,xs,rfl,h1,h2⟩ := h
  cases r with
  | cons r1 r2 =>
   obtain ⟨as,q⟩ := Gn I h1 r1
   rw [List.any_cons,List.any_cons,Kw q (D1 e x h1),Kd I h2 r2]
theorem Ib (I:Ag X pins σ H s) {A:Around} {d:PyData} {x:V} {v:Value} (hx:Rp H d x) (rx:Aw x v) (hu:A.units + d.depth < cLine):∀ {ds:List PyData} {vs:List V} {us:List Value},aN H ds vs -> Az vs us -> ∀ w ∈ us,SeqAt.EqAt A s w v (Fn s.heap d w)
 | [],vs,us,h,r,w,hw=>by
  unfold aN at h
  subst h
  cases r
  cases hw
 | e :: ds,vs,us,h,r,w,hw=>by
  unfold aN at h
  obtain ⟨y,ys,rfl,h1,h2⟩ := h
  cases r with
  | cons r1 r2 =>
   rcases List.mem_cons.mp hw with z | z
   ·subst z
    obtain ⟨as,q⟩ := Gn I h1 r1
    obtain ⟨bs,q2⟩ := Gn I hx rx
    rw [Kw q (D1 e y h1)]
    exact PySem.SeqAt.eqAt_reads e d A s _ _ _ _ q q2 (D1 e y h1) (D1 d x hx) (by omega)
   ·exact Ib I hx rx hu h2 r2 w z
end
section
variable {X:Cx} {k:Nat}
def lh (K:PySem.W.Frag) (neg:Bool):R2:=fun x y H Q=>∃ (p:Addr) (us:List V) (d:PyData) (ds:List PyData),y = .ref p /\ B9 K H p us /\ Rp H d x /\ aN H ds us /\ d.depth <= 50 /\ Q (.bl (if neg then !(ds.any fun e=>PyData.eqv e d) else ds.any fun e=>PyData.eqv e d)) H
theorem gu (K:PySem.W.Frag) (hr:Ct k X.A) (hK:X.K = K:=by rfl):Hk X (compareOp .In) (lh K false):=by
 subst hK
 intro pins s σ H x y v u Q I rx ry h
 obtain ⟨p,us,d,ds,rfl,hq,hx,hall,hd,q⟩ := h
 cases ry
 obtain ⟨aL,r,pl,hz⟩ := I.list hq
 have hu:=hr.units
 refine SeqAt.in_listAt (Fn s.heap d) pl.isList (fun w hw=>Ib I hx rx (by show X.A.units + 1 + d.depth < cLine; omega) hall r w (by simpa using hw)) ⟨.bl _,H,I,rfl,?_⟩
 rw [show aL.toArray.any (Fn s.heap d) = aL.any (Fn s.heap d) by simp,Kd I hall r]
 exact q
theorem W8 (K:PySem.W.Frag) (hr:Ct k X.A) (hK:X.K = K:=by rfl):Hk X (compareOp .NotIn) (lh K true):=by
 subst hK
 intro pins s σ H x y v u Q I rx ry h
 obtain ⟨p,us,d,ds,rfl,hq,hx,hall,hd,q⟩ := h
 cases ry
 obtain ⟨aL,r,pl,hz⟩ := I.list hq
 have hu:=hr.units
 refine SeqAt.notIn_listAt (Fn s.heap d) pl.isList (fun w hw=>Ib I hx rx (by show X.A.units + 1 + d.depth < cLine; omega) hall r w (by simpa using hw)) ⟨.bl _,H,I,rfl,?_⟩
 rw [show aL.toArray.any (Fn s.heap d) = aL.any (Fn s.heap d) by simp,Kd I hall r]
 exact q
end
abbrev ox (K:PySem.W.Frag):TG:=Zw K 3 (N5 (Fw 0) (N5 (Fw 1) (N5 (Fw 2) ef)))
theorem Ep {k:Nat} {A:Around} (hr:Ct k A):A.units + 20 < cLine:=by have:=hr.units; omega
theorem kc {k:Nat} {A:Around} (hr:Ct k A):A.units + 24 < cLine:=by have:=hr.units; omega
section
variable {X:Cx}
theorem ap {e:Expr} {t:TE} (h:PE X e t):PE X e (fun σ H Q=>∃ N:VK,t σ H N /\ ∀ v H',N v H' -> Q v H'):=by
 intro pins s σ H Q I z
 obtain ⟨N,z,m⟩ := z
 refine Ci (h pins s σ H N I z) fun v s1 z1=>?_
 obtain ⟨x,H1,I1,r1,q1⟩ := z1
 exact ⟨x,H1,I1,r1,m _ _ q1⟩
end
def Kr:HO -> Prop
 | .dK _=>True
 | .dT _=>True
 | _=>False
section
variable {X:Cx} {pins:List (Addr × Obj)} {σ:St} {H:Hp} {s:Shared} {d:Addr}
theorem Ag.swap {v u:HO} (I:Ag X pins σ H s) (e:H d = some v) (n1:∀ xs,v ≠ .tup xs) (n2:∀ ps,v ≠ .qP ps) (n3:∀ y,v ≠ .own y) (n4:∀ o u,X.H₀ d ≠ some (.bO o u)) (ok:Bn X.prog X.w (upd H d u) s.heap d u):Ag X pins σ (upd H d u) s:=by
 have ht:∀ b xs,H b = some (.tup xs) -> (upd H d u) b = some (.tup xs):=fun b xs z=>by
  rw [Ac (fun y=>by rw [y,e] at z; exact n1 _ (Option.some.inj z))]
  exact z
 have hn:∀ b,H b = none -> (upd H d u) b = none:=fun b z=>by
  rw [Ac (fun y=>by rw [y,e] at z; cases z)]
  exact z
 refine ⟨I.ok,I.os,I.bare,⟨I.base.keep,I.base.slot,fun b o q n hx=>hn b (I.base.free b o q n hx),I.base.there,fun b xs q=>ht b xs (I.base.dU b xs q),fun b o x q=>?_,fun b ps q=>?_⟩,I.loc,I.cell,hn _ I.free,fun x c z=>hn c (I.bD x c z),fun p hp=>?_,fun b o q=>?_,I.len⟩
 ·have hb : b ≠ d := fun y => by
   rw [y] at q
   exact n4 o x q
  rw [Ac hb]
  exact I.base.cQ b o x q
 ·obtain ⟨m,z⟩ := I.base.dW b ps q
  refine ⟨m,?_⟩
  rw [Ac (fun y=>by rw [y,e] at z; exact n2 _ (Option.some.inj z))]
  exact z
 ·obtain ⟨a,b,c⟩ := I.pin p hp
  exact ⟨a,hn _ b,c⟩
 ·by_cases hb:b = d
  ·subst hb
   rw [A5] at q
   cases q
   exact ok
  ·rw [Ac hb] at q
   refine (I.aP b o q).dR (fun _ _ _ z=>z) (fun c z=>?_) ht
   rw [Ac (fun y=>by rw [y,e] at z; exact n3 _ (Option.some.inj z))]
   exact z
theorem Ag.DY {v:HO} (I:Ag X pins σ H s) (e:H d = some v) (hv:Kr v):∀ o u,X.H₀ d ≠ some (.bO o u):=fun o u z=>by
 have y:=I.base.cQ d o u z
 rw [e] at y
 cases y
 exact hv
theorem Ag.bO {v:HO} (I:Ag X pins σ H s) (e:H d = some v) (hv:Kr v):∃ o,s.heap.get? d = some o /\ Ag X pins σ (upd H d (.bO o v)) s:=by
 have aP:=I.aP d v e
 obtain ⟨o,ho⟩ : ∃ o,s.heap.get? d = some o:=by
  cases v with
  | dK kvs=>obtain ⟨_,_,_,_,o,_,_,z,_⟩ := aP; exact ⟨o,z⟩
  | dT kvs=>obtain ⟨_,_,_,_,o,_,_,z,_⟩ := aP; exact ⟨o,z⟩
  | _=>exact hv.elim
 have n1:∀ xs,v ≠ .tup xs:=fun xs z=>by rw [z] at hv; exact hv
 have n2:∀ ps,v ≠ .qP ps:=fun ps z=>by rw [z] at hv; exact hv
 have n3:∀ y,v ≠ .own y:=fun y z=>by rw [z] at hv; exact hv
 refine ⟨o,ho,I.swap e n1 n2 n3 (I.DY e hv) ⟨ho,aP.dR (fun _ _ _ z=>z) (fun c z=>?_) (fun b xs z=>?_)⟩⟩
 ·rw [Ac (fun y=>by rw [y,e] at z; exact n3 _ (Option.some.inj z))]
  exact z
 ·rw [Ac (fun y=>by rw [y,e] at z; exact n1 _ (Option.some.inj z))]
  exact z
theorem Ag.OT {v:HO} {o:Obj} (I:Ag X pins σ H s) (e:H d = some (.bO o v)) (n4:∀ o u,X.H₀ d ≠ some (.bO o u)):Ag X pins σ (upd H d v) s:=by
 refine I.swap e (fun _ z=>nomatch z) (fun _ z=>nomatch z) (fun _ z=>nomatch z) n4 ((I.aP d _ e).2.dR (fun _ _ _ z=>z) (fun c z=>?_) (fun b xs z=>?_))
 ·rw [Ac (fun y=>by rw [y,e] at z; cases z)]
  exact z
 ·rw [Ac (fun y=>by rw [y,e] at z; cases z)]
  exact z
end
def lz (t:TS):TS:=fun D σ H=>∃ d u,Kr u /\ H d = some u /\ t { D with nx:=fun σ' H'=>∃ o,H' d = some (.bO o u) /\ D.nx σ' (upd H' d u) } σ H
def sk (t:TE):TE:=fun σ H Q=>∃ d u,Kr u /\ H d = some u /\ t σ H fun v H'=>∃ o,H' d = some (.bO o u) /\ Q v (upd H' d u)
section
variable {X:Cx}
theorem P8 {st:Stmt} {t:TS} (h:PS X st t):PS X st (lz t):=by
 intro pins s σ H D I z
 obtain ⟨d,u,hu,e,z⟩ := z
 have n4:=I.DY e hu
 refine Ci (h pins s σ H _ I z) fun f s1 q=>?_
 cases f with
 | next =>
  obtain ⟨σ',H',I',o,e',q'⟩ := q
  exact ⟨σ',_,I'.OT e' n4,q'⟩
 | brk=>exact q
 | cont=>exact q
 | ret v=>exact q
end
section
variable {P:Program} {w:World} {A:Around} {E:Value -> Shared -> Prop} {s:Shared}
theorem Qh {d : Addr} {o : Obj} {Q : Value -> Shared -> Prop} (hs : (d == sysModules) = false) (ho : s.heap.get? d = some o) (hx : o.ExactDict)
  (h:Q (.ref s.heap.objs.size) { s with heap:=s.heap.push { cls := .type "dict_items",data := .fields #[.ref d] } }):wpAny (model P w) A (call (.builtin "dict.items") [.ref d]) Q E s:=by
 have hT:s.TypeIs (.ref d) "dict" := ⟨o,ho,hx.1⟩
 refine wpAny_call_entry F.slot_dict_items hT F.entry_dict_items ?_ (F.args_dict_items_1 _)
 unfold Builtin.«dict.items» Builtin.Dict.noArgs
 refine wpAny_bind (wpAny_bind (wpAny_notOrdered_dict hT ?_))
 refine wpAny_bind (wpAny_of_eq (a:=()) rfl ?_)
 refine wpAny_bind (wpAny_of_eq (a:=Value.ref d) rfl ?_)
 refine wpAny_of_eq (a:=d) rfl ?_
 refine wpAny_bind ?_
 unfold Builtin.Dict.showsAll
 rw [hs,if_neg Bool.false_ne_true]
 refine wpAny_pure ?_
 refine wpAny_bind ?_
 unfold newFields
 exact wpAny_newObj_type (wpAny_pure ⟨_,rfl,h⟩)
theorem Uf {v d : Addr} {o : Obj} {es : Array DictEntry} {ep : Nat} {Q : Value -> Shared -> Prop} (hv : s.heap.IsItemsView v d) (ho : s.heap.get? d = some o) (dY : o.data = .dict es ep)
  (h:Q (.ref s.heap.objs.size) { s with heap:=s.heap.push { cls := .type "dict_itemiterator",data := .fields #[.none,.bool false,.ref d,.int 0 0,.int es.size 0,.int ep 0,.none,.none] } }):wpAny (model P w) A (pyIter (.ref v)) Q E s:=by
 obtain ⟨ov,MA,hc,hd⟩ := hv
 have hT:s.TypeIs (.ref v) "dict_items" := ⟨ov,MA,hc⟩
 refine wpAny_pyIter_slot hT F.slot_dict_items_iter (wpAny_call_entry F.slot_dict_items_iter hT F.entry_dict_items_iter ?_ (F.args_dict_items_iter_1 _))
 unfold Builtin.«dict_items.__iter__» Builtin.Dict_items.slot0 Builtin.Dict_items.dictOf Builtin.Dict_items.newIterator
 refine wpAny_bind (wpAny_bind (wpAny_of_eq (a:=(Value.ref v,[])) rfl (wpAny_pure ?_)))
 refine wpAny_bind (wpAny_bind (wpAny_field MA hd (x := .ref d) rfl (wpAny_of_eq (a:=d) rfl ?_)))
 refine wpAny_bind (wpAny_bind (wpAny_dictEntries ho dY (wpAny_bind (wpAny_dictEpoch ho dY ?_))))
 show wpAny (model P w) _ (newObj (.type "dict_itemiterator") (.fields #[.none,.bool false,.ref d,.int 0 0,.int es.size 0,.int ep 0,.none,.none]) none) _ _ _
 refine wpAny_newObj_type (wpAny_pure ⟨_,rfl,"dict_itemiterator",_,⟨_,Heap.get?_push_size _ rfl,rfl⟩,F.slot_dict_itemiterator_next.lookup,h⟩)
theorem X0 {it d : Addr} {i ep : Nat} {es : Array DictEntry} {ok ov : Value} {o : Obj} {Q : Option Value -> Shared -> Prop} (hh : A.handled = none) (hit : IsItemIter s.heap it d i es.size ep ok ov) (gA : s.heap.get? d = some o) (dY : o.data = .dict es ep)
  (he:es[i]? = none) (hQ:∀ h',Heap.ExtBut it s.heap h' -> Q none { s with heap:=h' }):wpAny (model P w) A (pyNext (.ref it)) Q E s:=by
 have hT:s.TypeIs (.ref it) "dict_itemiterator" := ⟨_,hit,rfl⟩
 have own:Builtin.Dict_items.ownsTuple "dict_itemiterator" = true:=by decide
 unfold pyNext; refine wpAny_bind (wpAny_attempt (wpAny_callSpecial?_slot (name:=Str.ofString "__next__") hT F.slot_dict_itemiterator_next (wpAny_call_entry F.slot_dict_itemiterator_next hT F.entry_dict_itemiterator_next ?_ (F.args_dict_itemiterator_next_1 _))))
 refine wpAny_bind (wpAny_pure (wpAny_bind (wpAny_bind (wpAny_bind (wpAny_typeNameOfWhole_itemiter hT (wpAny_pure (wpAny_bind (wpAny_fieldsOf hit rfl ?_))))))))
 simp only [own,if_true]; show wpAny _ _ (if (Value.ref d == Value.none) = true then _ else _) _ _ s
 rw [if_neg (show ¬ (Value.ref d == Value.none) = true from Bool.false_ne_true)]; refine wpAny_bind (wpAny_pure (wpAny_bind (wpAny_dictEntries gA dY ?_)))
 rw [if_neg (show ¬ ((es.size:Int) != (es.size:Int)) = true by simp)]; refine wpAny_bind (wpAny_pure (wpAny_bind (wpAny_dictEpoch gA dY ?_)))
 rw [if_neg (show ¬ ((ep:Int) != (ep:Int)) = true by simp)]; refine wpAny_pure ?_
 simp only [show ¬ ((i:Int) < 0) by omega,if_false,Int.toNat_natCast,he]
 refine wpAny_bind (wpAny_bind (wpAny_typeNameOfWhole_itemiter hT (wpAny_pure ?_)))
 show wpAny _ _ (setField (.ref it) 2 Value.none >>= _) _ _ s
 refine wpAny_bind (wpAny_setField hit rfl (by simp) ?_)
 generalize hg:Heap.update s.heap it (Obj.mapFields (·.setIfInBounds 2 Value.none)) = h2
 have eb:Heap.ExtBut it s.heap h2:=by
  rw [<- hg]
  exact fun b ob hb e=>(Heap.get?_update_other _ _ (Ne.symm hb)).trans e
 show wpAny (model P w) _ (newExc (.type "StopIteration") [] >>= _) _ _ { s with heap:=h2 }
 refine wpAny_bind ?_; simp only [newExc,newTuple]
 refine wpAny_bind (wpAny_newObj_type (T := "tuple") ?_ (by size_fits))
 refine wpAny_bind (m:=firstArgMember _ _) (wpAny_of_eq (a:=Value.none) (by first | rfl | simp only [firstArgMember]) ?_)
 refine wpAny_newObj_type (T := "StopIteration") ?_ (by size_fits)
 simp only [raiseNew]; refine wpAny_bind (wpAny_handled ?_)
 first | rw [show A.in1.handled = Option.none from hh] | rw [hh]
 refine wpAny_bind (wpAny_pure (wpAny_throw ?_)); refine wpAny_bind (wpAny_isInstance (T := "StopIteration") (b:=true) ⟨_,Heap.get?_push_size _ rfl,rfl⟩ isSubtype_stop ?_)
 exact wpAny_pure (hQ _ ((eb.push _).push _))
end
theorem Vi:entryFor table "dict_itemiterator.__iter__" = some Builtin.«dict_keyiterator.__iter__» :=
 entryFor_alias (id' := "dict_keyiterator.__iter__") (by kernel_rfl) (by first | rfl | decide +kernel | (unfold String.splitOn; simp +decide [String.splitOnAux])) (by decide +kernel) (by kernel_rfl)
def nl:HO -> Hp -> Nat -> V -> V -> Prop
 | .dT kvs,H,i,x,y=>∃ k b,kvs[i]? = some (k,y) /\ x = .ref b /\ E9 H b k
 | .dK kvs,_,i,x,y=>∃ k,kvs[i]? = some (k,y) /\ x = kV k
 | _,_,_,_,_=>False
def D9:HO -> Nat
 | .dT kvs=>kvs.length
 | .dK kvs=>kvs.length
 | _=>0
def d4 (d:Addr) (o:Obj) (u:HO):It :=
 ⟨fun i H=>H d = some (.bO o u) /\ i < D9 u,fun i H v H'=>∃ T x y,v = .ref T /\ H T = none /\ H' = upd H T (.tup [x,y]) /\ nl u H i x y,fun i H=>H d = some (.bO o u) /\ D9 u <= i⟩
theorem ag {P:Program} {w:World} {k:Dh} {u:Value} (h:(Da P w).is k u = true):Aw (kV k) u:=by
 have h':Hy k u = true:=h
 cases k with
 | inl i =>
  cases u <;> simp [Hy,Value.isInt] at h'
  subst h'
  exact ⟨_,rfl⟩
 | inr x =>
  cases u <;> simp [Hy,Value.isStrOf] at h'
  subst h'
  exact ⟨_,rfl⟩
theorem Fh {α β:Type} {F:α -> β -> Prop}:∀ {xs:List α} {ys:List β} {i:Nat},Paired F xs ys -> i < xs.length -> ∃ x y,xs[i]? = some x /\ ys[i]? = some y /\ F x y
 | _,_,i,.nil,h=>absurd h (by simp)
 | _,_,0,.cons r _,_=>⟨_,_,rfl,rfl,r⟩
 | _,_,i + 1,.cons _ t,h=>by
  obtain ⟨x,y,e1,e2,e3⟩ := Fh (i:=i) t (by simpa using h)
  exact ⟨x,y,by simpa using e1,by simpa using e2,e3⟩
theorem Sm {α β:Type} {F:α -> β -> Prop} {xs:List α} {ys:List β} (h:Paired F xs ys):xs.length = ys.length:=by
 induction h with
 | nil=>rfl
 | cons r t ih=>rw [List.length_cons,List.length_cons,ih]
theorem Nk {P:Program} {w:World} {K:Type} [DecidableEq K] {knd:PySem.KeyKind P w K}:∀ {es:List DictEntry} {vs:List (K × Value)} {i:Nat} {kv:K × Value},Pairs knd es vs -> vs[i]? = some kv -> ∃ e,es[i]? = some e /\ knd.is kv.1 e.key = true /\ e.val = kv.2
 | _,_,i,kv,.nil,h=>by simp at h
 | _,_,0,kv,.cons h1 h2 _,h=>by
  cases (show some _ = some _ from h)
  exact ⟨_,rfl,h1,h2⟩
 | _,_,i + 1,kv,.cons _ _ t,h=>by
  obtain ⟨e,e1,e2⟩ := Nk t (i:=i) (by simpa using h)
  exact ⟨e,by simpa using e1,e2⟩
theorem Wa {P:Program} {w:World} {K:Type} [DecidableEq K] {knd:PySem.KeyKind P w K} {es:List DictEntry} {vs:List (K × Value)} (h:Pairs knd es vs):es.length = vs.length:=by
 induction h with
 | nil=>rfl
 | cons r q t ih=>rw [List.length_cons,List.length_cons,ih]
theorem X4 {P : Program} {w : World} {H : Hp} {h : Heap} {d : Addr} {o : Obj} {u : HO} {es : Array DictEntry} {ep : Nat} (ok : Bn P w H h d u) (hu : Kr u) (ho : h.get? d = some o) (hd : o.data = .dict es ep) :
  es.size = D9 u /\ ∀ i,i < D9 u -> ∃ e x y,es[i]? = some e /\ Aw x e.key /\ Aw y e.val /\ nl u H i x y:=by
 cases u with
 | dT kvs =>
  obtain ⟨_,_,xs,r,o',rE,rF,h1,h2,h3,h4,h5⟩ := ok
  rw [ho] at h1
  cases h1
  rw [hd] at h3
  cases h3
  have hl:=Sm r
  refine ⟨?_,fun i hi=>?_⟩
  ·show es.size = kvs.length
   rw [<- Array.length_toList,h4,List.length_map,hl]
  ·obtain ⟨p,q,e1,e2,e3,e4,e5⟩ := Fh r hi
   refine ⟨entryOfKey (C6 P w) q,.ref q.2.1,p.2,?_,rfl,e5,p.1,q.2.1,e1,rfl,e4⟩
   rw [<- Array.getElem?_toList,h4,List.getElem?_map,e2]
   rfl
 | dK kvs =>
  obtain ⟨_,_,vs,r,o',rE,rF,h1,h2,h3,h4,h5,h6⟩ := ok
  rw [ho] at h1
  cases h1
  rw [hd] at h3
  cases h3
  have hl:kvs.length = vs.length:=r.length
  refine ⟨?_,fun i hi=>?_⟩
  ·show es.size = kvs.length
   rw [<- Array.length_toList,Wa h5,hl]
  ·obtain ⟨p,q,e1,e2,e3⟩ := Fh r hi
   obtain ⟨e,f1,f2,f3⟩ := Nk h5 e2
   refine ⟨e,kV p.1,p.2,by rw [<- Array.getElem?_toList]; exact f1,?_,?_,p.1,e1,rfl⟩
   ·rw [e3.1]
    exact ag f2
   ·rw [f3]
    exact e3.2
 | _=>exact hu.elim
theorem Tu {P : Program} {w : World} {K : PySem.W.Frag} {elts : List Expr} {kk : Nat} {pos : Pos} {it d : Addr} {o : Obj} {u : HO} {es : Array DictEntry} {ep : Nat} (hu : Kr u) (hd : o.data = .dict es ep) (fA : d ≠ it) :
  V7 P w K (.Tuple elts kk pos) (d4 d o u) [it] it (fun i h=>∃ ok ov,IsItemIter h it d i es.size ep ok ov) where
 mem:=by simp
 obj:=fun i h ⟨ok,ov,st⟩ b hb=>by
  have e:b = it:=by simpa using hb
  subst e
  exact ⟨_,st,fun v z=>by cases z⟩
 keep:=fun i h h' ⟨ok,ov,st⟩ k=>⟨ok,ov,k it (by simp) _ st⟩
 item:=by
  intro X hP hw hK hc i pins s σ H E I hf ⟨ok,ov,st⟩ ⟨jW,hg2⟩
  subst hP hw hK
  obtain ⟨ho,aP⟩ := I.aP d _ jW
  obtain ⟨hsz,jD⟩ := X4 aP hu ho hd
  obtain ⟨e,x,y,e1,rx,ry,hi⟩ := jD i hg2
  have aZ:it < s.heap.objs.size:=Heap.lt_size st
  refine Qi st ho hd e1 fun h' a1 a2 a3=>⟨_,rfl,?_⟩
  refine wpAny_letOwnedTupleGo_items (s:={ s with heap:=h' }) a1 fun h'' b1 b2=>?_
  have hTp:h''.get? s.heap.objs.size = some { cls := .type "tuple",data := .seq #[e.key,e.val] }:=b2.extBut _ _ (Nat.ne_of_gt aZ) a2
  refine ⟨.ref s.heap.objs.size,upd H s.heap.objs.size (.tup [x,y]),I.mL (t':=s.toks) (ch:=[it]) hf (fun c ob hc e=>?_) (Nat.le_refl _) ?_,rfl,⟨_,x,y,rfl,I.fresh,rfl,hi⟩,⟨_,_,b1⟩,fun c hc=>?_⟩
  ·have iQ:c ≠ it:=by simpa using hc
   exact b2.extBut _ _ iQ (a3 c ob iQ e)
  ·exact ⟨⟨Nat.le_trans (by decide:2 <= 1000) (Uz (Nat.le_refl _)),_,hTp,rfl⟩,[e.key,e.val],.cons rx (.cons ry .nil),⟨_,hTp,rfl,0,rfl⟩⟩
  ·have iQ:c = it:=by simpa using hc
   subst iQ
   rw [Ac (Nat.ne_of_lt aZ)]
   exact (hf c hc).1
 done:=by
  intro X hP hw hK hc i pins s σ H E I hf ⟨ok,ov,st⟩ ⟨jW,hg2⟩
  subst hP hw hK
  obtain ⟨ho,aP⟩ := I.aP d _ jW
  obtain ⟨hsz,jD⟩ := X4 aP hu ho hd
  refine X0 (I.ok.hd hc) st ho hd (Array.getElem?_eq_none (by omega)) fun h' eb=>⟨rfl,I.mM (t':=s.toks) (ch:=[it]) hf fun c ob hc e=>?_⟩
  have iQ:c ≠ it:=by simpa using hc
  exact eb c ob iQ e
 self:=fun A i s Q E ⟨ok,ov,st⟩ hQ=>by
  have hT:s.TypeIs (.ref it) "dict_itemiterator" := ⟨_,st,rfl⟩
  refine wpAny_pyIter_slot hT F.slot_dict_itemiterator_iter (wpAny_call_entry F.slot_dict_itemiterator_iter hT Vi ?_ (F.args_dict_itemiterator_iter_1 _))
  exact wpAny_pure ⟨_,rfl,"dict_itemiterator",_,hT,F.slot_dict_itemiterator_next.lookup,hQ⟩
section
variable {X:Cx}
def eh (td:TE):TI:=fun σ H R=>td σ H fun x H1=>∃ d u,x = .ref d /\ Kr u /\ H1 d = some u /\ ∀ o,R (d4 d o u) (upd H1 d (.bO o u))
theorem Lc {elts : List Expr} {kk : Nat} {vG apos pos : Pos} {e : Expr} {td : TE} (he : PE X e td) (iZ : attributeBase e "items" X.env (eval e X.env) = eval e X.env := by rfl) (jA : (apos.endLine == pos.line) = true := by rfl) :
  PI X (.Tuple elts kk vG) (.Call (.Attribute e "items" apos) [] [] pos) (eh td):=by
 intro pins s σ H R I h
 refine wpAny_Call_method0_late iZ jA (Ci (he pins s σ H _ I h) fun v s1 bA=>?_)
 obtain ⟨x,H1,I1,r1,d,u,ex,hu,hd,q⟩ := bA
 subst ex
 obtain rfl:v = Value.ref d:=r1
 obtain ⟨o,ho,I2⟩ := I1.bO hd hu
 obtain ⟨es,ep,hx,dY,OU⟩ : ∃ es ep,o.ExactDict /\ o.data = .dict es ep /\ (d == sysModules) = false:=by
  have aP:=I1.aP d u hd
  cases u with
  | dT kvs =>
   obtain ⟨_,y,xs,r,o',rE,rF,h1,h2,h3,_⟩ := aP
   rw [ho] at h1
   cases h1
   exact ⟨rE,rF,h2,h3,y⟩
  | dK kvs =>
   obtain ⟨_,y,vs,r,o',rE,rF,h1,h2,h3,_⟩ := aP
   rw [ho] at h1
   cases h1
   exact ⟨rE,rF,h2,h3,y⟩
  | _=>exact hu.elim
 have hT:s1.TypeIs (.ref d) "dict" := ⟨o,ho,hx.1⟩
 refine ⟨"dict","dict.items",PySem.F.plainAttrs_dict,PySem.F.slot_dict_items,PySem.F.type_dict_items,hT,?_,Calls.callWith_builtin rfl (PySem.evalArgs_none (Qh OU ho hx ?_))⟩
 ·intro a z
  cases z
  exact ⟨o,ho,hx.2.1⟩
 have MA:(s1.heap.push { cls := .type "dict_items",data := .fields #[.ref d] }).get? d = some o:=Heap.get?_push_of_some _ ho
 refine Uf (s:={ s1 with heap:=s1.heap.push { cls := .type "dict_items",data := .fields #[.ref d] } }) ⟨_,Heap.get?_push_size _ rfl,rfl,rfl⟩ MA dY ?_
 have hk:∀ b ob,s1.heap.get? b = some ob -> ((s1.heap.push { cls := .type "dict_items",data := .fields #[.ref d] }).push { cls := .type "dict_itemiterator",data := .fields #[.none,.bool false,.ref d,.int 0 0,.int es.size 0,.int ep 0,.none,.none] }).get? b = some ob:=fun b ob z=>Heap.get?_push_of_some _ (Heap.get?_push_of_some _ z)
 have hsz:(s1.heap.push { cls := .type "dict_items",data := .fields #[.ref d] }).objs.size = s1.heap.objs.size + 1:=by simp [Heap.push]
 have DW:d < s1.heap.objs.size:=Heap.lt_size ho
 refine ⟨_,[_],_,d4 d o u,upd H1 d (.bO o u),rfl,I2.kept (t':=s1.toks) hk,Tu (es:=es) (ep:=ep) hu dY ?_,⟨.none,.none,Heap.get?_push_size _ rfl⟩,fun c hc=>?_,q o⟩
 ·rw [hsz]
  exact Nat.ne_of_lt (Nat.lt_succ_of_lt DW)
 ·have hle : s1.heap.objs.size <= c := by
   have:c = (s1.heap.push { cls := .type "dict_items",data := .fields #[.ref d] }).objs.size:=by simpa using hc
   rw [this,hsz]
   omega
  exact I2.mG hle (I2.aP.fresh hle)
end
theorem N4 {o : Obj} {u : HO} {d : Addr} {g : TG} {tb : TS} {D : Ha} {σ : St} {H : Hp} (Pv : Nat -> St -> Hp -> Prop) (h0 : Pv 0 σ H) (hl : ∀ i σ H, i <= D9 u -> Pv i σ H -> H d = some (.bO o u))
  (hs:∀ i x y T σ H,i < D9 u -> nl u H i x y -> Pv i σ H -> H T = none -> g (.ref T) σ (upd H T (.tup [x,y])) fun σ2 H2=>tb { D with nx:=Pv (i + 1),ct:=Pv (i + 1),bk:=D.nx } σ2 H2) (hd:∀ σ H,Pv (D9 u) σ H -> D.nx σ H) :
  ∃ W:Nat -> Nat -> St -> Hp -> Prop,(∃ m,W 0 m σ H) /\ ∀ i m σ H,W i m σ H ->
   ((d4 d o u).stop i H /\ D.nx σ H) \/ ((d4 d o u).go i H /\ ∃ N:St -> Hp -> Prop,(∀ σ' H',N σ' H' -> ∃ m',m' < m /\ W (i + 1) m' σ' H') /\ ∀ x H',(d4 d o u).vF i H x H' -> g x σ H' fun σ2 H2=>tb { D with nx:=N,ct:=N,bk:=D.nx } σ2 H2):=by
 refine ⟨fun i m σ H=>m = D9 u - i /\ i <= D9 u /\ Pv i σ H,⟨D9 u,by simp,Nat.zero_le _,h0⟩,?_⟩
 rintro i m σ H ⟨rfl,hi,p⟩
 have q1:=hl i σ H hi p
 by_cases aZ:i < D9 u
 ·refine .inr ⟨⟨q1,aZ⟩,Pv (i + 1),fun σ' H' p'=>⟨D9 u - (i + 1),by omega,rfl,aZ,p'⟩,fun v H' y=>?_⟩
  obtain ⟨T,x,z,rfl,hT,rfl,e1⟩ := y
  exact hs i x z T σ H aZ e1 p hT
 ·have e:i = D9 u:=by omega
  subst e
  exact .inl ⟨⟨q1,Nat.le_refl _⟩,hd σ H p⟩
theorem S1 {K : PySem.W.Frag} {o : Obj} {u : HO} {d : Addr} {fr : List Nat} {tt : TT} {te : TE} {σ : St} {D : Addr} {H1 : Hp} {Q : Hp -> Prop} (Pv : Nat -> List V -> Hp -> Prop) (h0 : Pv 0 [] (upd H1 D (.lst [])))
  (hl:∀ i zs H,i <= D9 u -> Pv i zs H -> H d = some (.bO o u))
  (hs:∀ i x y T zs H,i < D9 u -> nl u H i x y -> Pv i zs H -> H T = none -> tt (some x :: some y :: Em fr σ) (upd H T (.tup [x,y])) fun b H4 =>
   if b = true then te (some x :: some y :: Em fr σ) H4 fun v H5=>H5 D = some (.lst zs) /\ zs.length < sizeLine /\ Pv (i + 1) (zs ++ [v]) (upd H5 D (.lst (zs ++ [v]))) else Pv (i + 1) zs H4)
  (mt:∀ σ H Q Q',(∀ b H',Q b H' -> Q' b H') -> tt σ H Q -> tt σ H Q') (me:∀ σ H Q Q',(∀ v H',Q v H' -> Q' v H') -> te σ H Q -> te σ H Q')
  (hd:∀ zs H,Pv (D9 u) zs H -> Q H):Fc 2 fr (d4 d o u) (oy K) tt te σ D H1 Q:=by
 refine ⟨fun i m zs H=>m = D9 u - i /\ i <= D9 u /\ Pv i zs H,⟨D9 u,by simp,Nat.zero_le _,h0⟩,?_⟩
 rintro i m zs H' ⟨rfl,hi,p⟩
 have q1:=hl i zs H' hi p
 by_cases aZ:i < D9 u
 ·refine .inr ⟨⟨q1,aZ⟩,fun v H2 y=>?_⟩
  obtain ⟨T,x,z,rfl,hT,rfl,e1⟩ := y
  refine ⟨T,_,rfl,Cj.of A5,rfl,x,_,rfl,z,_,rfl,rfl,⟨[some x,some z],rfl,rfl⟩,?_⟩
  refine mt _ _ _ _ ?_ (hs i x z T zs H' aZ e1 p hT)
  intro b H4 q
  cases b with
  | false=>exact ⟨D9 u - (i + 1),by omega,rfl,aZ,q⟩
  | true=>exact me _ _ _ _ (fun v H5 ⟨r1,r2,r3⟩=>⟨r1,r2,D9 u - (i + 1),by omega,rfl,aZ,r3⟩) q
 ·have e:i = D9 u:=by omega
  subst e
  exact .inl ⟨⟨q1,Nat.le_refl _⟩,hd zs H' p⟩
section
variable {prog:Program} {w:World} {K:Type} [DecidableEq K] {knd:HeapKind prog w K} {A:Around} {E:Value -> Shared -> Prop} {s:Shared} {d a:Addr} {k:K} {xs:List (K × Addr × Value)}
theorem Vu {v:Value} (hn:(xs.map (·.1)).Nodup) (vV:k ∉ xs.map (·.1)):((xs ++ [(k,a,v)]).map (·.1)).Nodup:=by
 rw [List.map_append,List.nodup_append]
 refine ⟨hn,by simp,fun x hx y hy=>?_⟩
 have e:y = k:=by simpa using hy
 rw [e]
 exact fun e=>vV (e ▸ hx)
theorem Yf {dflt : Value} {Q : Value -> Shared -> Prop} (hu : knd.room A) (fD : knd.is s.heap k a) (hm : s.heap.DictOfH knd d xs) (hsz : xs.length <= sizeLine)
  (h1:∀ p,atKey xs k = some p -> Q p.2 { s with toks:=s.toks + knd.draws k })
  (h2:atKey xs k = none -> ∀ h',h'.DictOfH knd d (xs ++ [(k,a,dflt)]) -> Heap.SameBut d s.heap h' -> Q dflt { s with heap:=h',toks:=s.toks + knd.draws k }) :
  wpAny (model prog w) A (dictSetDefault d (.ref a) dflt) Q E s:=by
 obtain ⟨o,es,ep,ho,hc,hd,he,LZ,hn⟩ := hm
 unfold dictSetDefault
 try with_reducible refine wpAny_holding ?_
 refine wpAny_bind (knd.pyHash hu fD ?_)
 refine wpAny_bind (wpAny_dictFind_heap (s:={ s with toks:=s.toks + knd.draws k }) hu fD ho hd he LZ hn ?_ ?_)
 ·intro qV
  have vV:k ∉ xs.map (·.1):=not_mem_keys_of_get qV
  have jD:=atKey_none_of_get qV
  have hz:es.size <= sizeLine:=by
   have e:=size_of_entries he
   omega
  refine wpAny_bind (wpAny_rule (wpAny_bind (wpAny_updateDictKeys (hz:=hz) (s:={ s with toks:=s.toks + knd.draws k }) ho hd (wpAny_pure (h2 jD _
   ⟨_,_,ep + 1,Heap.get?_update_self _ ho (Obj.isFreed_of_dict (Obj.data_mapDictKeys hd _)),hc.mapDictKeys _,Obj.data_mapDictKeys hd _,?_,?_,Vu hn vV⟩ (Heap.SameBut.update ..))))))
  ·simp [he,entryOfKey]
  ·intro x hx
   rcases List.mem_append.mp hx with hx | hx
   ·exact knd.keeps (LZ x hx) ho hd (Heap.SameBut.update ..)
   ·cases List.mem_singleton.mp hx
    exact knd.keeps fD ho hd (Heap.SameBut.update ..)
 ·intro j p hj
  have jD:=atKey_of_get hn hj
  refine wpAny_bind (wpAny_dictEntries (s:={ s with toks:=s.toks + knd.draws k }) ho hd ?_)
  rw [entry_at he j,hj]
  exact wpAny_bind (wpAny_rule (wpAny_pure (h1 p jD)))
theorem Sj (hd : (d == sysModules) = false) (dflt : Value) :
  MeetsIn prog w (Builtin.«dict.setdefault» ⟨[.ref d,.ref a,dflt],[]⟩) (fun A R s=>knd.room A.in1 /\ ∃ k xs,knd.is s.heap k a /\ s.heap.DictOfH knd d xs /\ xs.length <= sizeLine /\
   (∀ p,atKey xs k = some p -> R (.ok (.ret p.2)) { s with toks:=s.toks + knd.draws k }) /\
   (atKey xs k = none -> ∀ h',h'.DictOfH knd d (xs ++ [(k,a,dflt)]) -> Heap.SameBut d s.heap h' -> R (.ok (.ret dflt)) { s with heap:=h',toks:=s.toks + knd.draws k })) :=
 .of_wp fun A R s ⟨hu,k,xs,fD,hm,hz,h1,h2⟩=>by
  unfold Builtin.«dict.setdefault» Builtin.Dict.keyAndDefault
  refine wpAny_bind (wpAny_bind (wpAny_notOrdered_dict hm.typeIs ?_))
  show wpAny _ _ (pure (d,Value.ref a,some dflt)) _ _ s
  refine wpAny_pure ?_
  show wpAny _ _ (if (d == sysModules) = true then _ else (dictSetDefault d (.ref a) dflt >>= _)) _ _ s
  rw [if_neg (by rw [hd]; exact Bool.false_ne_true)]
  exact wpAny_bind (Yf hu fD hm hz (fun p hp=>wpAny_pure ⟨p.2,rfl,h1 p hp⟩) fun hn h' kT DR=>wpAny_pure ⟨dflt,rfl,h2 hn h' kT DR⟩)
end
section
variable {X:Cx} {pins:List (Addr × Obj)} {σ:St} {H:Hp} {s:Shared} {a b:Addr} {kvs:List ((List Int × Int) × V)} {k:List Int × Int} {z:V} {r:Value} {A:Around} {E:Value -> Shared -> Prop}
theorem jz {Q : Value -> Shared -> Prop} (hu : A.units + 20 < cLine) (I : Ag X pins σ H s) (e : H a = some (.dT kvs)) (eb : E9 H b k) (hl : kvs.length < sizeLine) (rz : Aw z r)
  (h1:∀ v w' s',Ad kvs k = some v -> Ag X pins σ H s' -> Aw v w' -> Q w' s') (h2:Ad kvs k = none -> ∀ s',Ag X pins σ (upd H a (.dT (Bl kvs k z))) s' -> Q r s') :
  wpAny (model X.prog X.w) A (call (.builtin "dict.setdefault") [.ref a,.ref b,r]) Q E s:=by
 obtain ⟨z0,hd,xs,rel,dd⟩ := c9 I.aP e
 have hz:xs.length <= sizeLine:=by rw [<- Paired.length rel]; exact z0
 have hv:=rel.val k
 refine call_meetsIn PySem.F.slot_dict_setdefault dd.typeIs PySem.F.entry_dict_setdefault (PySem.F.args_dict_setdefault_3 _ _ _) (Sj (knd:=C6 X.prog X.w) hd r) ⟨D5 hu,k,xs,Fx I.aP eb,dd,hz,fun p hp=>?_,fun hn h' rN hs=>?_⟩
 ·rw [hp] at hv
  cases e2:Ad kvs k with
  | none=>rw [e2] at hv; exact hv.elim
  | some v =>
   rw [e2] at hv
   exact h1 v p.2 _ e2 (I.tok _) hv
 ·rw [hn] at hv
  cases e2:Ad kvs k with
  | some v=>rw [e2] at hv; exact hv.elim
  | none =>
   have hp:Bl kvs k z = kvs ++ [(k,z)]:=Dp z e2
   refine h2 e2 _ ?_
   rw [hp]
   obtain ⟨q,es,ep,hq,g2,g3,g4,_,g5⟩ := rN
   refine Jw I (by rw [e]; exact True.intro) hs ⟨q,hq⟩ ⟨by rw [List.length_append,List.length_singleton]; omega,hd,_,KT.keeps (Paired.snoc rel ⟨rfl,eb,rz⟩) (fun c ys ec=>?_),q,es,ep,hq,g2,g3,g4,g5⟩
   rw [Ac (Bw ec e (fun z=>nomatch z))]
   exact ec
end
def mr (td ty tx:TE):TE:=fun σ H Q=>td σ H fun x H1=>∃ a,x = .ref a /\ jd H1 a /\ ty σ H1 fun y H2=>tx σ H2 fun z H3=>∃ kvs k b,y = .ref b /\ E9 H3 b k /\ H3 a = some (.dT kvs) /\ kvs.length < sizeLine /\
 (∀ v,Ad kvs k = some v -> Q v H3) /\ (Ad kvs k = none -> Q z (upd H3 a (.dT (Bl kvs k z))))
section
variable {X:Cx} {o e f:Expr} {apos aY:Pos} {td ty tx:TE}
theorem au (hu:X.A.units + 20 < cLine) (ho:PE X o td) (he:PE X e ty) (hf:PE X f tx) (m:M2 X o "setdefault" apos e f aY):PE X (.Call (.Attribute o "setdefault" apos) [e,f] [] aY) (mr td ty tx):=by
 intro pins s σ H Q I h
 refine wpAny_Call_method m.base m.CF m.line PySem.F.plainAttrs_dict PySem.F.slot_dict_setdefault PySem.F.type_dict_setdefault (Ci (ho pins s σ H _ I h) fun u s1 bA=>?_)
 obtain ⟨x,H1,I1,rx,a,ex,d,q1⟩ := bA
 subst ex
 obtain rfl:u = Value.ref a:=rx
 obtain ⟨t1,t2,_⟩ := Sa I1 d
 refine ⟨t1,t2,?_⟩
 rw [m.trees]
 refine Calls.callWith_builtin rfl (Calls.evalArgs_plain (Calls.spliced_cons (Ci (he pins s1 σ H1 _ I1 q1) fun iv s2 ⟨y,H2,I2,ry,q2⟩ =>
  Calls.spliced_cons (Ci (hf pins s2 σ H2 _ I2 q2) fun fv s3 ⟨z,H3,I3,rz,kvs,k,b,ey,eb,ea,hl,q3,q4⟩=>Calls.spliced_nil ?_))))
 subst ey
 obtain rfl:iv = Value.ref b:=ry
 exact jz hu I3 ea eb hl rz (fun v w' s4 hv I4 fY=>⟨v,H3,I4,fY,q3 v hv⟩) fun hn s4 I4=>⟨z,_,I4,rz,q4 hn⟩
theorem Uv {a : Expr} {ta : TE} (ha : PE X a ta) (he : ∀ whole, isTrue a X.env whole = (do let v <- whole; standAt a.pos; holding [v] (truthy v)) := by intro _; rfl) :
  PT X a (fun σ H Q=>ta σ H fun x H'=>∃ d kvs,x = .ref d /\ Rd H' d (.dK kvs) /\ Q (!kvs.isEmpty) H'):=by
 intro pins s σ H Q I h
 refine isTrue_plain (Ci (ha pins s σ H _ I h) fun v s1 ⟨x,H1,I1,r1,d,kvs,ex,hd,q1⟩=>?_) (he _)
 subst ex
 obtain rfl:v = Value.ref d:=r1
 obtain ⟨z,hs,vs,rel,dd⟩ := Jd I1.aP hd
 have hl:kvs.length = vs.length:=rel.length
 have h24:sizeLine < 2 ^ 30:=by decide
 refine wpAny_truthy_dict hs dd (by omega) ⟨H1,I1.tok _,?_⟩
 have e:kvs.isEmpty = vs.isEmpty:=by
  cases kvs <;> cases vs <;> simp at hl <;> rfl
 rw [<- e]
 exact q1
end
open PySem PySem.Spec PyProof.Rows PySem.SeqAt
def cz (A:Around) (s:Shared) (x y:Value) (b:Bool):Prop := ∀ (prog:Program) (w:World) (E:Value -> Shared -> Prop) (Q:Value -> Shared -> Prop),Q (.bool b) s -> wpAny (model prog w) A (richCompare .Gt x y) Q E s
theorem j9 (l b : Addr) (xs ys : Array Value) (n n2 : Nat) (dd CA : Option Addr) (sl CB : Array (Option Value)) (e : Nat -> Bool) (r : Bool) :
  Meets (Builtin.«tuple.__gt__» ⟨[.ref l,.ref b],[]⟩)
   (fun A R s=>s.heap.get? l = some { cls := .type "tuple",dict:=dd,data := .seq xs n,slots:=sl } /\ s.heap.get? b = some { cls := .type "tuple",dict:=CA,data := .seq ys n2,slots:=CB } /\
    (∀ j (h1:j < xs.size) (h2:j < ys.size),EqAt A.in1 s xs[j] ys[j] (e j)) /\ (∀ j (h1:j < xs.size) (h2:j < ys.size),(∀ i,i < j -> e i = true) -> e j = false -> cz A.in1 s xs[j] ys[j] r) /\
    ((∀ j,j < min xs.size ys.size -> e j = true) -> r = decide (xs.size > ys.size)) /\ R (.ok (.ret (.bool r))) s) :=
 .of_wp fun prog w A R s h=>by
  obtain ⟨hp,g,d,tk,os⟩ := s
  obtain ⟨hl,hb,he,hf,hz,h⟩ := h
  have f2:=AutoSeq1.sub_tuple_tuple
  have hZ:(xs.toList.zip ys.toList).length = min xs.size ys.size:=by simp
  wp_walk using wpAny_loadPart' hl,wpAny_loadPart' hb,wpAny_forIn_list _ (fun rest b s'=>b.1 = none /\ s' = ⟨hp,g,d,tk,os⟩ /\ ∃ i,rest = (xs.toList.zip ys.toList).drop i /\ ∀ k,k < i -> k < min xs.size ys.size -> e k = true) _
  case turn =>
   rintro ⟨y,x⟩ rest b s' ⟨gP,rfl,i,hq,hR⟩
   have aZ:i < (xs.toList.zip ys.toList).length:=by
    apply Classical.byContradiction
    intro z
    rw [List.drop_of_length_le (by omega)] at hq
    cases hq
   have h1:i < xs.size:=by omega
   have h2:i < ys.size:=by omega
   rw [List.drop_eq_getElem_cons aZ] at hq
   injection hq with DT mP
   have hy:y = xs[i]:=by simpa using congrArg Prod.fst DT
   have hx:x = ys[i]:=by simpa using congrArg Prod.snd DT
   subst hy hx
   refine wpAny_bind (he i h1 h2 prog w _ _ ?_)
   cases hy:e i with
   | true =>
    wp_walk
    refine ⟨rfl,rfl,i + 1,mP,fun k hk mQ=>?_⟩
    by_cases z:k = i
    ·rw [z]
     exact hy
    ·exact hR k (by omega) mQ
   | false =>
    have lY:=hf i h1 h2 (fun k hk=>hR k hk (by omega)) hy prog w
    wp_walk using lY _ _
    exact ⟨_,rfl,h⟩
  case fin =>
   rintro ⟨b1,b2⟩ s' ⟨gP,rfl,i,hq,hR⟩
   simp only at gP
   subst gP
   have hge:min xs.size ys.size <= i:=by
    apply Classical.byContradiction
    intro z
    rw [List.drop_eq_getElem_cons (by omega)] at hq
    cases hq
   have hr:=hz fun j hj=>hR j (by omega) hj
   wp_walk
   refine ⟨_,rfl,?_⟩
   rw [hr] at h
   simpa [Builtin.Tuple.tupleCompareSizes] using h
  case h =>
   exact ⟨rfl,rfl,0,rfl,fun k hk=>absurd hk (Nat.not_lt_zero k)⟩
mutual
def Vo:PyData -> PyData -> Bool
 | .int a,.int b=>decide (a > b)
 | .tuple xs,.tuple ys=>bB xs ys
 | _,_=>false
def bB:List PyData -> List PyData -> Bool
 | [],[]=>false
 | [],_ :: _=>false
 | _ :: _,[]=>true
 | x :: xs,y :: ys=>if PyData.eqv x y then bB xs ys else Vo x y
end
theorem N6:∀ (xs ys:List PyData),(∀ j,j < min xs.length ys.length -> pairEq xs ys j = true) -> bB xs ys = decide (xs.length > ys.length)
 | [],[],_=>rfl
 | [],y :: ys,_=>by simp [bB]
 | x :: xs,[],_=>by simp [bB]
 | x :: xs,y :: ys,h=>by
  have h0:PyData.eqv x y = true:=h 0 (by simp only [List.length_cons]; omega)
  have ih:=N6 xs ys fun j hj=>h (j + 1) (by simp only [List.length_cons]; omega)
  rw [bB,if_pos h0,ih]
  simp
mutual
theorem Qo : ∀ (da db : PyData) (A : Around) (s : Shared) (a b : Value) (as bs : List Addr), Reads s.heap a da as -> Reads s.heap b db bs -> da.canLay0 = true -> db.canLay0 = true -> Gr da db ->
  A.units + min da.depth db.depth < cLine -> cz A s a b (Vo da db)
 | .int x,db,A,s,_,_,_,_,ra,rb,_,_,hc,hu=>by
  cases db with
  | int y =>
   cases ra with
   | int _ t =>
    cases rb with
    | int _ u =>
     intro prog w E Q h
     exact richCompare_gives (op := .Gt) (typeIs_int s _ t) (typeIs_int s _ u) F.slot_int_gt F.entry_int_gt (F.args_int_gt_2 _ _) (gives_int_gt _ _ t u) (fun z=>nomatch z) h
  | none=>exact hc.elim
  | bool _=>exact hc.elim
  | str _=>exact hc.elim
  | list _=>exact hc.elim
  | tuple _=>exact hc.elim
  | dict _=>exact hc.elim
 | .tuple xs,db,A,s,_,_,_,_,ra,rb,ha,hb,hc,hu=>by
  cases db with
  | tuple ys =>
   cases ra with
   | @tuple l o vs n _ as₁ h1 h2 h3 h4 =>
    cases rb with
    | @tuple l' o' qT n' _ bs₁ k1 k2 k3 k4 =>
     obtain ⟨oc,od,OL,iA⟩ := o
     obtain ⟨oc',OM,ON,vR⟩ := o'
     simp only at h2 h3 k2 k3
     subst h2 h3 k2 k3
     have n1:vs.size = xs.length:=by simpa using ReadsAll.length _ _ _ h4
     have n2:qT.size = ys.length:=by simpa using ReadsAll.length _ _ _ k4
     intro prog w E Q h
     refine richCompare_meets_room (op := .Gt) ⟨_,h1,rfl⟩ ⟨_,k1,rfl⟩ F.slot_tuple_gt F.entry_tuple_gt (F.args_tuple_gt_2 _ _) (j9 l l' vs qT n n' od OM iA vR (pairEq xs ys) (bB xs ys)) ⟨h1,k1,fun j j1 j2=>?_,fun j j1 j2 f1 f2=>?_,fun f=>?_,(fun z=>nomatch z),h⟩ (room_here hu)
     ·have:=eqAt_readsAll xs ys A.in1 s vs.toList qT.toList _ _ h4 k4 ha hb (room_in hu) j (by simpa using j1) (by simpa using j2)
      simpa using this
     ·have:=eS xs ys A.in1 s vs.toList qT.toList _ _ h4 k4 ha hb hc (room_in hu) j (by simpa using j1) (by simpa using j2) f1 f2
      simpa using this
     ·rw [n1,n2] at f ⊢
      exact N6 xs ys f
  | none=>exact hc.elim
  | bool _=>exact hc.elim
  | str _=>exact hc.elim
  | list _=>exact hc.elim
  | int _=>exact hc.elim
  | dict _=>exact hc.elim
 | .none,_,_,_,_,_,_,_,_,_,_,_,hc,_=>hc.elim
 | .bool _,_,_,_,_,_,_,_,_,_,_,_,hc,_=>hc.elim
 | .str _,_,_,_,_,_,_,_,_,_,_,_,hc,_=>hc.elim
 | .list _,_,_,_,_,_,_,_,_,_,_,_,hc,_=>hc.elim
 | .dict _,_,_,_,_,_,_,_,_,_,_,_,hc,_=>hc.elim
theorem eS : ∀ (xs ys : List PyData) (A : Around) (s : Shared) (vs ws : List Value) (as bs : List Addr), ReadsAll s.heap vs xs as -> ReadsAll s.heap ws ys bs -> PyData.canLayAll0 xs = true -> PyData.canLayAll0 ys = true -> bH xs ys ->
  A.units + min (PyData.depthAll xs) (PyData.depthAll ys) < cLine -> ∀ j (h1:j < vs.length) (h2:j < ws.length),(∀ i,i < j -> pairEq xs ys i = true) -> pairEq xs ys j = false -> cz A s vs[j] ws[j] (bB xs ys)
 | [],_,_,_,_,_,_,_,ra,_,_,_,_,_,j,h1,_,_,_=>by cases ra; exact absurd h1 (Nat.not_lt_zero _)
 | _ :: _,[],_,_,_,_,_,_,_,rb,_,_,_,_,j,_,h2,_,_=>by cases rb; exact absurd h2 (Nat.not_lt_zero _)
 | x :: xs,y :: ys,A,s,_,_,_,_,ra,rb,ca,cb,hc,hu,j,h1,h2,f1,f2=>by
  cases ra with
  | cons r1 r2 =>
   cases rb with
   | cons q1 q2 =>
    have tI:x.canLay0 = true /\ PyData.canLayAll0 xs = true:=by simpa [PyData.canLayAll0] using ca
    have tJ:y.canLay0 = true /\ PyData.canLayAll0 ys = true:=by simpa [PyData.canLayAll0] using cb
    have hd:A.units + min x.depth y.depth < cLine /\ A.units + min (PyData.depthAll xs) (PyData.depthAll ys) < cLine:=by
     simp only [PyData.depthAll] at hu
     omega
    cases j with
    | zero =>
     have e:bB (x :: xs) (y :: ys) = Vo x y:=by
      have f3:PyData.eqv x y = false:=f2
      rw [bB,f3]
      rfl
     rw [e]
     exact Qo x y A s _ _ _ _ r1 q1 tI.1 tJ.1 hc.1 hd.1
    | succ j =>
     have e:bB (x :: xs) (y :: ys) = bB xs ys:=by
      have f3:PyData.eqv x y = true:=f1 0 (Nat.succ_pos _)
      rw [bB,f3]
      rfl
     rw [e]
     exact eS xs ys A s _ _ _ _ r2 q2 tI.2 tJ.2 hc.2 hd.2 j (Nat.lt_of_succ_lt_succ h1) (Nat.lt_of_succ_lt_succ h2) (fun i hi=>f1 (i + 1) (Nat.succ_lt_succ hi)) f2
end
section
variable {X:Cx} {k:Nat}
def u7:R2:=fun x y H Q=>∃ d e:PyData,Rp H d x /\ Rp H e y /\ Gr d e /\ d.depth <= 60 /\ Q (.bl (Vo d e)) H
end
open PySem PySem.Spec PyProof.Rows PySem.SeqAt
theorem Dz (bt:Nat -> Nat -> Bool) (j:Nat):argBest bt (j + 1) = if bt (j + 1) (argBest bt j) = true then j + 1 else argBest bt j:=by
 first
  | rfl
  | (show (if bt (j + 1) (argBest bt j) then j + 1 else argBest bt j) = _; rfl)
section
variable {prog:Program} {w:World} {A:Around} {R:Result -> Shared -> Prop} {I S:Addr} {fp wr:List Addr} {St:Nat -> Heap -> Prop} {aL:Array Value} {bt:Nat -> Nat -> Bool} {Good:Heap -> Prop}
theorem Pa {a : Args} {s : Shared} (h : wpAny (model prog w) A.in1 (Builtin.«min.loop» a) (fun fin s' => match fin with
   | .done f=>R (.ok f) s'
   | .again c'=>c'.quiet = true /\ codeAny (model prog w) A c' R s') (fun e s'=>R (.error e) s') s):codeAny (model prog w) A (.builtin "min.loop" a) R s:=by
 refine codeAny_builtin F.entry_min_loop ?_; rw [Around.under_plainId F.plain_min_loop _]
 exact h
theorem b7 (W : Walks prog w A.in1 I fp wr aL.size (fun i v => aL[i]? = some v) St) (hG : ∀ h h', Good h -> (∀ b o, b ∉ wr -> b ≠ S -> h.get? b = some o -> h'.get? b = some o) -> Good h')
  (hc:∀ i j vi vj (s:Shared),Good s.heap -> aL[i]? = some vi -> aL[j]? = some vj -> ∀ E Q,Q (.bool (bt i j)) s -> wpAny (model prog w) A.in1 (richCompare .Lt vi vj) Q E s) (lI:S ∉ fp) :
  ∀ (k j:Nat) (s:Shared) (vb:Value) (c:Nat),aL.size = j + 1 + k -> St (j + 1) s.heap -> Good s.heap -> aL[argBest bt j]? = some vb ->
  s.heap.get? S = some { cls := .type "list",dict:=none,data := .seq #[vb,vb] c,slots := #[] } ->
  (∀ v h' tk,aL[argBest bt (aL.size - 1)]? = some v -> (∀ b o,b ∉ wr -> b ≠ S -> s.heap.get? b = some o -> h'.get? b = some o) -> R (.ok (.ret v)) { s with heap:=h',toks:=tk }) ->
  codeAny (model prog w) A (.builtin "min.loop" ⟨[.ref I,.none,.ref S],[]⟩) R s:=by
 have rO:S ∉ wr:=fun z=>lI (W.sub _ z)
 have nm:(toString "min" ++ toString ".loop" : String) = "min.loop" := by decide
 intro k
 induction k with
 | zero =>
  intro j s vb c hk dQ hg mS hS hR
  refine Pa ?_
  refine wpAny_bind ( wpAny_seqItems hS rfl ?_)
  show wpAny (model prog w) A.in1 (tryCatch (pyNext (.ref I)) _ >>= _) _ _ s
  have ej:j + 1 = aL.size:=by omega
  refine wpAny_bind (wpAny_tryCatch (W.done s _ _ (ej ▸ dQ) fun h1 iC k1=>?_))
  have iG:=k1 S _ rO hS
  show wpAny (model prog w) A.in1 (updateSeq S (fun _=>#[]) >>= _) _ _ _
  refine wpAny_bind ?_
  refine wpAny_updateSeq iG rfl (wpAny_bind (wpAny_letGo (wpAny_pure ?_)))
  have e2:aL.size - 1 = j:=by omega
  exact hR vb _ iC (by rw [e2]; exact mS) fun b o z1 z2 e=>(Heap.get?_update_other _ _ (Ne.symm z2)).trans (k1 b o z1 e)
 | succ k ih =>
  intro j s vb c hk dQ hg mS hS hR
  refine Pa ?_
  refine wpAny_bind ( wpAny_seqItems hS rfl ?_)
  show wpAny (model prog w) A.in1 (tryCatch (pyNext (.ref I)) _ >>= _) _ _ s
  refine wpAny_bind (wpAny_tryCatch (W.item (j + 1) s _ _ (by omega) dQ fun v h1 iC hP bN k1=>?_))
  have iG:=k1 S _ rO hS
  have jW:Good h1:=hG _ _ hg fun b o z1 _ e=>k1 b o z1 e
  refine wpAny_bind (wpAny_pure ?_)
  refine wpAny_bind (wpAny_tryCatch (wpAny_holding (wpAny_bind ?_)))
  refine hc (j + 1) (argBest bt j) v vb { s with heap:=h1,toks:=iC } jW hP mS _ _ ?_
  refine wpAny_bind (wpAny_holding (wpAny_truthy_bool ?_))
  refine wpAny_bind (wpAny_letGo (wpAny_pure ?_))
  have eb:=Dz bt j
  cases hb:bt (j + 1) (argBest bt j) with
  | true =>
   rw [hb,if_pos rfl] at eb
   simp only [if_true]
   refine wpAny_bind ?_
   refine wpAny_updateSeq iG rfl (wpAny_bind (wpAny_letGo ?_))
   rw [nm]
   refine wpAny_pure ⟨plainId_quiet F.plain_min_loop _,ih (j + 1) _ v _ (by omega) (W.frame _ _ _ bN fun b z o e=>?_) (hG _ _ jW fun b o z1 z2 e=>(Heap.get?_update_other _ _ (Ne.symm z2)).trans e) (by rw [eb]; exact hP) (Heap.get?_update_self _ iG rfl) fun v2 h2 mT top2 k2=>?_⟩
   ·exact (Heap.get?_update_other _ _ (fun y:S = b=>lI (by rw [y]; exact z))).trans e
   ·exact hR v2 h2 mT top2 fun b o z1 z2 e=>k2 b o z1 z2 ((Heap.get?_update_other _ _ (Ne.symm z2)).trans (k1 b o z1 e))
  | false =>
   rw [hb,if_neg Bool.false_ne_true] at eb
   simp only [Bool.false_eq_true,if_false]
   refine wpAny_bind (wpAny_letGo ?_)
   rw [nm]
   refine wpAny_pure ⟨plainId_quiet F.plain_min_loop _,ih (j + 1) _ vb c (by omega) bN jW (by rw [eb]; exact mS) iG fun v2 h2 mT top2 k2=>?_⟩
   exact hR v2 h2 mT top2 fun b o z1 z2 e=>k2 b o z1 z2 (k1 b o z1 e)
theorem Sv (W : Walks prog w A.in1 I fp wr aL.size (fun i v => aL[i]? = some v) St) (hG : ∀ h h', Good h -> (∀ b o, b ∉ wr -> b ≠ S -> h.get? b = some o -> h'.get? b = some o) -> Good h')
  (hc:∀ i j vi vj (s:Shared),Good s.heap -> aL[i]? = some vi -> aL[j]? = some vj -> ∀ E Q,Q (.bool (bt i j)) s -> wpAny (model prog w) A.in1 (richCompare .Lt vi vj) Q E s) (lI:S ∉ fp) {s:Shared} {c:Nat} (dQ:St 0 s.heap) (hg:Good s.heap)
  (hS:s.heap.get? S = some { cls := .type "list",dict:=none,data := .seq #[] c,slots := #[] }) (hn:0 < aL.size)
  (hR:∀ v h' tk,aL[argBest bt (aL.size - 1)]? = some v -> (∀ b o,b ∉ wr -> b ≠ S -> s.heap.get? b = some o -> h'.get? b = some o) -> R (.ok (.ret v)) { s with heap:=h',toks:=tk }) :
  codeAny (model prog w) A (.builtin "min.loop" ⟨[.ref I,.none,.ref S],[]⟩) R s:=by
 have rO:S ∉ wr:=fun z=>lI (W.sub _ z)
 have nm:(toString "min" ++ toString ".loop" : String) = "min.loop" := by decide
 refine Pa ?_
 refine wpAny_bind ( wpAny_seqItems hS rfl ?_)
 show wpAny (model prog w) A.in1 (tryCatch (pyNext (.ref I)) _ >>= _) _ _ s
 refine wpAny_bind (wpAny_tryCatch (W.item 0 s _ _ hn dQ fun v h1 iC hP bN k1=>?_))
 have iG:=k1 S _ rO hS
 have jW:Good h1:=hG _ _ hg fun b o z1 _ e=>k1 b o z1 e
 show wpAny (model prog w) A.in1 (updateSeq S (fun _=>#[v,v]) >>= _) _ _ _
 refine wpAny_bind ?_
 refine wpAny_updateSeq iG rfl ?_
 rw [nm]
 refine wpAny_pure ⟨plainId_quiet F.plain_min_loop _,b7 W hG hc lI (aL.size - 1) 0 _ v _ (by omega) (W.frame _ _ _ bN fun b z o e=>?_) (hG _ _ jW fun b o z1 z2 e=>(Heap.get?_update_other _ _ (Ne.symm z2)).trans e) hP (Heap.get?_update_self _ iG rfl) fun v2 h2 mT top2 k2=>?_⟩
 ·exact (Heap.get?_update_other _ _ (fun y:S = b=>lI (by rw [y]; exact z))).trans e
 ·exact hR v2 h2 mT top2 fun b o z1 z2 e=>k2 b o z1 z2 ((Heap.get?_update_other _ _ (Ne.symm z2)).trans (k1 b o z1 e))
end
section
variable {prog:Program} {w:World} {A:Around} {R:Result -> Shared -> Prop} {I S:Addr} {fp wr:List Addr} {St:Nat -> Heap -> Prop} {aL:Array Value} {bt:Nat -> Nat -> Bool} {Good:Heap -> Prop}
theorem P9 {a : Args} {s : Shared} (h : wpAny (model prog w) A.in1 (Builtin.«max.loop» a) (fun fin s' => match fin with
   | .done f=>R (.ok f) s'
   | .again c'=>c'.quiet = true /\ codeAny (model prog w) A c' R s') (fun e s'=>R (.error e) s') s):codeAny (model prog w) A (.builtin "max.loop" a) R s:=by
 refine codeAny_builtin F.entry_max_loop ?_; rw [Around.under_plainId F.plain_max_loop _]
 exact h
theorem b6 (W : Walks prog w A.in1 I fp wr aL.size (fun i v => aL[i]? = some v) St) (hG : ∀ h h', Good h -> (∀ b o, b ∉ wr -> b ≠ S -> h.get? b = some o -> h'.get? b = some o) -> Good h')
  (hc:∀ i j vi vj (s:Shared),Good s.heap -> aL[i]? = some vi -> aL[j]? = some vj -> ∀ E Q,Q (.bool (bt i j)) s -> wpAny (model prog w) A.in1 (richCompare .Gt vi vj) Q E s) (lI:S ∉ fp) :
  ∀ (k j:Nat) (s:Shared) (vb:Value) (c:Nat),aL.size = j + 1 + k -> St (j + 1) s.heap -> Good s.heap -> aL[argBest bt j]? = some vb ->
  s.heap.get? S = some { cls := .type "list",dict:=none,data := .seq #[vb,vb] c,slots := #[] } ->
  (∀ v h' tk,aL[argBest bt (aL.size - 1)]? = some v -> (∀ b o,b ∉ wr -> b ≠ S -> s.heap.get? b = some o -> h'.get? b = some o) -> R (.ok (.ret v)) { s with heap:=h',toks:=tk }) ->
  codeAny (model prog w) A (.builtin "max.loop" ⟨[.ref I,.none,.ref S],[]⟩) R s:=by
 have rO:S ∉ wr:=fun z=>lI (W.sub _ z)
 have nm:(toString "max" ++ toString ".loop" : String) = "max.loop" := by decide
 intro k
 induction k with
 | zero =>
  intro j s vb c hk dQ hg mS hS hR
  refine P9 ?_
  refine wpAny_bind ( wpAny_seqItems hS rfl ?_)
  show wpAny (model prog w) A.in1 (tryCatch (pyNext (.ref I)) _ >>= _) _ _ s
  have ej:j + 1 = aL.size:=by omega
  refine wpAny_bind (wpAny_tryCatch (W.done s _ _ (ej ▸ dQ) fun h1 iC k1=>?_))
  have iG:=k1 S _ rO hS
  show wpAny (model prog w) A.in1 (updateSeq S (fun _=>#[]) >>= _) _ _ _
  refine wpAny_bind ?_
  refine wpAny_updateSeq iG rfl (wpAny_bind (wpAny_letGo (wpAny_pure ?_)))
  have e2:aL.size - 1 = j:=by omega
  exact hR vb _ iC (by rw [e2]; exact mS) fun b o z1 z2 e=>(Heap.get?_update_other _ _ (Ne.symm z2)).trans (k1 b o z1 e)
 | succ k ih =>
  intro j s vb c hk dQ hg mS hS hR
  refine P9 ?_
  refine wpAny_bind ( wpAny_seqItems hS rfl ?_)
  show wpAny (model prog w) A.in1 (tryCatch (pyNext (.ref I)) _ >>= _) _ _ s
  refine wpAny_bind (wpAny_tryCatch (W.item (j + 1) s _ _ (by omega) dQ fun v h1 iC hP bN k1=>?_))
  have iG:=k1 S _ rO hS
  have jW:Good h1:=hG _ _ hg fun b o z1 _ e=>k1 b o z1 e
  refine wpAny_bind (wpAny_pure ?_)
  refine wpAny_bind (wpAny_tryCatch (wpAny_holding (wpAny_bind ?_)))
  refine hc (j + 1) (argBest bt j) v vb { s with heap:=h1,toks:=iC } jW hP mS _ _ ?_
  refine wpAny_bind (wpAny_holding (wpAny_truthy_bool ?_))
  refine wpAny_bind (wpAny_letGo (wpAny_pure ?_))
  have eb:=Dz bt j
  cases hb:bt (j + 1) (argBest bt j) with
  | true =>
   rw [hb,if_pos rfl] at eb
   simp only [if_true]
   refine wpAny_bind ?_
   refine wpAny_updateSeq iG rfl (wpAny_bind (wpAny_letGo ?_))
   rw [nm]
   refine wpAny_pure ⟨plainId_quiet F.plain_max_loop _,ih (j + 1) _ v _ (by omega) (W.frame _ _ _ bN fun b z o e=>?_) (hG _ _ jW fun b o z1 z2 e=>(Heap.get?_update_other _ _ (Ne.symm z2)).trans e) (by rw [eb]; exact hP) (Heap.get?_update_self _ iG rfl) fun v2 h2 mT top2 k2=>?_⟩
   ·exact (Heap.get?_update_other _ _ (fun y:S = b=>lI (by rw [y]; exact z))).trans e
   ·exact hR v2 h2 mT top2 fun b o z1 z2 e=>k2 b o z1 z2 ((Heap.get?_update_other _ _ (Ne.symm z2)).trans (k1 b o z1 e))
  | false =>
   rw [hb,if_neg Bool.false_ne_true] at eb
   simp only [Bool.false_eq_true,if_false]
   refine wpAny_bind (wpAny_letGo ?_)
   rw [nm]
   refine wpAny_pure ⟨plainId_quiet F.plain_max_loop _,ih (j + 1) _ vb c (by omega) bN jW (by rw [eb]; exact mS) iG fun v2 h2 mT top2 k2=>?_⟩
   exact hR v2 h2 mT top2 fun b o z1 z2 e=>k2 b o z1 z2 (k1 b o z1 e)
theorem Su (W : Walks prog w A.in1 I fp wr aL.size (fun i v => aL[i]? = some v) St) (hG : ∀ h h', Good h -> (∀ b o, b ∉ wr -> b ≠ S -> h.get? b = some o -> h'.get? b = some o) -> Good h')
  (hc:∀ i j vi vj (s:Shared),Good s.heap -> aL[i]? = some vi -> aL[j]? = some vj -> ∀ E Q,Q (.bool (bt i j)) s -> wpAny (model prog w) A.in1 (richCompare .Gt vi vj) Q E s) (lI:S ∉ fp) {s:Shared} {c:Nat} (dQ:St 0 s.heap) (hg:Good s.heap)
  (hS:s.heap.get? S = some { cls := .type "list",dict:=none,data := .seq #[] c,slots := #[] }) (hn:0 < aL.size)
  (hR:∀ v h' tk,aL[argBest bt (aL.size - 1)]? = some v -> (∀ b o,b ∉ wr -> b ≠ S -> s.heap.get? b = some o -> h'.get? b = some o) -> R (.ok (.ret v)) { s with heap:=h',toks:=tk }) :
  codeAny (model prog w) A (.builtin "max.loop" ⟨[.ref I,.none,.ref S],[]⟩) R s:=by
 have rO:S ∉ wr:=fun z=>lI (W.sub _ z)
 have nm:(toString "max" ++ toString ".loop" : String) = "max.loop" := by decide
 refine P9 ?_
 refine wpAny_bind ( wpAny_seqItems hS rfl ?_)
 show wpAny (model prog w) A.in1 (tryCatch (pyNext (.ref I)) _ >>= _) _ _ s
 refine wpAny_bind (wpAny_tryCatch (W.item 0 s _ _ hn dQ fun v h1 iC hP bN k1=>?_))
 have iG:=k1 S _ rO hS
 have jW:Good h1:=hG _ _ hg fun b o z1 _ e=>k1 b o z1 e
 show wpAny (model prog w) A.in1 (updateSeq S (fun _=>#[v,v]) >>= _) _ _ _
 refine wpAny_bind ?_
 refine wpAny_updateSeq iG rfl ?_
 rw [nm]
 refine wpAny_pure ⟨plainId_quiet F.plain_max_loop _,b6 W hG hc lI (aL.size - 1) 0 _ v _ (by omega) (W.frame _ _ _ bN fun b z o e=>?_) (hG _ _ jW fun b o z1 z2 e=>(Heap.get?_update_other _ _ (Ne.symm z2)).trans e) hP (Heap.get?_update_self _ iG rfl) fun v2 h2 mT top2 k2=>?_⟩
 ·exact (Heap.get?_update_other _ _ (fun y:S = b=>lI (by rw [y]; exact z))).trans e
 ·exact hR v2 h2 mT top2 fun b o z1 z2 e=>k2 b o z1 z2 ((Heap.get?_update_other _ _ (Ne.symm z2)).trans (k1 b o z1 e))
end
open PySem PySem.Spec PyProof.Rows PySem.SeqAt
theorem J6 {H:Hp}:∀ {ds:List PyData} {us:List V} {i:Nat} {d:PyData},aN H ds us -> ds[i]? = some d -> ∃ u,us[i]? = some u /\ Rp H d u
 | [],_,i,d,_,e=>by simp at e
 | x :: ds,us,0,d,h,e=>by
  unfold aN at h
  obtain ⟨u,jE,rfl,h1,_⟩ := h
  cases e
  exact ⟨u,rfl,h1⟩
 | x :: ds,us,i + 1,d,h,e=>by
  unfold aN at h
  obtain ⟨u,jE,rfl,_,h2⟩ := h
  obtain ⟨u2,e1,e2⟩ := J6 (i:=i) h2 (by simpa using e)
  exact ⟨u2,by simpa using e1,e2⟩
theorem F4 {H:Hp}:∀ {ds:List PyData} {us:List V},aN H ds us -> us.length = ds.length
 | [],us,h=>by
  unfold aN at h
  rw [h]
  rfl
 | x :: ds,us,h=>by
  unfold aN at h
  obtain ⟨u,jE,rfl,_,h2⟩ := h
  rw [List.length_cons,List.length_cons,F4 h2]
theorem Im {xs:List V} {us:List Value} {i:Nat} {u:Value} (r:Az xs us) (h:us[i]? = some u):∃ x,xs[i]? = some x /\ Aw x u:=by
 have hi:=(List.getElem?_eq_some_iff.mp h).1
 have hl:=r.length
 obtain ⟨u2,e1,e2⟩ := r.get (List.getElem?_eq_getElem (show i < xs.length by omega))
 rw [h] at e1
 cases e1
 exact ⟨_,List.getElem?_eq_getElem (by omega),e2⟩
section
variable {X:Cx} {k:Nat}
theorem W2 (a:Value):argsOk "min" ⟨[a],[]⟩ := by
 unfold argsOk
 kernel_rfl
def Jv (ds:List PyData):Nat:=argBest (fun i j=>Hz (ds.getD i .none) (ds.getD j .none)) (ds.length - 1)
theorem dq {pins : List (Addr × Obj)} {s : Shared} {σ : St} {H : Hp} {us : List V} {aL : List Value} {ds : List PyData} (hr : Ct k X.A) (I : Ag X pins σ H s) (rv : Az us aL) (hd : aN H ds us) (mC : ∀ d ∈ ds, ∀ e ∈ ds, Gr d e) (vW : ∀ d ∈ ds, d.depth <= 50) (i j : Nat) (vi vj : Value) (s' : Shared)
  (hk:∀ b o,s.heap.get? b = some o -> s'.heap.get? b = some o) (h1:aL.toArray[i]? = some vi) (h2:aL.toArray[j]? = some vj) (E Q:Value -> Shared -> Prop) (q:Q (.bool (Hz (ds.getD i .none) (ds.getD j .none))) s'):wpAny (model X.prog X.w) X.A.in1 (richCompare .Lt vi vj) Q E s':=by
 have hl:=F4 hd
 have get:∀ (m:Nat) (vm:Value),aL.toArray[m]? = some vm -> ∃ x,Aw x vm /\ Rp H (ds.getD m .none) x /\ ds.getD m .none ∈ ds:=fun m vm h=>by
  obtain ⟨x,e1,e2⟩ := Im rv (by simpa using h)
  have hm:m < ds.length:=by
   have:=(List.getElem?_eq_some_iff.mp e1).1
   omega
  have e3:ds[m]? = some (ds.getD m .none):=by
   rw [List.getD_eq_getElem?_getD,List.getElem?_eq_getElem hm]
   rfl
  obtain ⟨x2,f1,f2⟩ := J6 hd e3
  rw [e1] at f1
  cases f1
  exact ⟨x,e2,f2,List.mem_of_getElem? e3⟩
 obtain ⟨x,rx,px,mx⟩ := get i vi h1
 obtain ⟨y,ry,py,my⟩ := get j vj h2
 have I':Ag X pins σ H { s with heap:=s'.heap,toks:=s'.toks }:=I.kept (t':=s'.toks) hk
 obtain ⟨as,q1⟩ := Cz I' _ x vi px rx
 obtain ⟨bs,q2⟩ := Cz I' _ y vj py ry
 have hu:=hr.units
 have d1:=vW _ mx
 exact Ky _ _ X.A.in1 s' vi vj as bs q1 q2 (D1 _ x px) (D1 _ y py) (mC _ mx _ my) (by show X.A.units + 1 + _ < _; omega) _ _ _ _ q
def lm (K:PySem.W.Frag):List V -> Hp -> VK -> Prop:=fun xs H Q=>∃ (p:Addr) (us:List V) (ds:List PyData),xs = [.ref p] /\ B9 K H p us /\ aN H ds us /\ 0 < us.length /\ (∀ d ∈ ds,∀ e ∈ ds,Gr d e) /\ (∀ d ∈ ds,d.depth <= 50) /\ ∀ v,us[Jv ds]? = some v -> Q v H
theorem Vd (K:PySem.W.Frag) (hr:Ct k X.A) (hc:X.calm = true) (hK:X.K = K:=by rfl):Dt X (.builtin "min") (lm K):=by
 subst hK
 intro pins s σ H xs OS Q I r h
 obtain ⟨p,us,ds,rfl,hq,hd,fA,mC,vW,q⟩ := h
 obtain ⟨u,rfl,rx⟩ := Rm r
 cases rx
 obtain ⟨aL,rv,pl,hz⟩ := I.list hq
 have hl:=F4 hd
 have hil:=rv.length
 have nm:(toString "min" ++ toString ".loop" : String) = "min.loop" := by decide
 refine N1 (args:=⟨[.ref p],[]⟩) F.kind_min F.plain_min F.entry_min (W2 _) ?_
 show wpAny (model X.prog X.w) X.A.in1 (Builtin.Builtins.bindParams "min" ["key","default"] 0 ⟨[],[]⟩ >>= _) _ _ s
 refine wpAny_bind (wpAny_of_eq (show Builtin.Builtins.bindParams "min" ["key","default"] 0 ⟨[],[]⟩ = pure [none,none] from ?_) ?_)
 ·kernel_rfl
 refine wpAny_bind (wpAny_pure ?_)
 refine wpAny_bind (wpAny_pyIter_list pl.isList ?_)
 refine wpAny_bind (wpAny_newObj_type ?_)
 rw [nm]
 refine wpAny_pure ⟨plainId_quiet F.plain_min_loop _,?_⟩
 have mU:p < s.heap.objs.size:=pl.lt
 have W:=Walks.list (prog:=X.prog) (w:=X.w) (A:=X.A.in1) (I.ok.hd hc) s.heap.objs.size p (Nat.ne_of_lt mU) aL.toArray
 have hsz:(s.heap.push { cls := .type "list_iterator",data := .fields #[.ref p,.int 0 0] }).objs.size = s.heap.objs.size + 1:=by simp [Heap.push]
 refine Sv (S:=(s.heap.push { cls := .type "list_iterator",data := .fields #[.ref p,.int 0 0] }).objs.size) (bt:=fun i j=>Hz (ds.getD i .none) (ds.getD j .none)) (Good:=fun h=>∀ b o,s.heap.get? b = some o -> h.get? b = some o) W (fun h h' g kk b o e=>kk b o ?_ ?_ (g b o e)) (fun i j vi vj s' g h1 h2 E Q' q'=>dq hr I rv hd mC vW i j vi vj s' g h1 h2 E Q' q') ?_ ⟨⟨_,Heap.get?_push_of_some _ (Heap.get?_push_size _ rfl),rfl,rfl⟩,?_⟩ (fun b o e=>Heap.get?_push_of_some _ (Heap.get?_push_of_some _ e)) (Heap.get?_push_size _ rfl) (by simp; omega) (fun v h' tk e kk=>?_)
 ·exact fun z=>Nat.ne_of_lt (Heap.lt_size e) (by simpa using z)
 ·rw [hsz]
  exact Nat.ne_of_lt (Nat.lt_succ_of_lt (Heap.lt_size e))
 ·rw [hsz]
  intro z
  have z':s.heap.objs.size + 1 = s.heap.objs.size \/ s.heap.objs.size + 1 = p:=by simpa using z
  rcases z' with z' | z'
  ·exact Nat.succ_ne_self _ z'
  ·exact Nat.lt_irrefl _ (Nat.lt_trans (Nat.lt_succ_self _) (z'.symm ▸ mU:s.heap.objs.size + 1 < s.heap.objs.size))
 ·obtain ⟨o,ho,r1⟩ := pl.isList
  exact ⟨o,Heap.get?_push_of_some _ (Heap.get?_push_of_some _ ho),r1⟩
 ·have OV : aL.toArray.size - 1 = ds.length - 1 := by
   simp
   omega
  rw [OV] at e
  obtain ⟨x,e1,e2⟩ := Im rv (by simpa using e)
  refine ⟨x,H,I.kept (t':=tk) (fun b o z=>kk b o ?_ ?_ (Heap.get?_push_of_some _ (Heap.get?_push_of_some _ z))),e2,q x e1⟩
  ·exact fun y=>Nat.ne_of_lt (Heap.lt_size z) (by simpa using y)
  ·rw [hsz]
   exact Nat.ne_of_lt (Nat.lt_succ_of_lt (Heap.lt_size z))
def rn:List V -> Hp -> VK -> Prop:=fun xs H Q=>∃ (x y:V) (d e:PyData),xs = [x,y] /\ Rp H d x /\ Rp H e y /\ (∀ a ∈ [d,e],∀ b ∈ [d,e],Gr a b) /\ d.depth <= 50 /\ e.depth <= 50 /\ Q (if Hz e d = true then y else x) H
end
section
variable {X:Cx} {k:Nat}
theorem W1 (a:Value):argsOk "max" ⟨[a],[]⟩ := by
 unfold argsOk
 kernel_rfl
def Di (ds:List PyData):Nat:=argBest (fun i j=>Vo (ds.getD i .none) (ds.getD j .none)) (ds.length - 1)
theorem dn {pins : List (Addr × Obj)} {s : Shared} {σ : St} {H : Hp} {us : List V} {aL : List Value} {ds : List PyData} (hr : Ct k X.A) (I : Ag X pins σ H s) (rv : Az us aL) (hd : aN H ds us) (mC : ∀ d ∈ ds, ∀ e ∈ ds, Gr d e) (vW : ∀ d ∈ ds, d.depth <= 50) (i j : Nat) (vi vj : Value) (s' : Shared)
  (hk:∀ b o,s.heap.get? b = some o -> s'.heap.get? b = some o) (h1:aL.toArray[i]? = some vi) (h2:aL.toArray[j]? = some vj) (E Q:Value -> Shared -> Prop) (q:Q (.bool (Vo (ds.getD i .none) (ds.getD j .none))) s'):wpAny (model X.prog X.w) X.A.in1 (richCompare .Gt vi vj) Q E s':=by
 have hl:=F4 hd
 have get:∀ (m:Nat) (vm:Value),aL.toArray[m]? = some vm -> ∃ x,Aw x vm /\ Rp H (ds.getD m .none) x /\ ds.getD m .none ∈ ds:=fun m vm h=>by
  obtain ⟨x,e1,e2⟩ := Im rv (by simpa using h)
  have hm:m < ds.length:=by
   have:=(List.getElem?_eq_some_iff.mp e1).1
   omega
  have e3:ds[m]? = some (ds.getD m .none):=by
   rw [List.getD_eq_getElem?_getD,List.getElem?_eq_getElem hm]
   rfl
  obtain ⟨x2,f1,f2⟩ := J6 hd e3
  rw [e1] at f1
  cases f1
  exact ⟨x,e2,f2,List.mem_of_getElem? e3⟩
 obtain ⟨x,rx,px,mx⟩ := get i vi h1
 obtain ⟨y,ry,py,my⟩ := get j vj h2
 have I':Ag X pins σ H { s with heap:=s'.heap,toks:=s'.toks }:=I.kept (t':=s'.toks) hk
 obtain ⟨as,q1⟩ := Cz I' _ x vi px rx
 obtain ⟨bs,q2⟩ := Cz I' _ y vj py ry
 have hu:=hr.units
 have d1:=vW _ mx
 exact Qo _ _ X.A.in1 s' vi vj as bs q1 q2 (D1 _ x px) (D1 _ y py) (mC _ mx _ my) (by show X.A.units + 1 + _ < _; omega) _ _ _ _ q
def ll (K:PySem.W.Frag):List V -> Hp -> VK -> Prop:=fun xs H Q=>∃ (p:Addr) (us:List V) (ds:List PyData),xs = [.ref p] /\ B9 K H p us /\ aN H ds us /\ 0 < us.length /\ (∀ d ∈ ds,∀ e ∈ ds,Gr d e) /\ (∀ d ∈ ds,d.depth <= 50) /\ ∀ v,us[Di ds]? = some v -> Q v H
theorem Vb (K:PySem.W.Frag) (hr:Ct k X.A) (hc:X.calm = true) (hK:X.K = K:=by rfl):Dt X (.builtin "max") (ll K):=by
 subst hK
 intro pins s σ H xs OS Q I r h
 obtain ⟨p,us,ds,rfl,hq,hd,fA,mC,vW,q⟩ := h
 obtain ⟨u,rfl,rx⟩ := Rm r
 cases rx
 obtain ⟨aL,rv,pl,hz⟩ := I.list hq
 have hl:=F4 hd
 have hil:=rv.length
 have nm:(toString "max" ++ toString ".loop" : String) = "max.loop" := by decide
 refine N1 (args:=⟨[.ref p],[]⟩) F.kind_max F.plain_max F.entry_max (W1 _) ?_
 show wpAny (model X.prog X.w) X.A.in1 (Builtin.Builtins.bindParams "max" ["key","default"] 0 ⟨[],[]⟩ >>= _) _ _ s
 refine wpAny_bind (wpAny_of_eq (show Builtin.Builtins.bindParams "max" ["key","default"] 0 ⟨[],[]⟩ = pure [none,none] from ?_) ?_)
 ·kernel_rfl
 refine wpAny_bind (wpAny_pure ?_)
 refine wpAny_bind (wpAny_pyIter_list pl.isList ?_)
 refine wpAny_bind (wpAny_newObj_type ?_)
 rw [nm]
 refine wpAny_pure ⟨plainId_quiet F.plain_max_loop _,?_⟩
 have mU:p < s.heap.objs.size:=pl.lt
 have W:=Walks.list (prog:=X.prog) (w:=X.w) (A:=X.A.in1) (I.ok.hd hc) s.heap.objs.size p (Nat.ne_of_lt mU) aL.toArray
 have hsz:(s.heap.push { cls := .type "list_iterator",data := .fields #[.ref p,.int 0 0] }).objs.size = s.heap.objs.size + 1:=by simp [Heap.push]
 refine Su (S:=(s.heap.push { cls := .type "list_iterator",data := .fields #[.ref p,.int 0 0] }).objs.size) (bt:=fun i j=>Vo (ds.getD i .none) (ds.getD j .none)) (Good:=fun h=>∀ b o,s.heap.get? b = some o -> h.get? b = some o) W (fun h h' g kk b o e=>kk b o ?_ ?_ (g b o e)) (fun i j vi vj s' g h1 h2 E Q' q'=>dn hr I rv hd mC vW i j vi vj s' g h1 h2 E Q' q') ?_ ⟨⟨_,Heap.get?_push_of_some _ (Heap.get?_push_size _ rfl),rfl,rfl⟩,?_⟩ (fun b o e=>Heap.get?_push_of_some _ (Heap.get?_push_of_some _ e)) (Heap.get?_push_size _ rfl) (by simp; omega) (fun v h' tk e kk=>?_)
 ·exact fun z=>Nat.ne_of_lt (Heap.lt_size e) (by simpa using z)
 ·rw [hsz]
  exact Nat.ne_of_lt (Nat.lt_succ_of_lt (Heap.lt_size e))
 ·rw [hsz]
  intro z
  have z':s.heap.objs.size + 1 = s.heap.objs.size \/ s.heap.objs.size + 1 = p:=by simpa using z
  rcases z' with z' | z'
  ·exact Nat.succ_ne_self _ z'
  ·exact Nat.lt_irrefl _ (Nat.lt_trans (Nat.lt_succ_self _) (z'.symm ▸ mU:s.heap.objs.size + 1 < s.heap.objs.size))
 ·obtain ⟨o,ho,r1⟩ := pl.isList
  exact ⟨o,Heap.get?_push_of_some _ (Heap.get?_push_of_some _ ho),r1⟩
 ·have OV : aL.toArray.size - 1 = ds.length - 1 := by
   simp
   omega
  rw [OV] at e
  obtain ⟨x,e1,e2⟩ := Im rv (by simpa using e)
  refine ⟨x,H,I.kept (t':=tk) (fun b o z=>kk b o ?_ ?_ (Heap.get?_push_of_some _ (Heap.get?_push_of_some _ z))),e2,q x e1⟩
  ·exact fun y=>Nat.ne_of_lt (Heap.lt_size z) (by simpa using y)
  ·rw [hsz]
   exact Nat.ne_of_lt (Nat.lt_succ_of_lt (Heap.lt_size z))
def rm:List V -> Hp -> VK -> Prop:=fun xs H Q=>∃ (x y:V) (d e:PyData),xs = [x,y] /\ Rp H d x /\ Rp H e y /\ (∀ a ∈ [d,e],∀ b ∈ [d,e],Gr a b) /\ d.depth <= 50 /\ e.depth <= 50 /\ Q (if Vo e d = true then y else x) H
end
section
variable {prog:Program} {w:World} {K:Type} [DecidableEq K] {knd:HeapKind prog w K} {A:Around} {E:Value -> Shared -> Prop} {s:Shared} {d:Addr} {xs:List (K × Addr × Value)}
end
section
variable {X:Cx}
end
section
variable {X:Cx} {pos:Pos} {ke ve:Expr} {tk tv:TE}
def qd (tk tv:TE):TE:=fun σ H Q=>∀ p,H p = none -> Pq [(tk,tv)] σ (upd H p (.dT [])) fun ps H2=>H2 p = some (.dT []) /\ ∃ b k y,ps = [(.ref b,y)] /\ E9 H2 b k /\ Q (.ref p) (upd H2 p (.dT [(k,y)]))
end
section
variable {P:Program} {w:World} {A:Around} {E:Value -> Shared -> Prop} {s:Shared}
end
section
variable {X:Cx}
def pe (P:Program) (w:World):List V -> Hp -> VK -> Prop:=fun xs H Q=>∃ (D:Addr) (kvs:List ((List Int × Int) × V)),xs = [.ref D] /\ H D = some (.dT kvs) /\ (kvs.map fun kv=>Go P w kv.1).Nodup /\ ∀ d,H d = none -> Q (.ref d) (upd H d (.dT kvs))
end
section
variable {X:Cx} {pins:List (Addr × Obj)} {σ:St} {H:Hp} {s:Shared} {k:Nat}
theorem Qt (I:Ag X pins σ H s) {d:PyData}:∀ {ds:List PyData} {vs:List V} {us:List Value},aN H ds vs -> Az vs us -> ds.length = us.length /\ ∀ (m:Nat) (w:Value) (e:PyData),us[m]? = some w -> ds[m]? = some e -> Fn s.heap d w = PyData.eqv e d
 | [],vs,us,h,r=>by
  unfold aN at h
  subst h
  cases r
  exact ⟨rfl,fun m w e z=>by simp at z⟩
 | e :: ds,vs,us,h,r=>by
  unfold aN at h
  obtain ⟨x,xs,rfl,h1,h2⟩ := h
  cases r with
  | cons r1 r2 =>
   obtain ⟨as,q⟩ := Gn I h1 r1
   obtain ⟨l,ih⟩ := Qt I h2 r2
   refine ⟨by rw [List.length_cons,List.length_cons,l],fun m w e' z1 z2=>?_⟩
   cases m with
   | zero =>
    rw [List.getElem?_cons_zero] at z1 z2
    cases z1
    cases z2
    exact Kw q (D1 e x h1)
   | succ m =>
    rw [List.getElem?_cons_succ] at z1 z2
    exact ih m w e' z1 z2
def ba (K:PySem.W.Frag):V -> List V -> Hp -> VK -> Prop:=fun x vs H Q=>∃ (l:Addr) (us:List V) (y:V) (d:PyData) (ds:List PyData) (j:Nat),x = .ref l /\ vs = [y] /\ B9 K H l us /\ Rp H d y /\ aN H ds us /\ d.depth <= 50 /\ (∃ e,ds[j]? = some e /\ PyData.eqv e d = true) /\ (∀ m e,m < j -> ds[m]? = some e -> PyData.eqv e d = false) /\ Q (.int (j:Nat)) H
theorem W3 (hr:Ct k X.A):dc X "list.index" (ba X.K):=by
 intro pins s σ H x vs v us Q I rx rv h
 obtain ⟨l,ys,y,d,ds,j,rfl,rfl,hq,hy,hall,hdep,⟨e0,hj,OW⟩,qV,q⟩ := h
 cases rx
 obtain ⟨u,rfl,ru⟩ := rv.one
 obtain ⟨aL,r,pl,hz⟩ := I.list hq
 obtain ⟨⟨oc,od,OL,iA⟩,n,e,hc,hd,hs⟩ := pl
 obtain rfl:oc = .type "list" := hc
 obtain rfl:OL = .seq aL.toArray n:=hs
 have hlen:=r.length
 have hu:=hr.units
 obtain ⟨lY,jD⟩ := Qt (d:=d) I hall r
 have hjn:j < ds.length:=(List.getElem?_eq_some_iff.mp hj).1
 have h63:=He
 refine call_meets F.slot_list_index ⟨_,e,rfl⟩ F.entry_list_index (F.args_list_index_2 _ _) (PySem.SeqAt.list_indexAt l aL.toArray n od iA u (Fn s.heap d) j (by rw [List.size_toArray]; omega) ?_ ?_ ?_) ⟨e,fun z hz'=>?_,?_⟩
 ·omega
 ·have MB:j < aL.length:=by omega
  have e1:aL.toArray[j]'(by rw [List.size_toArray]; omega) = aL[j]:=by simp
  rw [e1,jD j aL[j] e0 (List.getElem?_eq_getElem MB) hj]
  exact OW
 ·intro m hm hmj
  rw [List.size_toArray] at hm
  have e1:aL.toArray[m]'(by rw [List.size_toArray]; omega) = aL[m]:=by simp
  rw [e1,jD m aL[m] ds[m] (List.getElem?_eq_getElem hm) (List.getElem?_eq_getElem (by omega))]
  exact qV m _ hmj (List.getElem?_eq_getElem (by omega))
 ·exact Ib I hy ru (by show X.A.units + 1 + d.depth < cLine; omega) hall r z (by simpa using hz')
 ·exact ⟨.int (j:Nat),H,I.tok _,⟨_,rfl⟩,q⟩
end
def nn:Expr -> Bool
 | .Starred _ _=>false
 | _=>true
section
variable {X:Cx} {e:Expr} {es:List Expr} {te:TE} {t:TA}
theorem Dx {u u':TE} (h:PE X e u) (hu:u = u':=by rfl):PE X e u':=hu ▸ h
theorem Dm {tg:Expr} {w w':TI} (h:PI X tg e w) (hw:w = w':=by rfl):PI X tg e w':=hw ▸ h
def lv (K:PySem.W.Frag):List V -> Hp -> VK -> Prop:=fun xs H Q=>∃ p ys,xs = [.ref p] /\ ((B9 K H p ys /\ ∀ l,H l = none -> Q (.ref l) (upd H l (.tup ys))) \/ (Cj K H p ys /\ Q (.ref p) H))
theorem D6 (K:PySem.W.Frag) (hK:X.K = K:=by rfl):Dt X (.type "tuple") (lv K):=by
 subst hK
 exact Md
end
def Hv:Bool -> Keyed -> Array Keyed -> Nat -> Nat -> Nat -> StateT SortSt Sem (Option Nat):=sortPriv% PySem.Builtin.gallop
def Xq:Array Keyed -> Array Keyed -> StateT SortSt Sem (Array Keyed):=sortPriv% PySem.Builtin.mergeLo
def Xp:Array Keyed -> Array Keyed -> StateT SortSt Sem (Array Keyed):=sortPriv% PySem.Builtin.mergeHi
def fa (f:Keyed -> Nat) (a:Array Keyed) (i:Nat):Nat:=match a[i]? with
 | some p=>f p
 | none=>0
theorem Av {f:Keyed -> Nat} {a:Array Keyed} {i:Nat} {p:Keyed} (h:a[i]? = some p):fa f a i = f p:=by unfold fa; rw [h]
theorem E3 {f:Keyed -> Nat} {a b:Array Keyed} {i j:Nat} (h:a[i]? = b[j]?):fa f a i = fa f b j:=by unfold fa; rw [h]
def Hj (f:Keyed -> Nat) (a:Array Keyed) (lo hi:Nat):Prop := ∀ i j,lo <= i -> i <= j -> j < hi -> fa f a i <= fa f a j
section
variable {prog:Program} {w:World} {A:Around} {E:Value -> Shared -> Prop} {s:Shared} {κ:SortKind} {f:Keyed -> Nat} {a₀:Array Keyed} {st:SortSt}
def Hm (prog:Program) (w:World) (A:Around) (s:Shared) (κ:SortKind) (f:Keyed -> Nat) (a₀:Array Keyed):Prop := ∀ x y,x ∈ a₀ -> y ∈ a₀ -> ∀ (Q:Bool -> Shared -> Prop) (E:Value -> Shared -> Prop),Q (decide (f x < f y)) s -> wpAny (model prog w) A (keyLt' κ x.1 y.1) Q E s
structure Bs (κ:SortKind) (a₀:Array Keyed) (st:SortSt):Prop where
 perm:(arrOf st).Perm a₀
 kind:kindOf st = κ
 failed:failedOf st = none
theorem Bs.size (h:Bs κ a₀ st):(arrOf st).size = a₀.size:=h.perm.size_eq
theorem Bs.mem (h:Bs κ a₀ st) {i:Nat} {p:Keyed} (e:(arrOf st)[i]? = some p):p ∈ a₀:=h.perm.mem_iff.mp (Array.mem_of_getElem? e)
theorem M8 (hA:Hm prog w A s κ f a₀) (hk:kindOf st = κ) {x y:Keyed} (hx:x ∈ a₀) (hy:y ∈ a₀) {Q:Option Bool -> SortSt -> Prop} (h:Q (some (decide (f x < f y))) st):wpS (model prog w) A E s (lt' x y) Q st:=by
 rw [lt'_eq]
 refine wpS_bind (wpS_get ?_)
 rw [hk]
 refine wpS_bind (wpS_lift (wpAny_attempt (hA x y hx hy _ _ ⟨rfl,?_⟩)))
 exact wpS_pure h
theorem Bd {a:Array Keyed} {i:Nat} {p:Keyed} (e:a[i]? = some p) {Q:Keyed -> SortSt -> Prop} (h:Q p st):wpS (model prog w) A E s (elem' a i) Q st:=by
 rw [elem'_eq,e]
 exact wpS_pure h
theorem C4 {a:Array Keyed} {i:Nat} (h:i < a.size):∃ p,a[i]? = some p:=⟨a[i],getElem?_pos a i h⟩
theorem Gq (hA:Hm prog w A s κ f a₀) (hB:Bs κ a₀ st) {i j:Nat} (hi:i < a₀.size) (hj:j < a₀.size) {Q:Option Bool -> SortSt -> Prop} (h:Q (some (decide (fa f (arrOf st) i < fa f (arrOf st) j))) st):wpS (model prog w) A E s (ltAt' i j) Q st:=by
 obtain ⟨p,ep⟩ := C4 (a:=arrOf st) (i:=i) (by rw [hB.size]; exact hi)
 obtain ⟨q,eq⟩ := C4 (a:=arrOf st) (i:=j) (by rw [hB.size]; exact hj)
 rw [Av ep,Av eq] at h
 rw [ltAt'_eq]
 refine wpS_bind (wpS_get ?_)
 exact wpS_bind (Bd ep (wpS_bind (Bd eq (M8 hA hB.kind (hB.mem ep) (hB.mem eq) h))))
theorem Tz (hA : Hm prog w A s κ f a₀) (hk : kindOf st = κ) {left : Bool} {key : Keyed} {arr : Array Keyed} {i : Nat} (fD : key ∈ a₀) (lJ : ∀ p, p ∈ arr -> p ∈ a₀) (hi : i < arr.size) {Q : Option Bool -> SortSt -> Prop}
  (h:Q (some (if left = true then decide (fa f arr i < f key) else !decide (f key < fa f arr i))) st):wpS (model prog w) A E s (elem' arr i >>= fun x=>if left = true then lt' x key else lt' key x >>= fun r=>pure (r.map fun b=>!b)) Q st:=by
 obtain ⟨p,ep⟩ := C4 hi
 rw [Av ep] at h
 refine wpS_bind (Bd ep ?_)
 have hp:=lJ p (Array.mem_of_getElem? ep)
 cases left with
 | true=>exact M8 hA hk hp fD h
 | false=>exact wpS_bind (M8 hA hk fD hp (wpS_pure h))
theorem Dg (hA : Hm prog w A s κ f a₀) (hk : kindOf st = κ) {left : Bool} {key : Keyed} {arr : Array Keyed} {base n hint : Nat} (fD : key ∈ a₀) (lJ : ∀ p, p ∈ arr -> p ∈ a₀) (hn : base + n <= arr.size) (hh : hint < n) (hs : Hj f arr base (base + n)) {Q : Option Nat -> SortSt -> Prop}
  (h:∀ k,k <= n -> (∀ i,i < k -> if left = true then fa f arr (base + i) < f key else fa f arr (base + i) <= f key) -> (∀ i,k <= i -> i < n -> if left = true then f key <= fa f arr (base + i) else f key < fa f arr (base + i)) -> Q (some k) st):wpS (model prog w) A E s (Hv left key arr base n hint) Q st:=by
 obtain ⟨P,hP⟩ : ∃ P:Nat -> Bool,∀ i,P i = if left = true then decide (fa f arr (base + i) < f key) else !decide (f key < fa f arr (base + i)):=⟨_,fun _=>rfl⟩
 have mono:∀ i j,i <= j -> j < n -> P j = true -> P i = true:=fun i j h1 h2 h3=>by
  have h4:=hs (base + i) (base + j) (by omega) (by omega) (by omega)
  rw [hP] at h3 ⊢
  cases left <;> simp at h3 ⊢ <;> omega
 have rP:∀ i j,i <= j -> j < n -> P i = false -> P j = false:=fun i j h1 h2 h3=>by
  cases e:P j with
  | false=>rfl
  | true=>rw [mono i j h1 h2 e] at h3; cases h3
 have ask:∀ i,i < n -> ∀ {Q':Option Bool -> SortSt -> Prop},Q' (some (P i)) st -> wpS (model prog w) A E s (elem' arr (base + i) >>= fun x=>if left = true then lt' x key else lt' key x >>= fun r=>pure (r.map fun b=>!b)) Q' st:=fun i hi Q' hq=>by
  rw [hP] at hq
  exact Tz hA hk fD lJ (by omega) hq
 have out:∀ k,k <= n -> (∀ i,i < k -> P i = true) -> (∀ i,k <= i -> i < n -> P i = false) -> Q (some k) st:=fun k h1 h2 h3=>by
  refine h k h1 (fun i hi=>?_) (fun i hi mD=>?_)
  ·have:=h2 i hi
   rw [hP] at this
   cases left <;> simp at this ⊢ <;> omega
  ·have:=h3 i hi mD
   rw [hP] at this
   cases left <;> simp at this ⊢ <;> omega
 refine wpS_bind (ask hint hh ?_)
 dsimp only
 cases hr:P hint with
 | true =>
  rw [if_pos rfl]
  refine wpS_bind (wpS_mono (wpS_forRange (I:=fun x c aO=>aO = st /\ ∃ l o,c = (none,l,o) /\ l < o /\ P (hint + l) = true /\ hint + l < n /\ x + 1 <= o) (Q:=fun c aO=>aO = st /\ ∃ l o,c = (none,l,o) /\ l < o /\ P (hint + l) = true /\ hint + l < n /\ (n - hint <= o \/ P (hint + o) = false)) ?_ ?_ ⟨rfl,0,1,rfl,by omega,hr,hh,by omega⟩) ?_)
  ·rintro x c aO _ hx ⟨rfl,l,o,rfl,h1,h2,h3,h4⟩
   dsimp only
   by_cases ho:o >= n - hint
   ·rw [if_pos ho]
    exact wpS_pure ⟨rfl,l,o,rfl,h1,h2,h3,.inl ho⟩
   ·rw [if_neg ho]
    refine wpS_bind (ask (hint + o) (by omega) ?_)
    dsimp only
    cases e:P (hint + o) with
    | false=>exact wpS_pure ⟨rfl,l,o,rfl,h1,h2,h3,.inr e⟩
    | true=>exact wpS_pure ⟨rfl,o,2 * o + 1,rfl,by omega,e,by omega,by omega⟩
  ·rintro c aO ⟨rfl,l,o,rfl,h1,h2,h3,h4⟩
   exact ⟨rfl,l,o,rfl,h1,h2,h3,.inl (by omega)⟩
  rintro c aO ⟨rfl,l,o,rfl,h1,h2,h3,h4⟩
  dsimp only
  refine wpS_bind (wpS_mono (wpS_forRange (I:=fun x c aU=>aU = aO /\ ∃ lo hi,c = (none,lo,hi) /\ lo <= hi /\ hi <= n /\ (∀ i,i < lo -> P i = true) /\ (∀ i,hi <= i -> i < n -> P i = false) /\ hi + x <= lo + n) (Q:=fun c aU=>aU = aO /\ ∃ k,c = (none,k,k) /\ k <= n /\ (∀ i,i < k -> P i = true) /\ (∀ i,k <= i -> i < n -> P i = false)) ?_ ?_ ⟨rfl,_,_,rfl,by omega,by omega,fun i hi=>?_,fun i hi mD=>?_,by omega⟩) ?_)
  ·rintro x c aU _ hx ⟨rfl,lo,hi,rfl,g1,g2,g3,g4,g5⟩
   dsimp only
   by_cases ho:lo >= hi
   ·rw [if_pos ho]
    obtain rfl:lo = hi:=by omega
    exact wpS_pure ⟨rfl,lo,rfl,g2,g3,g4⟩
   ·rw [if_neg ho]
    refine wpS_bind (ask (lo + (hi - lo) / 2) (by omega) ?_)
    dsimp only
    cases e:P (lo + (hi - lo) / 2) with
    | false =>
     refine wpS_pure ⟨rfl,lo,_,rfl,by omega,by omega,g3,fun i DZ mD=>rP _ i DZ mD e,by omega⟩
    | true =>
     refine wpS_pure ⟨rfl,_,hi,rfl,by omega,g2,fun i DZ=>mono i _ (by omega) (by omega) e,g4,by omega⟩
  ·rintro c aU ⟨rfl,lo,hi,rfl,g1,g2,g3,g4,g5⟩
   obtain rfl:lo = hi:=by omega
   exact ⟨rfl,lo,rfl,g2,g3,g4⟩
  ·exact mono i (hint + l) (by omega) h3 h2
  ·rcases h4 with h4 | h4
   ·omega
   ·by_cases z:n - hint <= o
    ·omega
    ·exact rP (hint + o) i (by omega) mD h4
  rintro c aU ⟨rfl,k,rfl,g1,g2,g3⟩
  dsimp only
  exact wpS_pure (out k g1 g2 g3)
 | false =>
  rw [if_neg (by decide)]
  refine wpS_bind (wpS_mono (wpS_forRange (I:=fun x c aO=>aO = st /\ ∃ l o,c = (none,l,o) /\ l < o /\ P (hint - l) = false /\ l <= hint /\ x + 1 <= o) (Q:=fun c aO=>aO = st /\ ∃ l o,c = (none,l,o) /\ l < o /\ P (hint - l) = false /\ l <= hint /\ (hint + 1 <= o \/ P (hint - o) = true)) ?_ ?_ ⟨rfl,0,1,rfl,by omega,hr,by omega,by omega⟩) ?_)
  ·rintro x c aO _ hx ⟨rfl,l,o,rfl,h1,h2,h3,h4⟩
   dsimp only
   by_cases ho:o >= hint + 1
   ·rw [if_pos ho]
    exact wpS_pure ⟨rfl,l,o,rfl,h1,h2,h3,.inl ho⟩
   ·rw [if_neg ho]
    refine wpS_bind (ask (hint - o) (by omega) ?_)
    dsimp only
    cases e:P (hint - o) with
    | true=>exact wpS_pure ⟨rfl,l,o,rfl,h1,h2,h3,.inr e⟩
    | false=>exact wpS_pure ⟨rfl,o,2 * o + 1,rfl,by omega,e,by omega,by omega⟩
  ·rintro c aO ⟨rfl,l,o,rfl,h1,h2,h3,h4⟩
   exact ⟨rfl,l,o,rfl,h1,h2,h3,.inl (by omega)⟩
  rintro c aO ⟨rfl,l,o,rfl,h1,h2,h3,h4⟩
  dsimp only
  refine wpS_bind (wpS_mono (wpS_forRange (I:=fun x c aU=>aU = aO /\ ∃ lo hi,c = (none,lo,hi) /\ lo <= hi /\ hi <= n /\ (∀ i,i < lo -> P i = true) /\ (∀ i,hi <= i -> i < n -> P i = false) /\ hi + x <= lo + n) (Q:=fun c aU=>aU = aO /\ ∃ k,c = (none,k,k) /\ k <= n /\ (∀ i,i < k -> P i = true) /\ (∀ i,k <= i -> i < n -> P i = false)) ?_ ?_ ⟨rfl,_,_,rfl,by omega,by omega,fun i hi=>?_,fun i hi mD=>?_,by omega⟩) ?_)
  ·rintro x c aU _ hx ⟨rfl,lo,hi,rfl,g1,g2,g3,g4,g5⟩
   dsimp only
   by_cases ho:lo >= hi
   ·rw [if_pos ho]
    obtain rfl:lo = hi:=by omega
    exact wpS_pure ⟨rfl,lo,rfl,g2,g3,g4⟩
   ·rw [if_neg ho]
    refine wpS_bind (ask (lo + (hi - lo) / 2) (by omega) ?_)
    dsimp only
    cases e:P (lo + (hi - lo) / 2) with
    | false =>
     refine wpS_pure ⟨rfl,lo,_,rfl,by omega,by omega,g3,fun i DZ mD=>rP _ i DZ mD e,by omega⟩
    | true =>
     refine wpS_pure ⟨rfl,_,hi,rfl,by omega,g2,fun i DZ=>mono i _ (by omega) (by omega) e,g4,by omega⟩
  ·rintro c aU ⟨rfl,lo,hi,rfl,g1,g2,g3,g4,g5⟩
   obtain rfl:lo = hi:=by omega
   exact ⟨rfl,lo,rfl,g2,g3,g4⟩
  ·rcases h4 with h4 | h4
   ·omega
   ·by_cases z:hint + 1 <= o
    ·omega
    ·exact mono i (hint - o) (by omega) (by omega) h4
  ·exact rP (hint - l) i (by omega) mD h2
  rintro c aU ⟨rfl,k,rfl,g1,g2,g3⟩
  dsimp only
  exact wpS_pure (out k g1 g2 g3)
end
section
variable {f:Keyed -> Nat}
def D8 (f:Keyed -> Nat) (l:List Keyed):Prop:=l.Pairwise fun p q=>f p <= f q
def Gw (f:Keyed -> Nat) (l m:List Keyed):Prop := ∀ p ∈ l,∀ q ∈ m,f p <= f q
theorem Gm {l m:List Keyed} (h1:D8 f l) (h2:D8 f m) (h3:Gw f l m):D8 f (l ++ m):=List.pairwise_append.mpr ⟨h1,h2,h3⟩
theorem G3 {l:List Keyed} (h:D8 f l) (n:Nat):D8 f (l.drop n):=h.sublist (List.drop_sublist n l)
theorem G6 {l:List Keyed} (h:D8 f l) (n:Nat):D8 f (l.take n):=h.sublist (List.take_sublist n l)
theorem Lj {l:List Keyed} (h:D8 f l) {i j:Nat} {p q:Keyed} (hi:l[i]? = some p) (hj:l[j]? = some q) (tH:i <= j):f p <= f q:=by
 obtain ⟨h1,e1⟩ := List.getElem?_eq_some_iff.mp hi
 obtain ⟨h2,e2⟩ := List.getElem?_eq_some_iff.mp hj
 rcases Nat.lt_or_ge i j with z | z
 ·have:=List.pairwise_iff_getElem.mp h i j h1 h2 z
  rw [e1,e2] at this
  exact this
 ·obtain rfl:i = j:=by omega
  rw [e1] at e2
  rw [e2]
  exact Nat.le_refl _
theorem Ef {l:List Keyed} {i:Nat} {p:Keyed} (h:p ∈ l.drop i):∃ j,l[i + j]? = some p:=by
 obtain ⟨j,hj⟩ := List.mem_iff_getElem?.mp h
 rw [List.getElem?_drop] at hj
 exact ⟨j,hj⟩
theorem E5 {l:List Keyed} {i k:Nat} {p:Keyed} (h:p ∈ (l.drop i).take k):∃ j,j < k /\ l[i + j]? = some p:=by
 obtain ⟨j,hj⟩ := List.mem_iff_getElem?.mp h
 have hjk:j < k:=by
  have:=(List.getElem?_eq_some_iff.mp hj).1
  rw [List.length_take] at this
  omega
 rw [List.getElem?_take_of_lt hjk,List.getElem?_drop] at hj
 exact ⟨j,hjk,hj⟩
def MI (f:Keyed -> Nat) (x y:List Keyed) (i j:Nat) (o:List Keyed):Prop:=o.Perm (x.take i ++ y.take j) /\ D8 f o /\ Gw f o (x.drop i ++ y.drop j)
theorem O9 (l:List Keyed) (i k:Nat):l.take (i + k) = l.take i ++ (l.drop i).take k:=by rw [List.take_add]
theorem Hd (l:List Keyed) (i k:Nat):l.drop i = (l.drop i).take k ++ l.drop (i + k):=by
 have:=(List.take_append_drop k (l.drop i)).symm
 rw [List.drop_drop] at this
 exact this
theorem MI.jF {x y o:List Keyed} {i j k:Nat} (h:MI f x y i j o) (hx:D8 f x) (hle:Gw f ((x.drop i).take k) (y.drop j)):MI f x y (i + k) j (o ++ (x.drop i).take k):=by
 obtain ⟨h1,h2,h3⟩ := h
 have hd:=Hd x i k
 refine ⟨?_,?_,?_⟩
 ·rw [O9]
  refine (h1.append_right _).trans ?_
  rw [List.append_assoc,List.append_assoc]
  exact List.Perm.append_left _ List.perm_append_comm
 ·refine Gm h2 (G6 (G3 hx i) k) fun p hp q hq=>h3 p hp q (List.mem_append_left _ (List.mem_of_mem_take hq))
 ·intro p hp q hq
  rcases List.mem_append.mp hp with z | z
  ·rcases List.mem_append.mp hq with y' | y'
   ·refine h3 p z q (List.mem_append_left _ ?_)
    rw [hd]
    exact List.mem_append_right _ y'
   ·exact h3 p z q (List.mem_append_right _ y')
  ·rcases List.mem_append.mp hq with y' | y'
   ·have hs:=G3 hx i
    rw [hd] at hs
    exact (List.pairwise_append.mp hs).2.2 p z q y'
   ·exact hle p z q y'
theorem MI.swap {x y o:List Keyed} {i j:Nat} (h:MI f x y i j o):MI f y x j i o:=⟨h.1.trans List.perm_append_comm,h.2.1,fun p hp q hq=>h.2.2 p hp q (List.perm_append_comm.mem_iff.mp hq)⟩
theorem MI.EA {x y o:List Keyed} {i j k:Nat} (h:MI f x y i j o) (hy:D8 f y) (hle:Gw f ((y.drop j).take k) (x.drop i)):MI f x y i (j + k) (o ++ (y.drop j).take k):=(h.swap.jF hy hle).swap
def Cs (f:Keyed -> Nat) (x y r:List Keyed):Prop:=r.Perm (x ++ y) /\ D8 f r
theorem MI.done {x y o:List Keyed} {i j:Nat} (h:MI f x y i j o) (hx:D8 f x) (hy:D8 f y) (hle:Gw f (x.drop i) (y.drop j)):Cs f x y (o ++ x.drop i ++ y.drop j):=by
 obtain ⟨h1,h2,h3⟩ := h
 refine ⟨?_,?_⟩
 ·rw [List.append_assoc]
  refine (h1.append_right _).trans ?_
  have e:x ++ y = (x.take i ++ x.drop i) ++ (y.take j ++ y.drop j):=by rw [List.take_append_drop,List.take_append_drop]
  rw [e,List.append_assoc,List.append_assoc]
  refine List.Perm.append_left _ ?_
  rw [<- List.append_assoc,<- List.append_assoc]
  exact List.Perm.append_right _ List.perm_append_comm
 ·rw [List.append_assoc]
  exact Gm h2 (Gm (G3 hx i) (G3 hy j) hle) h3
theorem MI.mV {x y o:List Keyed} {i j:Nat} (h:MI f x y i j o) (hx:D8 f x) (hy:D8 f y) (hle:Gw f (y.drop j) (x.drop i)):Cs f x y (o ++ y.drop j ++ x.drop i):=by
 obtain ⟨g1,g2⟩ := h.swap.done hy hx hle
 exact ⟨g1.trans List.perm_append_comm,g2⟩
theorem P3 {l:List Keyed} {i:Nat} {p:Keyed} (h:l[i]? = some p):(l.drop i).take 1 = [p]:=by
 obtain ⟨h1,e⟩ := List.getElem?_eq_some_iff.mp h
 rw [List.drop_eq_getElem_cons h1,e]
 rfl
theorem MI.tM {x y o:List Keyed} {i j:Nat} {p q:Keyed} (h:MI f x y i j o) (hx:D8 f x) (hy:D8 f y) (hp:x[i]? = some p) (hq:y[j]? = some q) (hle:f p <= f q):MI f x y (i + 1) j (o ++ [p]):=by
 rw [<- P3 hp]
 refine h.jF hx fun a ha b hb=>?_
 rw [P3 hp] at ha
 cases List.mem_singleton.mp ha
 obtain ⟨k,hk⟩ := Ef hb
 exact Nat.le_trans hle (Lj hy hq hk (by omega))
theorem MI.EB {x y o:List Keyed} {i j:Nat} {p q:Keyed} (h:MI f x y i j o) (hx:D8 f x) (hy:D8 f y) (hp:x[i]? = some p) (hq:y[j]? = some q) (hle:f q <= f p):MI f x y i (j + 1) (o ++ [q]):=(h.swap.tM hy hx hq hp hle).swap
end
section
variable {f:Keyed -> Nat} {a b o:Array Keyed} {i j k:Nat}
theorem Jy (a:Array Keyed) (i:Nat):(a.extract i).toList = a.toList.drop i:=by
 rw [Array.toList_extract]
 show (a.toList.drop i).take (a.size - i) = _
 rw [List.take_of_length_le (by rw [List.length_drop,Array.length_toList]; omega)]
theorem Gg (a:Array Keyed) (i k:Nat):(a.extract i (i + k)).toList = (a.toList.drop i).take k:=by
 simp [List.extract]
theorem Op (a:Array Keyed) (k:Nat):(a.extract 0 k).toList = a.toList.take k:=by simp
theorem MI.bC (h:MI f a.toList b.toList i j o.toList) (hx:D8 f a.toList) (hy:D8 f b.toList) (e:j = b.size \/ i = a.size):Cs f a.toList b.toList (o ++ a.extract i ++ b.extract j).toList:=by
 rw [Array.toList_append,Array.toList_append,Jy,Jy]
 refine h.done hx hy ?_
 rcases e with e | e
 ·rw [List.drop_of_length_le (l:=b.toList) (by rw [Array.length_toList]; omega)]
  intro p _ q hq
  cases hq
 ·rw [List.drop_of_length_le (l:=a.toList) (by rw [Array.length_toList]; omega)]
  intro p hp
  cases hp
theorem MI.fF (h:MI f a.toList b.toList i j o.toList) (hx:D8 f a.toList) (hy:D8 f b.toList) (e:i + 1 = a.size) (hl:∀ q ∈ b.toList,f q <= fa f a i):Cs f a.toList b.toList (o ++ b.extract j ++ a.extract i).toList:=by
 rw [Array.toList_append,Array.toList_append,Jy,Jy]
 refine h.mV hx hy fun p hp q hq=>?_
 obtain ⟨m,hm⟩ := Ef hq
 have aZ:=(List.getElem?_eq_some_iff.mp hm).1
 rw [Array.length_toList] at aZ
 obtain rfl:m = 0:=by omega
 have h1:=hl p (List.mem_of_mem_drop hp)
 rw [Nat.add_zero,Array.getElem?_toList] at hm
 rw [Av hm] at h1
 exact h1
theorem MI.fK (h:MI f a.toList b.toList i j o.toList) (hx:D8 f a.toList) (hy:D8 f b.toList) {p:Keyed} (hp:a[i]? = some p) (hj:j < b.size) (hle:f p <= fa f b j):MI f a.toList b.toList (i + 1) j (o.push p).toList:=by
 obtain ⟨q,hq⟩ := C4 hj
 rw [Av hq] at hle
 rw [Array.toList_push]
 exact h.tM hx hy (by rw [Array.getElem?_toList]; exact hp) (by rw [Array.getElem?_toList]; exact hq) hle
theorem MI.gQ (h:MI f a.toList b.toList i j o.toList) (hx:D8 f a.toList) (hy:D8 f b.toList) {q:Keyed} (hq:b[j]? = some q) (hi:i < a.size) (hle:f q <= fa f a i):MI f a.toList b.toList i (j + 1) (o.push q).toList:=by
 obtain ⟨p,hp⟩ := C4 hi
 rw [Av hp] at hle
 rw [Array.toList_push]
 exact h.EB hx hy (by rw [Array.getElem?_toList]; exact hp) (by rw [Array.getElem?_toList]; exact hq) hle
theorem MI.mW (h:MI f a.toList b.toList i j o.toList) (hx:D8 f a.toList) (hy:D8 f b.toList) {q:Keyed} (hq:b[j]? = some q) (hle:∀ m,m < k -> fa f a (i + m) <= f q):MI f a.toList b.toList (i + k) j (o ++ a.extract i (i + k)).toList:=by
 rw [Array.toList_append,Gg]
 refine h.jF hx fun x lZ y mI=>?_
 obtain ⟨m,hm,e⟩ := E5 lZ
 obtain ⟨m2,e2⟩ := Ef mI
 have h1:=hle m hm
 rw [Array.getElem?_toList] at e
 rw [Av e] at h1
 exact Nat.le_trans h1 (Lj hy (by rw [Array.getElem?_toList]; exact hq) e2 (by omega))
theorem MI.vX (h:MI f a.toList b.toList i j o.toList) (hx:D8 f a.toList) (hy:D8 f b.toList) {p:Keyed} (hp:a[i]? = some p) (hle:∀ m,m < k -> fa f b (j + m) <= f p):MI f a.toList b.toList i (j + k) (o ++ b.extract j (j + k)).toList:=by
 rw [Array.toList_append,Gg]
 refine h.EA hy fun x lZ y mI=>?_
 obtain ⟨m,hm,e⟩ := E5 lZ
 obtain ⟨m2,e2⟩ := Ef mI
 have h1:=hle m hm
 rw [Array.getElem?_toList] at e
 rw [Av e] at h1
 exact Nat.le_trans h1 (Lj hx (by rw [Array.getElem?_toList]; exact hp) e2 (by omega))
theorem K5 (h:D8 f a.toList) {lo hi:Nat} (hh:hi <= a.size):Hj f a lo hi:=fun i j h1 h2 h3=>by
 obtain ⟨p,hp⟩ := C4 (a:=a) (i:=i) (by omega)
 obtain ⟨q,hq⟩ := C4 (a:=a) (i:=j) (by omega)
 rw [Av hp,Av hq]
 exact Lj h (by rw [Array.getElem?_toList]; exact hp) (by rw [Array.getElem?_toList]; exact hq) h2
theorem El {m n:Nat} (h:m = n):(m == n) = true:=by simp [h]
theorem Ek {m n:Nat} (h:¬ m = n):¬ (m == n) = true:=by simp [h]
end
section
variable {prog:Program} {w:World} {A:Around} {E:Value -> Shared -> Prop} {s:Shared} {κ:SortKind} {f:Keyed -> Nat} {a₀:Array Keyed} {st:SortSt}
def Gs (st aO:SortSt):Prop := ∃ g,aO = SortSt.mk' (kindOf st) (arrOf st) (pendingOf st) g (failedOf st)
theorem Gs.refl:Gs st st:=⟨gallopOf st,rfl⟩
theorem Z4 {σ β:Type} {M:Model} {c:Prop} [Decidable c] {Q:β -> σ -> Prop} {st:σ} {g:Nat -> StateT σ Sem β} {X Y:StateT σ Sem β} (y x:Nat) (ey:Y = g y) (ex:X = g x) (h:∀ z,wpS M A E s (g z) Q st):wpS M A E s (if c then X else Y) Q st:=by
 subst ey ex
 split
 ·exact h x
 ·exact h y
theorem K6 {σ β:Type} {M:Model} {c:Prop} [Decidable c] {Q:β -> σ -> Prop} {st:σ} {g:Array Keyed -> Nat -> StateT σ Sem β} {X Y:StateT σ Sem β} (P:Array Keyed -> Nat -> Prop) (o:Array Keyed) (i:Nat) (ey:Y = g o i) (hy:¬ c -> P o i) (hx:c -> (∀ o i,P o i -> wpS M A E s (g o i) Q st) -> wpS M A E s X Q st) (h:∀ o i,P o i -> wpS M A E s (g o i) Q st):wpS M A E s (if c then X else Y) Q st:=by
 subst ey
 split
 ·rename_i z
  exact hx z h
 ·rename_i z
  exact h o i (hy z)
theorem Rq (hA : Hm prog w A s κ f a₀) (hk : kindOf st = κ) {a b : Array Keyed} (ha : ∀ p, p ∈ a -> p ∈ a₀) (hb : ∀ p, p ∈ b -> p ∈ a₀) (hx : D8 f a.toList) (hy : D8 f b.toList) (MC : 0 < a.size) (tO : 0 < b.size)
  (dJ:fa f b 0 <= fa f a 0) (mX:∀ q ∈ b.toList,f q <= fa f a (a.size - 1)) {Q:Array Keyed -> SortSt -> Prop} (h:∀ r aO,Gs st aO -> Cs f a.toList b.toList r.toList -> Q r aO):wpS (model prog w) A E s (Xq a b) Q st:=by
 have last:∀ i,i + 1 = a.size -> ∀ q ∈ b.toList,f q <= fa f a i:=fun i hi q hq=>by
  have:=mX q hq
  rwa [show a.size - 1 = i by omega] at this
 have cR:∀ g,kindOf (SortSt.mk' (kindOf st) (arrOf st) (pendingOf st) g (failedOf st)) = κ:=fun g=>hk
 obtain ⟨q0,MD⟩ := C4 tO
 refine wpS_bind (wpS_lift (wpAny_rule ⟨rfl,?_⟩))
 refine wpS_bind (Bd MD ?_)
 have M0:MI f a.toList b.toList 0 0 (#[]:Array Keyed).toList:=⟨by simp,List.Pairwise.nil,fun p hp=>by cases hp⟩
 have M1:=M0.gQ hx hy MD MC (by rw [Av MD] at dJ; exact dJ)
 rw [show (#[]:Array Keyed).push q0 = #[q0] from rfl] at M1
 dsimp -zeta only
 by_cases e1:0 + 1 = b.size
 ·rw [if_pos (El e1)]
  exact wpS_pure (h _ _ Gs.refl (M1.bC hx hy (.inl e1)))
 rw [if_neg (Ek e1)]
 by_cases e2:0 + 1 = a.size
 ·rw [if_pos (El e2)]
  exact wpS_pure (h _ _ Gs.refl (M1.fF hx hy e2 (last 0 e2)))
 rw [if_neg (Ek e2)]
 refine wpS_bind (wpS_get ?_)
 refine wpS_bind (wpS_mono (wpS_forRange (I:=fun x c aO=>Gs st aO /\ ∃ o ia ib g,c = (none,o,ia,ib,g) /\ MI f a.toList b.toList ia ib o.toList /\ ia + 1 < a.size /\ ib < b.size /\ x + 1 <= ia + ib)
  (Q:=fun c aO=>Gs st aO /\ ∃ r z,c = (some r,z) /\ Cs f a.toList b.toList r.toList) ?_ ?_ ⟨Gs.refl,_,_,_,_,rfl,M1,by omega,by omega,by omega⟩) ?_)
 ·rintro x c bN _ lZ ⟨G1,o,ia,ib,g,rfl,M,h1,h2,h3⟩
  dsimp -zeta only
  refine wpS_bind (wpS_mono (wpS_forRange (I:=fun y c aO=>Gs st aO /\ ∃ o ia ib ac bc,c = (none,o,ia,ib,ac,bc) /\ MI f a.toList b.toList ia ib o.toList /\ ia + 1 < a.size /\ ib < b.size /\ x + 1 + y <= ia + ib)
   (Q:=fun c aO=>Gs st aO /\ ((∃ r z,c = (some r,z) /\ Cs f a.toList b.toList r.toList) \/ ∃ o ia ib ac bc,c = (none,o,ia,ib,ac,bc) /\ MI f a.toList b.toList ia ib o.toList /\ ia + 1 < a.size /\ ib < b.size /\ x + 2 <= ia + ib)) ?_ ?_ ⟨G1,_,_,_,_,_,rfl,M,h1,h2,by omega⟩) ?_)
  ·clear M h1 h2 h3 G1
   rintro y c bN _ mI ⟨G1,o,ia,ib,ac,bc,rfl,M,h1,h2,h3⟩
   obtain ⟨gx,rfl⟩ := G1
   obtain ⟨q,hq⟩ := C4 h2
   obtain ⟨p,hp⟩ := C4 (a:=a) (i:=ia) (by omega)
   dsimp -zeta only
   refine wpS_bind (Bd hq (wpS_bind (Bd hp (wpS_bind (M8 hA (cR gx) (hb q (Array.mem_of_getElem? hq)) (ha p (Array.mem_of_getElem? hp)) ?_)))))
   dsimp -zeta only
   by_cases z:f q < f p
   ·rw [if_pos (decide_eq_true z)]
    have M2:=M.gQ hx hy hq (by omega) (by rw [Av hp]; omega)
    refine wpS_bind (Bd hq ?_)
    by_cases e:ib + 1 = b.size
    ·rw [if_pos (El e)]
     exact wpS_pure ⟨⟨_,rfl⟩,.inl ⟨_,_,rfl,M2.bC hx hy (.inl e)⟩⟩
    rw [if_neg (Ek e)]
    split
    ·exact wpS_pure ⟨⟨_,rfl⟩,.inr ⟨_,_,_,_,_,rfl,M2,h1,by omega,by omega⟩⟩
    ·exact wpS_pure ⟨⟨_,rfl⟩,_,_,_,_,_,rfl,M2,h1,by omega,by omega⟩
   ·rw [if_neg (by rw [decide_eq_true_eq]; exact z)]
    have M2:=M.fK hx hy hp h2 (by rw [Av hq]; omega)
    refine wpS_bind (Bd hp ?_)
    by_cases e:ia + 1 + 1 = a.size
    ·rw [if_pos (El e)]
     exact wpS_pure ⟨⟨_,rfl⟩,.inl ⟨_,_,rfl,M2.fF hx hy e (last _ e)⟩⟩
    rw [if_neg (Ek e)]
    split
    ·exact wpS_pure ⟨⟨_,rfl⟩,.inr ⟨_,_,_,_,_,rfl,M2,by omega,h2,by omega⟩⟩
    ·exact wpS_pure ⟨⟨_,rfl⟩,_,_,_,_,_,rfl,M2,by omega,h2,by omega⟩
  ·rintro c aO ⟨G1,o,ia,ib,ac,bc,rfl,M,h1,h2,h3⟩
   exact ⟨G1,.inr ⟨o,ia,ib,ac,bc,rfl,M,h1,h2,by omega⟩⟩
  clear M h1 h2 h3 G1
  rintro c aU ⟨G2,⟨r,z,rfl,J⟩ | ⟨o,ia,ib,ac,bc,rfl,M,h1,h2,h3⟩⟩
  ·dsimp -zeta only
   exact wpS_pure ⟨G2,r,_,rfl,J⟩
  dsimp -zeta only
  refine wpS_bind (wpS_lift (wpAny_rule ⟨rfl,?_⟩))
  refine wpS_bind (wpS_mono (wpS_forRange (I:=fun y c aO=>Gs st aO /\ ∃ o ia ib mg ac bc,c = (none,o,ia,ib,mg,ac,bc) /\ MI f a.toList b.toList ia ib o.toList /\ ia + 1 < a.size /\ ib < b.size /\ x + 2 <= ia + ib)
   (Q:=fun c aO=>Gs st aO /\ ((∃ r z,c = (some r,z) /\ Cs f a.toList b.toList r.toList) \/ ∃ o ia ib mg ac bc,c = (none,o,ia,ib,mg,ac,bc) /\ MI f a.toList b.toList ia ib o.toList /\ ia + 1 < a.size /\ ib < b.size /\ x + 2 <= ia + ib)) ?_ ?_ ⟨G2,_,_,_,_,_,_,rfl,M,h1,h2,h3⟩) ?_)
  ·clear M h1 h2 h3 G2
   rintro y c bN _ mI ⟨G1,o,ia,ib,mg,ac,bc,rfl,M,h1,h2,h3⟩
   obtain ⟨gx,rfl⟩ := G1
   obtain ⟨q,hq⟩ := C4 h2
   dsimp -zeta only
   have ga : ∀ {Q' : Option Nat -> SortSt -> Prop} {mg}, (∀ k, ia + k <= a.size -> (∀ m, m < k -> fa f a (ia + m) <= f q) -> (∀ m, k <= m -> ia + m < a.size -> f q < fa f a (ia + m)) -> Q' (some k) (SortSt.mk' (kindOf st) (arrOf st) (pendingOf st) mg (failedOf st))) ->
     wpS (model prog w) A E s (Hv false q a ia (a.size - ia) 0) Q' (SortSt.mk' (kindOf st) (arrOf st) (pendingOf st) mg (failedOf st)):=fun {Q'} {mg} vY=>by
    refine Dg hA (cR mg) (hb q (Array.mem_of_getElem? hq)) ha (by omega) (by omega) (K5 hx (by omega)) fun k g1 g2 g3=>vY k (by omega) (fun m hm=>?_) (fun m mB CG=>?_)
    ·have:=g2 m hm
     simpa using this
    ·have:=g3 m mB (by omega)
     simpa using this
   have gb : ∀ {Q' : Option Nat -> SortSt -> Prop} {mg i j p}, a[i]? = some p -> j < b.size -> (∀ k, j + k <= b.size -> (∀ m, m < k -> fa f b (j + m) <= f p) -> (∀ m, k <= m -> j + m < b.size -> f p <= fa f b (j + m)) -> Q' (some k) (SortSt.mk' (kindOf st) (arrOf st) (pendingOf st) mg (failedOf st))) ->
     wpS (model prog w) A E s (Hv true p b j (b.size - j) 0) Q' (SortSt.mk' (kindOf st) (arrOf st) (pendingOf st) mg (failedOf st)):=fun {Q'} {mg i j p} hp hj vY=>by
    refine Dg hA (cR mg) (ha p (Array.mem_of_getElem? hp)) hb (by omega) (by omega) (K5 hy (by omega)) fun k g1 g2 g3=>vY k (by omega) (fun m hm=>?_) (fun m mB CG=>?_)
    ·have:=g2 m hm
     simp at this
     omega
    ·have:=g3 m mB (by omega)
     simpa using this
   dsimp only
   apply Z4 mg (mg - 1) (Eq.refl _) (Eq.refl _)
   intro mg
   refine wpS_bind (wpS_modify ?_)
   refine wpS_bind (Bd hq (wpS_bind (ga fun k g1 g2 g3=>?_)))
   dsimp only
   apply K6 (fun o2 i2=>MI f a.toList b.toList i2 ib o2.toList /\ i2 + 1 < a.size /\ f q < fa f a i2 /\ ia <= i2) o ia (Eq.refl _) (fun z=>⟨M,h1,g3 0 (by omega) (by omega),Nat.le_refl _⟩)
   ·intro z K
    have M2:=M.mW hx hy hq g2
    by_cases e:ia + k + 1 = a.size
    ·rw [if_pos (El e)]
     exact wpS_pure ⟨⟨_,rfl⟩,.inl ⟨_,_,rfl,M2.fF hx hy e (last _ e)⟩⟩
    rw [if_neg (Ek e)]
    by_cases e':ia + k = a.size
    ·rw [if_pos (El e')]
     exact wpS_pure ⟨⟨_,rfl⟩,.inl ⟨_,_,rfl,M2.bC hx hy (.inr e')⟩⟩
    rw [if_neg (Ek e')]
    exact K _ _ ⟨M2,by omega,g3 k (Nat.le_refl _) (by omega),by omega⟩
   rintro o2 i2 ⟨M2,mD,g3',hle⟩
   clear g1 g2 g3 M h1
   refine wpS_bind (Bd hq ?_)
   have M3:=M2.gQ hx hy hq (by omega) (Nat.le_of_lt g3')
   generalize hib:ib + 1 = OX at M3 ⊢
   generalize o2.push q = o3 at M3 ⊢
   by_cases e:OX = b.size
   ·rw [if_pos (El e)]
    exact wpS_pure ⟨⟨_,rfl⟩,.inl ⟨_,_,rfl,M3.bC hx hy (.inl e)⟩⟩
   rw [if_neg (Ek e)]
   obtain ⟨p,hp⟩ := C4 (a:=a) (i:=i2) (by omega)
   refine wpS_bind (Bd hp (wpS_bind (gb hp (by omega) fun k2 c1 c2 c3=>?_)))
   dsimp only
   apply K6 (fun o3 j3=>MI f a.toList b.toList i2 j3 o3.toList /\ j3 < b.size /\ f p <= fa f b j3 /\ ib < j3) o3 OX (Eq.refl _) (fun z=>⟨M3,by omega,c3 0 (by omega) (by omega),by omega⟩)
   ·intro z K
    have M4:=M3.vX hx hy hp c2
    by_cases e4:OX + k2 = b.size
    ·rw [if_pos (El e4)]
     exact wpS_pure ⟨⟨_,rfl⟩,.inl ⟨_,_,rfl,M4.bC hx hy (.inl e4)⟩⟩
    rw [if_neg (Ek e4)]
    exact K _ _ ⟨M4,by omega,c3 k2 (Nat.le_refl _) (by omega),by omega⟩
   rintro o4 j3 ⟨M4,hj,c4,aZ⟩
   clear c1 c2 c3 M3 M2
   refine wpS_bind (Bd hp ?_)
   have M5:=M4.fK hx hy hp hj c4
   by_cases e5:i2 + 1 + 1 = a.size
   ·rw [if_pos (El e5)]
    exact wpS_pure ⟨⟨_,rfl⟩,.inl ⟨_,_,rfl,M5.fF hx hy e5 (last _ e5)⟩⟩
   rw [if_neg (Ek e5)]
   split
   ·exact wpS_pure ⟨⟨_,rfl⟩,.inr ⟨_,_,_,_,_,_,rfl,M5,by omega,hj,by omega⟩⟩
   ·exact wpS_pure ⟨⟨_,rfl⟩,_,_,_,_,_,_,rfl,M5,by omega,hj,by omega⟩
  ·rintro c aO ⟨G1,o,ia,ib,mg,ac,bc,rfl,M,h1,h2,h3⟩
   exact ⟨G1,.inr ⟨o,ia,ib,mg,ac,bc,rfl,M,h1,h2,h3⟩⟩
  clear M h1 h2 h3 G2
  rintro c aU ⟨G2,⟨r,z,rfl,J⟩ | ⟨o,ia,ib,mg,ac,bc,rfl,M,h1,h2,h3⟩⟩
  ·dsimp -zeta only
   exact wpS_pure ⟨G2,r,_,rfl,J⟩
  dsimp -zeta only
  obtain ⟨gx,rfl⟩ := G2
  refine wpS_bind (wpS_modify ?_)
  exact wpS_pure ⟨⟨_,rfl⟩,_,_,_,_,rfl,M,h1,h2,by omega⟩
 ·rintro c aO ⟨G1,o,ia,ib,g,rfl,M,h1,h2,h3⟩
  exfalso
  omega
 rintro c aO ⟨G1,r,z,rfl,J⟩
 dsimp -zeta only
 exact wpS_pure (h _ _ G1 J)
end
section
variable {f:Keyed -> Nat}
def MH (f:Keyed -> Nat) (x y:List Keyed) (i j:Nat) (o:List Keyed):Prop:=o.reverse.Perm (x.drop i ++ y.drop j) /\ D8 f o.reverse /\ Gw f (x.take i ++ y.take j) o.reverse
theorem MH.swap {x y o:List Keyed} {i j:Nat} (h:MH f x y i j o):MH f y x j i o:=⟨h.1.trans List.perm_append_comm,h.2.1,fun p hp=>h.2.2 p (List.perm_append_comm.mem_iff.mp hp)⟩
theorem MH.jF {x y o:List Keyed} {i j k:Nat} (h:MH f x y (i + k) j o) (hx:D8 f x) (hle:Gw f (y.take j) ((x.drop i).take k)):MH f x y i j (o ++ ((x.drop i).take k).reverse):=by
 obtain ⟨h1,h2,h3⟩ := h
 have hd:=Hd x i k
 have ht:=O9 x i k
 have e:(o ++ ((x.drop i).take k).reverse).reverse = (x.drop i).take k ++ o.reverse:=by rw [List.reverse_append,List.reverse_reverse]
 have hsx:D8 f (x.take (i + k)):=G6 hx _
 rw [ht] at hsx
 unfold MH
 rw [e]
 refine ⟨?_,?_,?_⟩
 ·refine (List.Perm.append_left _ h1).trans ?_
  rw [<- List.append_assoc,<- hd]
 ·refine Gm (G6 (G3 hx i) k) h2 fun p hp q hq=>h3 p (List.mem_append_left _ ?_) q hq
  rw [ht]
  exact List.mem_append_right _ hp
 ·intro p hp q hq
  rcases List.mem_append.mp hp with z | z
  ·rcases List.mem_append.mp hq with y' | y'
   ·exact (List.pairwise_append.mp hsx).2.2 p z q y'
   ·refine h3 p (List.mem_append_left _ ?_) q y'
    rw [ht]
    exact List.mem_append_left _ z
  ·rcases List.mem_append.mp hq with y' | y'
   ·exact hle p z q y'
   ·exact h3 p (List.mem_append_right _ z) q y'
theorem MH.done {x y o:List Keyed} {i j:Nat} (h:MH f x y i j o) (hx:D8 f x) (hy:D8 f y) (hle:Gw f (x.take i) (y.take j)):Cs f x y (x.take i ++ y.take j ++ o.reverse):=by
 obtain ⟨h1,h2,h3⟩ := h
 refine ⟨?_,Gm (Gm (G6 hx i) (G6 hy j) hle) h2 h3⟩
 refine (List.Perm.append_left _ h1).trans ?_
 have e:x ++ y = (x.take i ++ x.drop i) ++ (y.take j ++ y.drop j):=by rw [List.take_append_drop,List.take_append_drop]
 rw [e,List.append_assoc,List.append_assoc]
 refine List.Perm.append_left _ ?_
 rw [<- List.append_assoc,<- List.append_assoc]
 exact List.Perm.append_right _ List.perm_append_comm
theorem MH.mV {x y o:List Keyed} {i j:Nat} (h:MH f x y i j o) (hx:D8 f x) (hy:D8 f y) (hle:Gw f (y.take j) (x.take i)):Cs f x y (y.take j ++ x.take i ++ o.reverse):=by
 obtain ⟨g1,g2⟩ := h.swap.done hy hx hle
 exact ⟨g1.trans List.perm_append_comm,g2⟩
variable {a b o:Array Keyed} {i j k:Nat}
theorem Jg {l:List Keyed} {i:Nat} {p:Keyed} (h:p ∈ l.take i):∃ m,m < i /\ l[m]? = some p:=by
 have h':p ∈ (l.drop 0).take i:=h
 obtain ⟨m,h1,h2⟩ := E5 h'
 exact ⟨m,h1,by rw [Nat.zero_add] at h2; exact h2⟩
theorem MH.bC (h:MH f a.toList b.toList i j o.toList) (hx:D8 f a.toList) (hy:D8 f b.toList) (e:i = 0 \/ j = 0):Cs f a.toList b.toList (a.extract 0 i ++ b.extract 0 j ++ o.reverse).toList:=by
 rw [Array.toList_append,Array.toList_append,Op,Op,Array.toList_reverse]
 refine h.done hx hy ?_
 rcases e with e | e <;> subst e
 ·intro p hp
  simp at hp
 ·intro p _ q hq
  simp at hq
theorem MH.dZ (h:MH f a.toList b.toList i j o.toList) (hx:D8 f a.toList) (hy:D8 f b.toList) (e:j = 1) (hf:∀ p ∈ a.toList,fa f b 0 <= f p):Cs f a.toList b.toList (b.extract 0 j ++ a.extract 0 i ++ o.reverse).toList:=by
 rw [Array.toList_append,Array.toList_append,Op,Op,Array.toList_reverse]
 refine h.mV hx hy fun p hp q hq=>?_
 obtain ⟨m,hm,e2⟩ := Jg hp
 obtain rfl:m = 0:=by omega
 rw [Array.getElem?_toList] at e2
 have:=hf q (List.mem_of_mem_take hq)
 rw [Av e2] at this
 exact this
theorem MH.mW (h:MH f a.toList b.toList i j o.toList) (hx:D8 f a.toList) (hy:D8 f b.toList) {m:Nat} (hm:m <= i) (hle:∀ n,m <= n -> n < i -> ∀ l,l < j -> fa f b l <= fa f a n):MH f a.toList b.toList m j (o ++ (a.extract m i).reverse).toList:=by
 obtain ⟨k,rfl⟩ : ∃ k,i = m + k:=⟨i - m,by omega⟩
 rw [Array.toList_append,Array.toList_reverse,Gg]
 refine h.jF hx fun x lZ y mI=>?_
 obtain ⟨l,hl,e⟩ := Jg lZ
 obtain ⟨n,hn,e2⟩ := E5 mI
 rw [Array.getElem?_toList] at e e2
 have:=hle (m + n) (by omega) (by omega) l hl
 rw [Av e,Av e2] at this
 exact this
theorem MH.vX (h:MH f a.toList b.toList i j o.toList) (hx:D8 f a.toList) (hy:D8 f b.toList) {m:Nat} (hm:m <= j) (hle:∀ n,m <= n -> n < j -> ∀ l,l < i -> fa f a l <= fa f b n):MH f a.toList b.toList i m (o ++ (b.extract m j).reverse).toList:=(h.swap.mW hy hx hm hle).swap
theorem Zv {a:Array Keyed} {i:Nat} {p:Keyed} (hp:a[i]? = some p):(a.extract i (i + 1)).toList = [p]:=by
 rw [Gg]
 exact P3 (by rw [Array.getElem?_toList]; exact hp)
theorem MH.fK (h:MH f a.toList b.toList (i + 1) j o.toList) (hx:D8 f a.toList) (hy:D8 f b.toList) {p:Keyed} (hp:a[i]? = some p) (hle:∀ l,l < j -> fa f b l <= f p):MH f a.toList b.toList i j (o.push p).toList:=by
 have:=h.mW hx hy (m:=i) (by omega) fun n h1 h2 l hl=>by
  obtain rfl:n = i:=by omega
  rw [Av hp]
  exact hle l hl
 rw [Array.toList_append,Array.toList_reverse,Zv hp] at this
 rw [Array.toList_push]
 exact this
theorem MH.gQ (h:MH f a.toList b.toList i (j + 1) o.toList) (hx:D8 f a.toList) (hy:D8 f b.toList) {q:Keyed} (hq:b[j]? = some q) (hle:∀ l,l < i -> fa f a l <= f q):MH f a.toList b.toList i j (o.push q).toList:=(h.swap.fK hy hx hq hle).swap
end
section
variable {prog:Program} {w:World} {A:Around} {E:Value -> Shared -> Prop} {s:Shared} {κ:SortKind} {f:Keyed -> Nat} {a₀:Array Keyed} {st:SortSt}
theorem Ro (hA : Hm prog w A s κ f a₀) (hk : kindOf st = κ) {a b : Array Keyed} (ha : ∀ p, p ∈ a -> p ∈ a₀) (hb : ∀ p, p ∈ b -> p ∈ a₀) (hx : D8 f a.toList) (hy : D8 f b.toList) (MC : 0 < a.size) (tO : 0 < b.size)
  (dJ:∀ p ∈ a.toList,fa f b 0 <= f p) (mX:∀ j,j < b.size -> fa f b j <= fa f a (a.size - 1)) {Q:Array Keyed -> SortSt -> Prop} (h:∀ r aO,Gs st aO -> Cs f a.toList b.toList r.toList -> Q r aO):wpS (model prog w) A E s (Xp a b) Q st:=by
 have cR:∀ g,kindOf (SortSt.mk' (kindOf st) (arrOf st) (pendingOf st) g (failedOf st)) = κ:=fun g=>hk
 have OY:∀ {lo hi},hi <= a.size -> Hj f a lo hi:=fun h=>K5 hx h
 have OZ:∀ {lo hi},hi <= b.size -> Hj f b lo hi:=fun h=>K5 hy h
 obtain ⟨p0,EC⟩ := C4 (a:=a) (i:=a.size - 1) (by omega)
 refine wpS_bind (wpS_lift (wpAny_rule ⟨rfl,?_⟩))
 refine wpS_bind (Bd EC ?_)
 have M0:MH f a.toList b.toList (a.size - 1 + 1) b.size (#[]:Array Keyed).toList:=by
  refine ⟨?_,List.Pairwise.nil,fun p _ q hq=>by cases hq⟩
  rw [List.drop_of_length_le (l:=a.toList) (by rw [Array.length_toList]; omega),List.drop_of_length_le (l:=b.toList) (by rw [Array.length_toList]; omega)]
  exact List.Perm.refl _
 have M1:=M0.fK hx hy EC (fun l hl=>by have:=mX l hl; rw [Av EC] at this; exact this)
 rw [show (#[]:Array Keyed).push p0 = #[p0] from rfl] at M1
 dsimp -zeta only
 by_cases e1:a.size - 1 = 0
 ·rw [if_pos (El e1)]
  exact wpS_pure (h _ _ Gs.refl (M1.bC hx hy (.inl e1)))
 rw [if_neg (Ek e1)]
 by_cases e2:b.size = 1
 ·rw [if_pos (El e2)]
  exact wpS_pure (h _ _ Gs.refl (M1.dZ hx hy e2 dJ))
 rw [if_neg (Ek e2)]
 refine wpS_bind (wpS_get ?_)
 refine wpS_bind (wpS_mono (wpS_forRange (I:=fun x c aO=>Gs st aO /\ ∃ o na nb g,c = (none,na,nb,o,g) /\ MH f a.toList b.toList na nb o.toList /\ 0 < na /\ na <= a.size /\ 1 < nb /\ nb <= b.size /\ na + nb + x + 1 <= a.size + b.size)
  (Q:=fun c aO=>Gs st aO /\ ∃ r z,c = (some r,z) /\ Cs f a.toList b.toList r.toList) ?_ ?_ ⟨Gs.refl,_,_,_,_,rfl,M1,by omega,by omega,by omega,by omega,by omega⟩) ?_)
 ·rintro x c bN _ lZ ⟨G1,o,na,nb,g,rfl,M,h1,fG,h2,iR,h3⟩
  dsimp -zeta only
  refine wpS_bind (wpS_mono (wpS_forRange (I:=fun y c aO=>Gs st aO /\ ∃ o na nb ac bc,c = (none,na,nb,o,ac,bc) /\ MH f a.toList b.toList na nb o.toList /\ 0 < na /\ na <= a.size /\ 1 < nb /\ nb <= b.size /\ na + nb + x + 1 + y <= a.size + b.size)
   (Q:=fun c aO=>Gs st aO /\ ((∃ r z,c = (some r,z) /\ Cs f a.toList b.toList r.toList) \/ ∃ o na nb ac bc,c = (none,na,nb,o,ac,bc) /\ MH f a.toList b.toList na nb o.toList /\ 0 < na /\ na <= a.size /\ 1 < nb /\ nb <= b.size /\ na + nb + x + 2 <= a.size + b.size)) ?_ ?_ ⟨G1,_,_,_,_,_,rfl,M,h1,fG,h2,iR,by omega⟩) ?_)
  ·clear M h1 h2 h3 G1 fG iR
   rintro y c bN _ mI ⟨G1,o,na,nb,ac,bc,rfl,M,h1,fG,h2,iR,h3⟩
   obtain ⟨gx,rfl⟩ := G1
   obtain ⟨q,hq⟩ := C4 (a:=b) (i:=nb - 1) (by omega)
   obtain ⟨p,hp⟩ := C4 (a:=a) (i:=na - 1) (by omega)
   dsimp -zeta only
   refine wpS_bind (Bd hq (wpS_bind (Bd hp (wpS_bind (M8 hA (cR gx) (hb q (Array.mem_of_getElem? hq)) (ha p (Array.mem_of_getElem? hp)) ?_)))))
   dsimp -zeta only
   by_cases z:f q < f p
   ·rw [if_pos (decide_eq_true z)]
    have M2:=MH.fK (i:=na - 1) (by rw [show na - 1 + 1 = na by omega]; exact M) hx hy hp (fun l hl=>by have:=OZ (lo:=0) (hi:=b.size) (Nat.le_refl _) l (nb - 1) (by omega) (by omega) (by omega); rw [Av hq] at this; omega)
    refine wpS_bind (Bd hp ?_)
    by_cases e:na - 1 = 0
    ·rw [if_pos (El e)]
     exact wpS_pure ⟨⟨_,rfl⟩,.inl ⟨_,_,rfl,M2.bC hx hy (.inl e)⟩⟩
    rw [if_neg (Ek e)]
    split
    ·exact wpS_pure ⟨⟨_,rfl⟩,.inr ⟨_,_,_,_,_,rfl,M2,by omega,by omega,h2,iR,by omega⟩⟩
    ·exact wpS_pure ⟨⟨_,rfl⟩,_,_,_,_,_,rfl,M2,by omega,by omega,h2,iR,by omega⟩
   ·rw [if_neg (by rw [decide_eq_true_eq]; exact z)]
    have M2:=MH.gQ (j:=nb - 1) (by rw [show nb - 1 + 1 = nb by omega]; exact M) hx hy hq (fun l hl=>by have:=OY (lo:=0) (hi:=a.size) (Nat.le_refl _) l (na - 1) (by omega) (by omega) (by omega); rw [Av hp] at this; omega)
    refine wpS_bind (Bd hq ?_)
    by_cases e:nb - 1 = 1
    ·rw [if_pos (El e)]
     exact wpS_pure ⟨⟨_,rfl⟩,.inl ⟨_,_,rfl,M2.dZ hx hy e dJ⟩⟩
    rw [if_neg (Ek e)]
    split
    ·exact wpS_pure ⟨⟨_,rfl⟩,.inr ⟨_,_,_,_,_,rfl,M2,h1,fG,by omega,by omega,by omega⟩⟩
    ·exact wpS_pure ⟨⟨_,rfl⟩,_,_,_,_,_,rfl,M2,h1,fG,by omega,by omega,by omega⟩
  ·rintro c aO ⟨G1,o,na,nb,ac,bc,rfl,M,h1,fG,h2,iR,h3⟩
   exact ⟨G1,.inr ⟨o,na,nb,ac,bc,rfl,M,h1,fG,h2,iR,by omega⟩⟩
  clear M h1 h2 h3 G1 fG iR
  rintro c aU ⟨G2,⟨r,z,rfl,J⟩ | ⟨o,na,nb,ac,bc,rfl,M,h1,fG,h2,iR,h3⟩⟩
  ·dsimp -zeta only
   exact wpS_pure ⟨G2,r,_,rfl,J⟩
  dsimp -zeta only
  refine wpS_bind (wpS_lift (wpAny_rule ⟨rfl,?_⟩))
  refine wpS_bind (wpS_mono (wpS_forRange (I:=fun y c aO=>Gs st aO /\ ∃ o na nb mg ac bc,c = (none,na,nb,o,mg,ac,bc) /\ MH f a.toList b.toList na nb o.toList /\ 0 < na /\ na <= a.size /\ 1 < nb /\ nb <= b.size /\ na + nb + x + 2 <= a.size + b.size)
   (Q:=fun c aO=>Gs st aO /\ ((∃ r z,c = (some r,z) /\ Cs f a.toList b.toList r.toList) \/ ∃ o na nb mg ac bc,c = (none,na,nb,o,mg,ac,bc) /\ MH f a.toList b.toList na nb o.toList /\ 0 < na /\ na <= a.size /\ 1 < nb /\ nb <= b.size /\ na + nb + x + 2 <= a.size + b.size)) ?_ ?_ ⟨G2,_,_,_,_,_,_,rfl,M,h1,fG,h2,iR,h3⟩) ?_)
  ·clear M h1 h2 h3 G2 fG iR
   rintro y c bN _ mI ⟨G1,o,na,nb,mg,ac,bc,rfl,M,h1,fG,h2,iR,h3⟩
   obtain ⟨gx,rfl⟩ := G1
   obtain ⟨q,hq⟩ := C4 (a:=b) (i:=nb - 1) (by omega)
   dsimp -zeta only
   have ga : ∀ {Q' : Option Nat -> SortSt -> Prop} {mg}, (∀ k, k <= na -> (∀ m, m < k -> fa f a m <= f q) -> (∀ m, k <= m -> m < na -> f q <= fa f a m) -> Q' (some k) (SortSt.mk' (kindOf st) (arrOf st) (pendingOf st) mg (failedOf st))) ->
     wpS (model prog w) A E s (Hv false q a 0 na (na - 1)) Q' (SortSt.mk' (kindOf st) (arrOf st) (pendingOf st) mg (failedOf st)):=fun {Q'} {mg} vY=>by
    refine Dg hA (cR mg) (hb q (Array.mem_of_getElem? hq)) ha (by omega) (by omega) (OY (by omega)) fun k g1 g2 g3=>vY k (by omega) (fun m hm=>?_) (fun m mB CG=>?_)
    ·have:=g2 m hm
     simpa using this
    ·have:=g3 m mB (by omega)
     simp at this
     omega
   have gb : ∀ {Q' : Option Nat -> SortSt -> Prop} {mg i j p}, a[i]? = some p -> 0 < j -> j <= b.size -> (∀ k, k <= j -> (∀ m, m < k -> fa f b m <= f p) -> (∀ m, k <= m -> m < j -> f p <= fa f b m) -> Q' (some k) (SortSt.mk' (kindOf st) (arrOf st) (pendingOf st) mg (failedOf st))) ->
     wpS (model prog w) A E s (Hv true p b 0 j (j - 1)) Q' (SortSt.mk' (kindOf st) (arrOf st) (pendingOf st) mg (failedOf st)):=fun {Q'} {mg i j p} hp hj MB vY=>by
    refine Dg hA (cR mg) (ha p (Array.mem_of_getElem? hp)) hb (by omega) (by omega) (OZ (by omega)) fun k g1 g2 g3=>vY k (by omega) (fun m hm=>?_) (fun m mB CG=>?_)
    ·have:=g2 m hm
     simp at this
     omega
    ·have:=g3 m mB (by omega)
     simpa using this
   dsimp only
   apply Z4 mg (mg - 1) (Eq.refl _) (Eq.refl _)
   intro mg
   refine wpS_bind (wpS_modify ?_)
   refine wpS_bind (Bd hq (wpS_bind (ga fun k g1 g2 g3=>?_)))
   dsimp only
   have fL:∀ l,l < nb -> fa f b l <= f q:=fun l hl=>by
    have:=OZ (lo:=0) (hi:=b.size) (Nat.le_refl _) l (nb - 1) (by omega) (by omega) (by omega)
    rw [Av hq] at this
    exact this
   generalize hac:na - k = ac2
   apply K6 (fun o2 n2=>MH f a.toList b.toList n2 nb o2.toList /\ 0 < n2 /\ n2 <= na /\ ∀ l,l < n2 -> fa f a l <= f q) o na (Eq.refl _) (fun z=>⟨M,h1,Nat.le_refl _,fun l hl=>g2 l (by omega)⟩)
   ·intro z K
    have M2:=M.mW hx hy g1 (fun n tP CD l hl=>Nat.le_trans (fL l hl) (g3 n tP CD))
    by_cases e:k = 0
    ·rw [if_pos (El e)]
     exact wpS_pure ⟨⟨_,rfl⟩,.inl ⟨_,_,rfl,M2.bC hx hy (.inl e)⟩⟩
    rw [if_neg (Ek e)]
    exact K _ _ ⟨M2,by omega,g1,g2⟩
   rintro o2 n2 ⟨M2,CD,hn2',g2'⟩
   clear g2 g3 M fL
   refine wpS_bind (Bd hq ?_)
   have M3:=MH.gQ (j:=nb - 1) (by rw [show nb - 1 + 1 = nb by omega]; exact M2) hx hy hq g2'
   generalize hnb:nb - 1 = ME at M3 hq ⊢
   generalize o2.push q = o3 at M3 ⊢
   by_cases e':ME = 1
   ·rw [if_pos (El e')]
    exact wpS_pure ⟨⟨_,rfl⟩,.inl ⟨_,_,rfl,M3.dZ hx hy e' dJ⟩⟩
   rw [if_neg (Ek e')]
   obtain ⟨p,hp⟩ := C4 (a:=a) (i:=n2 - 1) (by omega)
   refine wpS_bind (Bd hp (wpS_bind (gb hp (by omega) (by omega) fun k2 c1 c2 c3=>?_)))
   dsimp only
   generalize hbc:ME - k2 = bc2
   apply K6 (fun o4 j4=>MH f a.toList b.toList n2 j4 o4.toList /\ 1 < j4 /\ j4 <= ME /\ ∀ l,l < j4 -> fa f b l <= f p) o3 ME (Eq.refl _) (fun z=>⟨M3,by omega,Nat.le_refl _,fun l hl=>c2 l (by omega)⟩)
   ·intro z K
    have M4:=M3.vX hx hy c1 (fun n tP CD l hl=>Nat.le_trans (by
     have:=OY (lo:=0) (hi:=a.size) (Nat.le_refl _) l (n2 - 1) (by omega) (by omega) (by omega)
     rw [Av hp] at this
     exact this) (c3 n tP CD))
    by_cases e4:k2 = 1
    ·rw [if_pos (El e4)]
     exact wpS_pure ⟨⟨_,rfl⟩,.inl ⟨_,_,rfl,M4.dZ hx hy e4 dJ⟩⟩
    rw [if_neg (Ek e4)]
    by_cases e5:k2 = 0
    ·rw [if_pos (El e5)]
     exact wpS_pure ⟨⟨_,rfl⟩,.inl ⟨_,_,rfl,M4.bC hx hy (.inr e5)⟩⟩
    rw [if_neg (Ek e5)]
    exact K _ _ ⟨M4,by omega,c1,c2⟩
   rintro o4 j4 ⟨M4,hj4,hj4',c2'⟩
   clear c1 c2 c3 M3 M2
   refine wpS_bind (Bd hp ?_)
   have M5:=MH.fK (i:=n2 - 1) (by rw [show n2 - 1 + 1 = n2 by omega]; exact M4) hx hy hp c2'
   by_cases e6:n2 - 1 = 0
   ·rw [if_pos (El e6)]
    exact wpS_pure ⟨⟨_,rfl⟩,.inl ⟨_,_,rfl,M5.bC hx hy (.inl e6)⟩⟩
   rw [if_neg (Ek e6)]
   split
   ·exact wpS_pure ⟨⟨_,rfl⟩,.inr ⟨_,_,_,_,_,_,rfl,M5,by omega,by omega,hj4,by omega,by omega⟩⟩
   ·exact wpS_pure ⟨⟨_,rfl⟩,_,_,_,_,_,_,rfl,M5,by omega,by omega,hj4,by omega,by omega⟩
  ·rintro c aO ⟨G1,o,na,nb,mg,ac,bc,rfl,M,h1,fG,h2,iR,h3⟩
   exact ⟨G1,.inr ⟨o,na,nb,mg,ac,bc,rfl,M,h1,fG,h2,iR,h3⟩⟩
  clear M h1 h2 h3 G2 fG iR
  rintro c aU ⟨G2,⟨r,z,rfl,J⟩ | ⟨o,na,nb,mg,ac,bc,rfl,M,h1,fG,h2,iR,h3⟩⟩
  ·dsimp -zeta only
   exact wpS_pure ⟨G2,r,_,rfl,J⟩
  dsimp -zeta only
  obtain ⟨gx,rfl⟩ := G2
  refine wpS_bind (wpS_modify ?_)
  exact wpS_pure ⟨⟨_,rfl⟩,_,_,_,_,rfl,M,h1,fG,h2,iR,by omega⟩
 ·rintro c aO ⟨G1,o,na,nb,g,rfl,M,h1,fG,h2,iR,h3⟩
  exfalso
  omega
 rintro c aO ⟨G1,r,z,rfl,J⟩
 dsimp -zeta only
 exact wpS_pure (h _ _ G1 J)
end
section
variable {f:Keyed -> Nat}
theorem Ew {xs:Array Keyed} {i j:Nat} (hj:j <= xs.size) (k:Nat):fa f (mirror xs i j ((j - i) / 2)) k = if i <= k /\ k < j then fa f xs (i + j - 1 - k) else fa f xs k:=by
 have e:=getElem?_mirror_all (i:=i) hj k
 by_cases h:i <= k /\ k < j
 ·rw [if_pos h] at e ⊢
  exact E3 e
 ·rw [if_neg h] at e ⊢
  exact E3 e
theorem Hu {xs:Array Keyed} {i j:Nat} (hj:j <= xs.size) (h:∀ k l,i <= k -> k < j -> i <= l -> l < j -> fa f xs k = fa f xs l) (k:Nat):fa f (mirror xs i j ((j - i) / 2)) k = fa f xs k:=by
 rw [Ew hj]
 split
 ·exact h _ _ (by omega) (by omega) (by omega) (by omega)
 ·rfl
theorem Vl {xs:Array Keyed} {src d:Nat} (hs:src < xs.size) (hd:d <= src) (k:Nat):fa f (bubble xs src d) k = if k = src - d then fa f xs src else if src - d < k /\ k <= src then fa f xs (k - 1) else fa f xs k:=by
 have e:=getElem?_bubble hs d hd k
 by_cases h1:k = src - d
 ·rw [if_pos h1] at e ⊢
  exact E3 e
 ·rw [if_neg h1] at e ⊢
  by_cases h2:src - d < k /\ k <= src
  ·rw [if_pos h2] at e ⊢
   exact E3 e
  ·rw [if_neg h2] at e ⊢
   exact E3 e
theorem Z1:∀ (m:List Keyed) (n base:Nat) (a:Array Keyed),base + n + m.length <= a.size -> ∀ k:Nat,(List.foldl (fun (a:Array Keyed) (x:Keyed × Nat)=>a.setIfInBounds (base + x.snd) x.fst) a (m.zipIdx n))[k]? = if base + n <= k /\ k < base + n + m.length then m[k - (base + n)]? else a[k]?
 | [],n,base,a,h,k=>by
  rw [if_neg (by rw [List.length_nil]; omega)]
  rfl
 | p :: m,n,base,a,h,k=>by
  rw [List.length_cons] at h
  rw [List.zipIdx_cons,List.foldl_cons,Z1 m (n + 1) base _ (by rw [Array.size_setIfInBounds]; omega) k,List.length_cons]
  by_cases z:k = base + n
  ·subst z
   rw [if_neg (by omega),if_pos (by omega),Nat.sub_self,List.getElem?_cons_zero]
   show (a.setIfInBounds (base + n) p)[base + n]? = some p
   rw [Array.getElem?_setIfInBounds_self_of_lt (by omega)]
  ·by_cases y:base + n <= k /\ k < base + n + (m.length + 1)
   ·rw [if_pos (by omega),if_pos y,show k - (base + n) = (k - (base + (n + 1))) + 1 by omega,List.getElem?_cons_succ]
   ·rw [if_neg (by omega),if_neg y]
    show (a.setIfInBounds (base + n) p)[k]? = _
    rw [Array.getElem?_setIfInBounds_ne (by omega)]
theorem bp {a:Array Keyed} {m:List Keyed} {base:Nat} (h:base + m.length <= a.size) (hp:m.Perm ((a.toList.drop base).take m.length)):(List.foldl (fun (a:Array Keyed) (x:Keyed × Nat)=>a.setIfInBounds (base + x.snd) x.fst) a m.zipIdx).Perm a:=by
 generalize hr:List.foldl (fun (a:Array Keyed) (x:Keyed × Nat)=>a.setIfInBounds (base + x.snd) x.fst) a m.zipIdx = r
 have e:∀ k:Nat,r[k]? = if base <= k /\ k < base + m.length then m[k - base]? else a[k]?:=fun k=>by
  rw [<- hr]
  exact Z1 m 0 base a (by omega) k
 have el:r.toList = a.toList.take base ++ (m ++ a.toList.drop (base + m.length)):=by
  apply List.ext_getElem?
  intro k
  rw [Array.getElem?_toList,e k]
  have aZ:(a.toList.take base).length = base:=by rw [List.length_take,Array.length_toList]; omega
  by_cases z:k < base
  ·rw [if_neg (by omega),List.getElem?_append_left (by omega),List.getElem?_take_of_lt z,Array.getElem?_toList]
  ·rw [List.getElem?_append_right (by omega),aZ]
   by_cases y:k < base + m.length
   ·rw [if_pos (by omega),List.getElem?_append_left (by omega)]
   ·rw [if_neg (by omega),List.getElem?_append_right (by omega),List.getElem?_drop,Array.getElem?_toList]
    congr 1
    omega
 have ea:a.toList = a.toList.take base ++ ((a.toList.drop base).take m.length ++ a.toList.drop (base + m.length)):=by
  rw [<- Hd,List.take_append_drop]
 refine Array.perm_iff_toList_perm.mpr ?_
 rw [el]
 refine (List.Perm.append_left _ (hp.append_right _)).trans ?_
 rw [<- ea]
end
section
variable {prog:Program} {w:World} {A:Around} {E:Value -> Shared -> Prop} {s:Shared} {κ:SortKind} {f:Keyed -> Nat} {a₀:Array Keyed} {st:SortSt}
theorem Qn (a:Array Keyed) {i j:Nat} (h:i <= j):(a.extract i j).toList = (a.toList.drop i).take (j - i):=by
 obtain ⟨k,rfl⟩ : ∃ k,j = i + k:=⟨j - i,by omega⟩
 rw [Gg]
 congr 1
 omega
theorem Gf {a:Array Keyed} {i j:Nat} {p:Keyed} (h:p ∈ (a.extract i j).toList) (tH:i <= j):∃ k,i <= k /\ k < j /\ a[k]? = some p:=by
 rw [Qn a tH] at h
 obtain ⟨m,h1,h2⟩ := E5 h
 rw [Array.getElem?_toList] at h2
 exact ⟨i + m,by omega,by omega,h2⟩
theorem Ul {a:Array Keyed} {i j k:Nat} (hj:j <= a.size) (h:i + k < j):(a.extract i j)[k]? = a[i + k]?:=by
 rw [Array.getElem?_extract]
 split
 ·rfl
 ·omega
theorem U6 {a:Array Keyed} {i j:Nat} (h:Hj f a i j) (hj:j <= a.size) (tH:i <= j):D8 f (a.extract i j).toList:=by
 refine List.pairwise_iff_getElem.mpr fun m n hm hn hmn=>?_
 have hl:(a.extract i j).toList.length = j - i:=by rw [Array.length_toList,Array.size_extract]; omega
 rw [hl] at hm hn
 have e1:(a.extract i j)[m]? = some (a.extract i j).toList[m]:=by rw [<- Array.getElem?_toList]; exact List.getElem?_eq_getElem _
 have e2:(a.extract i j)[n]? = some (a.extract i j).toList[n]:=by rw [<- Array.getElem?_toList]; exact List.getElem?_eq_getElem _
 rw [Ul hj (by omega)] at e1 e2
 have:=h (i + m) (i + n) (by omega) (by omega) (by omega)
 rw [Av e1,Av e2] at this
 exact this
theorem X9 {a:Array Keyed} {i j k:Nat} (hj:j <= a.size) (h:i + k < j):fa f (a.extract i j) k = fa f a (i + k):=E3 (Ul hj h)
theorem bq {σ:Type} {s' st:σ} {Q:PUnit -> σ -> Prop} {M:Model} (h:Q ⟨⟩ s'):wpS M A E s (set s':StateT σ Sem PUnit) Q st:=by
 unfold wpS
 rw [StateT.run_set]
 exact wpAny_pure ⟨rfl,h⟩
theorem Rn (hA : Hm prog w A s κ f a₀) (hB : Bs κ a₀ st) {i sa na pw sb nb pb : Nat} (hi : (pendingOf st)[i]? = some (sa, na, pw)) (hj : (pendingOf st)[i + 1]? = some (sb, nb, pb)) (hs : sb = sa + na) (hna : 0 < na) (hnb : 0 < nb) (hsz : sb + nb <= a₀.size)
  (tQ:Hj f (arrOf st) sa sb) (tR:Hj f (arrOf st) sb (sb + nb)) {Q:Bool -> SortSt -> Prop}
  (h:∀ aO,Bs κ a₀ aO -> pendingOf aO = ((pendingOf st).setIfInBounds i (sa,na + nb,pw)).eraseIdxIfInBounds (i + 1) -> Hj f (arrOf aO) sa (sb + nb) -> (∀ k,k < sa \/ sb + nb <= k -> fa f (arrOf aO) k = fa f (arrOf st) k) -> Q true aO):wpS (model prog w) A E s (mergeAt' i) Q st:=by
 have hsize:=hB.size
 have lJ:∀ p,p ∈ arrOf st -> p ∈ a₀:=fun p hp=>hB.perm.mem_iff.mp hp
 refine wpS_bind (wpS_get ?_)
 dsimp only
 rw [hi,hj]
 dsimp only
 obtain ⟨q,hq⟩ := C4 (a:=arrOf st) (i:=sb) (by omega)
 have rQ:∀ P g,kindOf (SortSt.mk' (kindOf st) (arrOf st) P g (failedOf st)) = κ:=fun _ _=>hB.kind
 refine wpS_bind (bq ?_)
 refine wpS_bind (Bd hq (wpS_bind (Dg hA (rQ _ _) (hB.mem hq) lJ (base:=sa) (n:=na) (by omega) (by omega) (by rw [<- hs]; exact tQ) fun k k1 k2 k3=>?_)))
 dsimp only
 have k2':∀ m,sa <= m -> m < sa + k -> fa f (arrOf st) m <= fa f (arrOf st) sb:=fun m m1 m2=>by
  have:=k2 (m - sa) (by omega)
  rw [show sa + (m - sa) = m by omega] at this
  rw [Av hq]
  simpa using this
 have k3':∀ m,sa + k <= m -> m < sb -> fa f (arrOf st) sb <= fa f (arrOf st) m:=fun m m1 m2=>by
  have:=k3 (m - sa) (by omega) (by omega)
  rw [show sa + (m - sa) = m by omega] at this
  rw [Av hq]
  simp at this
  omega
 by_cases e1:na - k = 0
 ·rw [if_pos (El e1)]
  refine wpS_pure (h _ ⟨hB.perm,hB.kind,hB.failed⟩ rfl (fun m n h1 h2 h3=>?_) fun _ _=>rfl)
  by_cases z:n < sb
  ·exact tQ m n h1 h2 z
  ·by_cases y:m < sb
   ·exact Nat.le_trans (k2' m h1 (by omega)) (tR sb n (Nat.le_refl _) (by omega) h3)
   ·exact tR m n (by omega) h2 h3
 rw [if_neg (Ek e1)]
 obtain ⟨p,hp⟩ := C4 (a:=arrOf st) (i:=sa + k + (na - k) - 1) (by omega)
 have hp':(arrOf st)[sb - 1]? = some p:=by rw [<- hp]; congr 1; omega
 refine wpS_bind (Bd hp (wpS_bind (Dg hA (rQ _ _) (hB.mem hp) lJ (base:=sb) (n:=nb) (by omega) (by omega) tR fun l l1 l2 l3=>?_)))
 dsimp only
 have l2':∀ m,sb <= m -> m < sb + l -> fa f (arrOf st) m <= fa f (arrOf st) (sb - 1):=fun m m1 m2=>by
  have:=l2 (m - sb) (by omega)
  rw [show sb + (m - sb) = m by omega] at this
  rw [Av hp']
  simp at this
  omega
 have PB:∀ m,sb + l <= m -> m < sb + nb -> fa f (arrOf st) (sb - 1) <= fa f (arrOf st) m:=fun m m1 m2=>by
  have:=l3 (m - sb) (by omega) (by omega)
  rw [show sb + (m - sb) = m by omega] at this
  rw [Av hp']
  simpa using this
 by_cases e2:l = 0
 ·rw [if_pos (El e2)]
  refine wpS_pure (h _ ⟨hB.perm,hB.kind,hB.failed⟩ rfl (fun m n h1 h2 h3=>?_) fun _ _=>rfl)
  by_cases z:n < sb
  ·exact tQ m n h1 h2 z
  ·by_cases y:m < sb
   ·exact Nat.le_trans (tQ m (sb - 1) h1 (by omega) (by omega)) (PB n (by omega) h3)
   ·exact tR m n (by omega) h2 h3
 rw [if_neg (Ek e2)]
 have hx:D8 f ((arrOf st).extract (sa + k) sb).toList:=U6 (fun m n h1 h2 h3=>tQ m n (by omega) h2 h3) (by omega) (by omega)
 have hy:D8 f ((arrOf st).extract sb (sb + l)).toList:=U6 (fun m n h1 h2 h3=>tR m n h1 h2 (by omega)) (by omega) (by omega)
 have ax:∀ p,p ∈ (arrOf st).extract (sa + k) sb -> p ∈ a₀:=fun p hp=>by
  obtain ⟨m,_,_,e⟩ := Gf (Array.mem_toList_iff.mpr hp) (by omega)
  exact hB.mem e
 have ay:∀ p,p ∈ (arrOf st).extract sb (sb + l) -> p ∈ a₀:=fun p hp=>by
  obtain ⟨m,_,_,e⟩ := Gf (Array.mem_toList_iff.mpr hp) (by omega)
  exact hB.mem e
 have sx:((arrOf st).extract (sa + k) sb).size = na - k:=by rw [Array.size_extract]; omega
 have sy:((arrOf st).extract sb (sb + l)).size = l:=by rw [Array.size_extract]; omega
 have fx:∀ m,m < na - k -> fa f ((arrOf st).extract (sa + k) sb) m = fa f (arrOf st) (sa + k + m):=fun m hm=>X9 (by omega) (by omega)
 have fy:∀ m,m < l -> fa f ((arrOf st).extract sb (sb + l)) m = fa f (arrOf st) (sb + m):=fun m hm=>X9 (by omega) (by omega)
 have fin : ∀ (r : Array Keyed) (bN : SortSt), Cs f ((arrOf st).extract (sa + k) sb).toList ((arrOf st).extract sb (sb + l)).toList r.toList -> kindOf bN = κ -> failedOf bN = none -> arrOf bN = arrOf st -> pendingOf bN = ((pendingOf st).setIfInBounds i (sa, na + nb, pw)).eraseIdxIfInBounds (i + 1) ->
   Q true (setArr bN (List.foldl (fun (a:Array Keyed) (x:Keyed × Nat)=>a.setIfInBounds (sa + k + x.snd) x.fst) (arrOf bN) r.toList.zipIdx)):=fun r bN J g1 g2 g3 g4=>by
  have hlen:r.toList.length = na - k + l:=by
   rw [J.1.length_eq,List.length_append,Array.length_toList,Array.length_toList,sx,sy]
  have PD:((arrOf st).extract (sa + k) sb).toList ++ ((arrOf st).extract sb (sb + l)).toList = ((arrOf st).toList.drop (sa + k)).take r.toList.length:=by
   rw [hlen,Qn _ (by omega),Gg,show sb - (sa + k) = na - k by omega,List.take_add,List.drop_drop,show sa + k + (na - k) = sb by omega]
  have vZ:∀ m:Nat,(List.foldl (fun (a:Array Keyed) (x:Keyed × Nat)=>a.setIfInBounds (sa + k + x.snd) x.fst) (arrOf bN) r.toList.zipIdx)[m]? = if sa + k <= m /\ m < sa + k + r.toList.length then r.toList[m - (sa + k)]? else (arrOf st)[m]?:=fun m=>by
   rw [g3]
   exact Z1 r.toList 0 (sa + k) (arrOf st) (by omega) m
  have fM:(List.foldl (fun (a:Array Keyed) (x:Keyed × Nat)=>a.setIfInBounds (sa + k + x.snd) x.fst) (arrOf bN) r.toList.zipIdx).Perm (arrOf st):=by
   rw [g3]
   refine bp (by omega) ?_
   rw [<- PD]
   exact J.1
  generalize List.foldl (fun (a:Array Keyed) (x:Keyed × Nat)=>a.setIfInBounds (sa + k + x.snd) x.fst) (arrOf bN) r.toList.zipIdx = a' at vZ fM ⊢
  have lK:∀ m,m < sa + k \/ sb + l <= m -> fa f a' m = fa f (arrOf st) m:=fun m hm=>by
   refine E3 ?_
   rw [vZ m,if_neg (by omega)]
  have fin2:∀ m,sa + k <= m -> m < sb + l -> ∃ p,r.toList[m - (sa + k)]? = some p /\ fa f a' m = f p /\ ∃ n,sa + k <= n /\ n < sb + l /\ (arrOf st)[n]? = some p:=fun m h1 h2=>by
   have hm:m - (sa + k) < r.toList.length:=by omega
   refine ⟨r.toList[m - (sa + k)],List.getElem?_eq_getElem hm,?_,?_⟩
   ·refine Av ?_
    rw [vZ m,if_pos (by omega)]
    exact List.getElem?_eq_getElem hm
   ·have cD:=J.1.mem_iff.mp (List.getElem_mem hm)
    rcases List.mem_append.mp cD with z | z
    ·obtain ⟨n,n1,n2,n3⟩ := Gf z (by omega)
     exact ⟨n,n1,by omega,n3⟩
    ·obtain ⟨n,n1,n2,n3⟩ := Gf z (by omega)
     exact ⟨n,by omega,n2,n3⟩
  have lowP:∀ m,sa <= m -> m < sa + k -> ∀ n,sa + k <= n -> n < sb + l -> fa f (arrOf st) m <= fa f (arrOf st) n:=fun m m1 m2 n n1 n2=>by
   by_cases z:n < sb
   ·exact tQ m n m1 (by omega) z
   ·exact Nat.le_trans (k2' m m1 m2) (tR sb n (Nat.le_refl _) (by omega) (by omega))
  have ED:∀ m,sb + l <= m -> m < sb + nb -> ∀ n,sa + k <= n -> n < sb + l -> fa f (arrOf st) n <= fa f (arrOf st) m:=fun m m1 m2 n n1 n2=>by
   by_cases z:n < sb
   ·exact Nat.le_trans (tQ n (sb - 1) (by omega) (by omega) (by omega)) (PB m m1 m2)
   ·exact tR n m (by omega) (by omega) m2
  refine h _ ⟨fM.trans hB.perm,g1,g2⟩ g4 (fun m n h1 h2 h3=>?_) (fun m hm=>lK m (by omega))
  by_cases c1:m < sa + k
  ·rw [lK m (.inl c1)]
   by_cases c2:n < sa + k
   ·rw [lK n (.inl c2)]
    exact tQ m n h1 h2 (by omega)
   ·by_cases c3:n < sb + l
    ·obtain ⟨p,_,e,n',n1,n2,n3⟩ := fin2 n (by omega) c3
     rw [e,<- Av (f:=f) n3]
     exact lowP m h1 c1 n' n1 n2
    ·rw [lK n (.inr (by omega))]
     exact Nat.le_trans (lowP m h1 c1 (sb - 1) (by omega) (by omega)) (PB n (by omega) h3)
  ·by_cases c3:n < sb + l
   ·obtain ⟨p,e1,e2,_⟩ := fin2 m (by omega) (by omega)
    obtain ⟨q,e3,e4,_⟩ := fin2 n (by omega) c3
    rw [e2,e4]
    exact Lj J.2 e1 e3 (by omega)
   ·rw [lK n (.inr (by omega))]
    by_cases c4:m < sb + l
    ·obtain ⟨p,_,e,n',n1,n2,n3⟩ := fin2 m (by omega) c4
     rw [e,<- Av (f:=f) n3]
     exact ED n (by omega) h3 n' n1 n2
    ·rw [lK m (.inr (by omega))]
     exact tR m n (by omega) h2 h3
 by_cases e3:na - k <= l
 ·rw [if_pos e3]
  refine wpS_bind (Rq hA (rQ _ _) ax ay hx hy (by omega) (by omega) ?_ ?_ fun r bN G J=>?_)
  ·rw [fx 0 (by omega),fy 0 (by omega)]
   exact k3' _ (by omega) (by omega)
  ·intro q hq
   obtain ⟨m,m1,m2,m3⟩ := Gf hq (by omega)
   rw [sx,fx _ (by omega),show sa + k + (na - k - 1) = sb - 1 by omega,<- Av (f:=f) m3]
   exact l2' m m1 m2
  ·obtain ⟨g,rfl⟩ := G
   refine wpS_bind (wpS_modify ?_)
   refine wpS_bind (wpS_get (wpS_pure ?_))
   have e:(failedOf st).isNone = true:=by rw [hB.failed]; rfl
   have:=fin r (SortSt.mk' (kindOf st) (arrOf st) (((pendingOf st).setIfInBounds i (sa,na + nb,pw)).eraseIdxIfInBounds (i + 1)) g (failedOf st)) J hB.kind hB.failed rfl rfl
   rw [<- e] at this
   exact this
 ·rw [if_neg e3]
  refine wpS_bind (Ro hA (rQ _ _) ax ay hx hy (by omega) (by omega) ?_ ?_ fun r bN G J=>?_)
  ·intro p hp
   obtain ⟨m,m1,m2,m3⟩ := Gf hp (by omega)
   rw [fy 0 (by omega),<- Av (f:=f) m3]
   exact k3' m m1 m2
  ·intro j hj
   rw [sx,fx _ (by omega),fy j (by omega),show sa + k + (na - k - 1) = sb - 1 by omega]
   exact l2' _ (by omega) (by omega)
  ·obtain ⟨g,rfl⟩ := G
   refine wpS_bind (wpS_modify ?_)
   refine wpS_bind (wpS_get (wpS_pure ?_))
   have e:(failedOf st).isNone = true:=by rw [hB.failed]; rfl
   have:=fin r (SortSt.mk' (kindOf st) (arrOf st) (((pendingOf st).setIfInBounds i (sa,na + nb,pw)).eraseIdxIfInBounds (i + 1)) g (failedOf st)) J hB.kind hB.failed rfl rfl
   rw [<- e] at this
   exact this
end
section
variable {prog:Program} {w:World} {A:Around} {E:Value -> Shared -> Prop} {s:Shared} {κ:SortKind} {f:Keyed -> Nat} {a₀:Array Keyed} {st:SortSt}
def Ch (f:Keyed -> Nat) (lo:Nat) (st aO:SortSt):Prop:=pendingOf aO = pendingOf st /\ ∀ k,k < lo -> fa f (arrOf aO) k = fa f (arrOf st) k
theorem Ch.refl {lo:Nat}:Ch f lo st st:=⟨rfl,fun _ _=>rfl⟩
theorem Ch.trans {lo:Nat} {bN aU fB:SortSt} (h:Ch f lo bN aU) (g:Ch f lo aU fB):Ch f lo bN fB:=⟨g.1.trans h.1,fun k hk=>(g.2 k hk).trans (h.2 k hk)⟩
theorem Io {i j:Nat} {Q:Unit -> SortSt -> Prop} (h:Q () (setArr st (mirror (arrOf st) i j ((j - i) / 2)))):wpS (model prog w) A E s (reverseSlice' i j) Q st:=by
 rw [reverseSlice'_eq]
 exact wpS_modify h
theorem Bs.rev (hB:Bs κ a₀ st) (i j:Nat):Bs κ a₀ (setArr st (mirror (arrOf st) i j ((j - i) / 2))):=⟨(mirror_perm _ _ _ _).trans hB.perm,hB.kind,hB.failed⟩
theorem Zi {a:Array Keyed} {lo:Nat}:Hj f a lo (lo + 1):=fun i j h1 h2 h3=>by
 obtain rfl:i = j:=by omega
 exact Nat.le_refl _
theorem Q7 {a:Array Keyed} {lo n:Nat} (h:Hj f a lo (lo + n)) (hn:0 < n) (e:fa f a (lo + n - 1) <= fa f a (lo + n)):Hj f a lo (lo + (n + 1)):=fun i j h1 h2 h3=>by
 by_cases z:j < lo + n
 ·exact h i j h1 h2 z
 ·obtain rfl:j = lo + n:=by omega
  by_cases y:i < lo + n
  ·exact Nat.le_trans (h i (lo + n - 1) h1 (by omega) (by omega)) e
  ·obtain rfl:i = lo + n:=by omega
   exact Nat.le_refl _
def bz (f:Keyed -> Nat) (a:Array Keyed) (lo n q:Nat):Prop:=(∀ i j,lo <= i -> i <= j -> j < lo + n -> fa f a j <= fa f a i) /\ q < n /\ ∀ i,lo + n - (q + 1) <= i -> i < lo + n -> fa f a i = fa f a (lo + n - 1)
theorem bz.flat {a:Array Keyed} {lo n q:Nat} (h:bz f a lo n q) (hs:lo + n <= a.size) (k:Nat):fa f (mirror a (lo + n - (q + 1)) (lo + n) ((lo + n - (lo + n - (q + 1))) / 2)) k = fa f a k:=Hu hs (fun k l h1 h2 h3 h4=>(h.2.2 k h1 h2).trans (h.2.2 l h3 h4).symm) k
theorem bz.asc {a b:Array Keyed} {lo n q:Nat} (h:bz f a lo n q) (hs:lo + n <= b.size) (e:∀ k,fa f b k = fa f a k):Hj f (mirror b lo (lo + n) ((lo + n - lo) / 2)) lo (lo + n):=fun i j h1 h2 h3=>by
 rw [Ew hs,Ew hs,if_pos (by omega),if_pos (by omega),e,e]
 exact h.1 _ _ (by omega) (by omega) (by omega)
theorem U0 (hA : Hm prog w A s κ f a₀) (hB : Bs κ a₀ st) {lo nr : Nat} (w4 : 0 < nr) (hsz : lo + nr <= a₀.size) {Q : Option Nat -> SortSt -> Prop}
  (h:∀ m aO,0 < m -> m <= nr -> Bs κ a₀ aO -> Ch f lo st aO -> Hj f (arrOf aO) lo (lo + m) -> Q (some m) aO):wpS (model prog w) A E s (countRun' lo nr) Q st:=by
 refine wpS_bind (wpS_mono (wpS_forRange (I:=fun x c aO=>aO = st /\ c = (none,x) /\ Hj f (arrOf st) lo (lo + x)) (Q:=fun c aO=>aO = st /\ ∃ n,c = (none,n) /\ 0 < n /\ n <= nr /\ Hj f (arrOf st) lo (lo + n) /\ (n < nr -> fa f (arrOf st) (lo + n) < fa f (arrOf st) (lo + n - 1))) ?_ ?_ ⟨rfl,rfl,Zi⟩) ?_)
 ·rintro x c aO h1 h2 ⟨rfl,rfl,h3⟩
  dsimp only
  refine wpS_bind (Gq hA hB (by omega) (by omega) ?_)
  dsimp only
  by_cases z:fa f (arrOf aO) (lo + x) < fa f (arrOf aO) (lo + x - 1)
  ·rw [if_pos (decide_eq_true z)]
   exact wpS_pure ⟨rfl,x,rfl,by omega,by omega,h3,fun _=>z⟩
  ·rw [if_neg (by rw [decide_eq_true_eq]; exact z)]
   exact wpS_pure ⟨rfl,rfl,Q7 h3 (by omega) (by omega)⟩
 ·rintro c aO ⟨rfl,rfl,h3⟩
  have e:max 1 nr = nr:=by omega
  rw [e] at h3 ⊢
  exact ⟨rfl,nr,rfl,w4,Nat.le_refl _,h3,fun z=>absurd z (Nat.lt_irrefl _)⟩
 rintro c aO ⟨rfl,n,rfl,h1,h2,h3,h4⟩
 dsimp only
 by_cases e1:n = nr
 ·rw [if_pos (El e1)]
  exact wpS_pure (h _ _ h1 h2 hB Ch.refl h3)
 rw [if_neg (Ek e1)]
 have h4':=h4 (by omega)
 have part:∀ bN,Bs κ a₀ bN -> pendingOf bN = pendingOf aO -> (∀ k,fa f (arrOf bN) k = fa f (arrOf aO) k) -> (∀ i,lo <= i -> i < lo + n -> fa f (arrOf aO) i = fa f (arrOf aO) (lo + n - 1)) -> bz f (arrOf bN) lo (n + 1) 0:=fun bN B1 p1 f1 eq=>by
  refine ⟨fun i j i1 i2 i3=>?_,by omega,fun i i1 i2=>?_⟩
  ·rw [f1,f1]
   by_cases z:j < lo + n
   ·rw [eq i i1 (by omega),eq j (by omega) z]
    exact Nat.le_refl _
   ·obtain rfl:j = lo + n:=by omega
    by_cases y:i < lo + n
    ·rw [eq i i1 y]
     omega
    ·obtain rfl:i = lo + n:=by omega
     exact Nat.le_refl _
  ·obtain rfl:i = lo + n:=by omega
   rfl
 by_cases e2:n > 1
 case' pos =>
  rw [if_pos e2]
  refine wpS_bind (Gq hA hB (by omega) (by omega) ?_)
  dsimp only
  by_cases z:fa f (arrOf aO) lo < fa f (arrOf aO) (lo + n - 1)
  ·rw [if_pos (decide_eq_true z)]
   exact wpS_pure (h _ _ h1 h2 hB Ch.refl h3)
  rw [if_neg (by rw [decide_eq_true_eq]; exact z)]
  have eq:∀ i,lo <= i -> i < lo + n -> fa f (arrOf aO) i = fa f (arrOf aO) (lo + n - 1):=fun i i1 i2=>by
   have a1:=h3 lo i (Nat.le_refl _) i1 i2
   have a2:=h3 i (lo + n - 1) i1 (by omega) (by omega)
   omega
  refine wpS_bind (Io ?_)
  have B1:=hB.rev lo (lo + n)
  have f1:∀ k,fa f (arrOf (setArr aO (mirror (arrOf aO) lo (lo + n) ((lo + n - lo) / 2)))) k = fa f (arrOf aO) k:=Hu (by rw [hB.size]; omega) fun k l k1 k2 l1 l2=>(eq k k1 k2).trans (eq l l1 l2).symm
  have F1:=part _ B1 rfl f1 eq
  have C1:Ch f lo aO (setArr aO (mirror (arrOf aO) lo (lo + n) ((lo + n - lo) / 2))):=⟨rfl,fun k _=>f1 k⟩
  generalize setArr aO (mirror (arrOf aO) lo (lo + n) ((lo + n - lo) / 2)) = bN at B1 F1 C1 ⊢
 case' neg =>
  rw [if_neg e2]
  obtain rfl:n = 1:=by omega
  have F1:=part aO hB rfl (fun _=>rfl) fun i i1 i2=>by
   obtain rfl:i = lo:=by omega
   rfl
  have C1:Ch f lo aO aO:=Ch.refl
  have B1:=hB
 all_goals
  refine wpS_bind (wpS_lift (wpAny_rule ⟨rfl,?_⟩))
  refine wpS_bind (wpS_mono (wpS_forRange (I:=fun x c aU=>∃ q,c = (none,x,q) /\ x <= nr /\ Bs κ a₀ aU /\ Ch f lo aO aU /\ bz f (arrOf aU) lo x q) (Q:=fun c aU=>∃ n q,c = (none,n,q) /\ n <= nr /\ Bs κ a₀ aU /\ Ch f lo aO aU /\ bz f (arrOf aU) lo n q) ?_ ?_ ⟨0,rfl,by omega,B1,C1,F1⟩) ?_)
  ·rintro x c aU x1 x2 ⟨q,rfl,_,B2,C2,F2⟩
   dsimp only
   have sz:=B2.size
   refine wpS_bind (Gq hA B2 (by omega) (by omega) ?_)
   dsimp only
   by_cases z:fa f (arrOf aU) (lo + x) < fa f (arrOf aU) (lo + x - 1)
   ·rw [if_pos (decide_eq_true z)]
    have F3:∀ fB,(∀ k,fa f (arrOf fB) k = fa f (arrOf aU) k) -> bz f (arrOf fB) lo (x + 1) 0:=fun fB e3=>by
     have q1:=F2.2.1
     refine ⟨fun i j i1 i2 i3=>?_,by omega,fun i i1 i2=>?_⟩
     ·rw [e3,e3]
      by_cases y:j < lo + x
      ·exact F2.1 i j i1 i2 y
      ·obtain rfl:j = lo + x:=by omega
       by_cases v:i < lo + x
       ·exact Nat.le_trans (Nat.le_of_lt z) (F2.1 i (lo + x - 1) i1 (by omega) (by omega))
       ·obtain rfl:i = lo + x:=by omega
        exact Nat.le_refl _
     ·obtain rfl:i = lo + x:=by omega
      rfl
    by_cases e:q > 0
    ·rw [if_pos e]
     exact wpS_bind (Io (wpS_pure ⟨0,rfl,by omega,B2.rev _ _,C2.trans ⟨rfl,fun k _=>F2.flat (by omega) k⟩,F3 _ fun k=>F2.flat (by omega) k⟩))
    ·rw [if_neg e]
     exact wpS_pure ⟨0,rfl,by omega,B2,C2,F3 _ fun _=>rfl⟩
   ·rw [if_neg (by rw [decide_eq_true_eq]; exact z)]
    refine wpS_bind (Gq hA B2 (by omega) (by omega) ?_)
    dsimp only
    by_cases y:fa f (arrOf aU) (lo + x - 1) < fa f (arrOf aU) (lo + x)
    ·rw [if_pos (decide_eq_true y)]
     exact wpS_pure ⟨x,q,rfl,by omega,B2,C2,F2⟩
    ·rw [if_neg (by rw [decide_eq_true_eq]; exact y)]
     have q1:=F2.2.1
     refine wpS_pure ⟨q + 1,rfl,by omega,B2,C2,fun i j i1 i2 i3=>?_,by omega,fun i i1 i2=>?_⟩
     ·by_cases v:j < lo + x
      ·exact F2.1 i j i1 i2 v
      ·obtain rfl:j = lo + x:=by omega
       by_cases u:i < lo + x
       ·have:=F2.1 i (lo + x - 1) i1 (by omega) (by omega)
        omega
       ·obtain rfl:i = lo + x:=by omega
        exact Nat.le_refl _
     ·rw [show lo + (x + 1) - 1 = lo + x by omega]
      by_cases v:i < lo + x
      ·have:=F2.2.2 i (by omega) v
       omega
      ·obtain rfl:i = lo + x:=by omega
       rfl
  ·rintro c aU ⟨q,rfl,a1,B2,C2,F2⟩
   exact ⟨_,q,rfl,a1,B2,C2,F2⟩
  rintro c aU ⟨m,q,rfl,a1,B2,C2,F2⟩
  dsimp only
  have sz:=B2.size
  have q1:=F2.2.1
  by_cases e:q > 0
  case' pos =>
   rw [if_pos e]
   refine wpS_bind (Io (wpS_bind (Io ?_)))
   have B3:=(B2.rev (lo + m - (q + 1)) (lo + m)).rev lo (lo + m)
   have A3:Hj f (arrOf (setArr (setArr aU (mirror (arrOf aU) (lo + m - (q + 1)) (lo + m) ((lo + m - (lo + m - (q + 1))) / 2))) (mirror (mirror (arrOf aU) (lo + m - (q + 1)) (lo + m) ((lo + m - (lo + m - (q + 1))) / 2)) lo (lo + m) ((lo + m - lo) / 2)))) lo (lo + m):=F2.asc (b:=mirror (arrOf aU) (lo + m - (q + 1)) (lo + m) ((lo + m - (lo + m - (q + 1))) / 2)) (by rw [mirror_size]; omega) (fun k=>F2.flat (by omega) k)
   have C3:Ch f lo aO (setArr (setArr aU (mirror (arrOf aU) (lo + m - (q + 1)) (lo + m) ((lo + m - (lo + m - (q + 1))) / 2))) (mirror (mirror (arrOf aU) (lo + m - (q + 1)) (lo + m) ((lo + m - (lo + m - (q + 1))) / 2)) lo (lo + m) ((lo + m - lo) / 2))):=C2.trans ⟨rfl,fun k hk=>by
    show fa f (mirror (mirror (arrOf aU) (lo + m - (q + 1)) (lo + m) ((lo + m - (lo + m - (q + 1))) / 2)) lo (lo + m) ((lo + m - lo) / 2)) k = _
    rw [Ew (by rw [mirror_size]; omega),if_neg (by omega)]
    exact F2.flat (by omega) k⟩
   generalize setArr (setArr aU (mirror (arrOf aU) (lo + m - (q + 1)) (lo + m) ((lo + m - (lo + m - (q + 1))) / 2))) (mirror (mirror (arrOf aU) (lo + m - (q + 1)) (lo + m) ((lo + m - (lo + m - (q + 1))) / 2)) lo (lo + m) ((lo + m - lo) / 2)) = fB at B3 C3 A3 ⊢
  case' neg =>
   rw [if_neg e]
   refine wpS_bind (Io ?_)
   have B3:=B2.rev lo (lo + m)
   have A3:Hj f (arrOf (setArr aU (mirror (arrOf aU) lo (lo + m) ((lo + m - lo) / 2)))) lo (lo + m):=F2.asc (b:=arrOf aU) (by omega) (fun k=>rfl)
   have C3:Ch f lo aO (setArr aU (mirror (arrOf aU) lo (lo + m) ((lo + m - lo) / 2))):=C2.trans ⟨rfl,fun k hk=>by
    show fa f (mirror (arrOf aU) lo (lo + m) ((lo + m - lo) / 2)) k = _
    rw [Ew (by omega),if_neg (by omega)]⟩
   generalize setArr aU (mirror (arrOf aU) lo (lo + m) ((lo + m - lo) / 2)) = fB at B3 C3 A3 ⊢
  all_goals
   refine wpS_bind (wpS_mono (wpS_forRange (I:=fun x c bP=>bP = fB /\ c = (none,x) /\ Hj f (arrOf fB) lo (lo + x)) (Q:=fun c bP=>bP = fB /\ ∃ n,c = (none,n) /\ 0 < n /\ n <= nr /\ Hj f (arrOf fB) lo (lo + n)) ?_ ?_ ⟨rfl,rfl,A3⟩) ?_)
   ·rintro x c bP y1 y2 ⟨rfl,rfl,y3⟩
    dsimp only
    refine wpS_bind (Gq hA B3 (by omega) (by omega) ?_)
    dsimp only
    by_cases z:fa f (arrOf bP) (lo + x) < fa f (arrOf bP) (lo + x - 1)
    ·rw [if_pos (decide_eq_true z)]
     exact wpS_pure ⟨rfl,x,rfl,by omega,by omega,y3⟩
    ·rw [if_neg (by rw [decide_eq_true_eq]; exact z)]
     exact wpS_pure ⟨rfl,rfl,Q7 y3 (by omega) (by omega)⟩
   ·rintro c bP ⟨rfl,rfl,y3⟩
    have e:max m nr = nr:=by omega
    rw [e] at y3 ⊢
    exact ⟨rfl,nr,rfl,w4,Nat.le_refl _,y3⟩
   rintro c bP ⟨rfl,n,rfl,n1,n2,n3⟩
   dsimp only
   exact wpS_pure (h _ _ n1 n2 B3 C3 n3)
end
section
variable {f:Keyed -> Nat}
def Cu (f:Keyed -> Nat) (a:Array Keyed):Nat -> List (Nat × Nat × Nat) -> Nat -> Prop
 | s0,[],hi=>s0 = hi
 | s0,x :: r,hi=>x.1 = s0 /\ 0 < x.2.1 /\ Hj f a s0 (s0 + x.2.1) /\ Cu f a (s0 + x.2.1) r hi
theorem Cu.len {a:Array Keyed}:∀ {l:List (Nat × Nat × Nat)} {s0 hi:Nat},Cu f a s0 l hi -> s0 + l.length <= hi
 | [],s0,hi,h=>Nat.le_of_eq h
 | x :: r,s0,hi,h=>by
  have:=h.2.2.2.len
  have h2:=h.2.1
  rw [List.length_cons]
  omega
theorem Cu.congr {a a':Array Keyed}:∀ {l:List (Nat × Nat × Nat)} {s0 hi:Nat},Cu f a s0 l hi -> (∀ k,s0 <= k -> k < hi -> fa f a' k = fa f a k) -> Cu f a' s0 l hi
 | [],s0,hi,h,e=>h
 | x :: r,s0,hi,h,e=>by
  obtain ⟨h1,h2,h3,h4⟩ := h
  have hl:=h4.len
  refine ⟨h1,h2,fun i j i1 i2 i3=>?_,h4.congr fun k k1 k2=>e k (by omega) k2⟩
  rw [e i i1 (by omega),e j (by omega) (by omega)]
  exact h3 i j i1 i2 i3
theorem Cu.app {a:Array Keyed}:∀ {l m:List (Nat × Nat × Nat)} {s0 hi:Nat},Cu f a s0 (l ++ m) hi ↔ ∃ mid,Cu f a s0 l mid /\ Cu f a mid m hi
 | [],m,s0,hi=>⟨fun h=>⟨s0,rfl,h⟩,fun ⟨mid,h1,h2⟩=>by rw [show s0 = mid from h1]; exact h2⟩
 | x :: r,m,s0,hi=>by
  constructor
  ·rintro ⟨h1,h2,h3,h4⟩
   obtain ⟨mid,g1,g2⟩ := Cu.app.mp h4
   exact ⟨mid,⟨h1,h2,h3,g1⟩,g2⟩
  ·rintro ⟨mid,⟨h1,h2,h3,g1⟩,g2⟩
   exact ⟨h1,h2,h3,Cu.app.mpr ⟨mid,g1,g2⟩⟩
theorem Cu.mod {a:Array Keyed} {pw:Nat}:∀ {l:List (Nat × Nat × Nat)} {i s0 hi:Nat},Cu f a s0 l hi -> Cu f a s0 (l.modify i fun x=>(x.fst,x.2.fst,pw)) hi
 | [],i,s0,hi,h=>by rw [List.modify_nil]; exact h
 | x :: r,0,s0,hi,h=>by rw [List.modify_zero_cons]; exact h
 | x :: r,i + 1,s0,hi,h=>by
  rw [List.modify_succ_cons]
  exact ⟨h.1,h.2.1,h.2.2.1,Cu.mod h.2.2.2⟩
theorem Ui (p:Array (Nat × Nat × Nat)) (i:Nat) (x:Nat × Nat × Nat) (h:i + 1 < p.size):((p.setIfInBounds i x).eraseIdxIfInBounds (i + 1)).toList = p.toList.take i ++ x :: p.toList.drop (i + 2):=by
 have e:((p.setIfInBounds i x).eraseIdxIfInBounds (i + 1)).toList = (p.toList.set i x).eraseIdx (i + 1):=by
  unfold Array.eraseIdxIfInBounds
  rw [dif_pos (by rw [Array.size_setIfInBounds]; exact h),Array.toList_eraseIdx,Array.toList_setIfInBounds]
 rw [e,List.eraseIdx_eq_take_drop_succ]
 have hl:i < p.toList.length:=by rw [Array.length_toList]; omega
 rw [List.drop_set_of_lt (by omega),List.take_set,List.take_add_one,List.getElem?_eq_getElem hl]
 have ht:(p.toList.take i).length = i:=by rw [List.length_take]; omega
 rw [List.set_append_right _ _ (by omega),ht,Nat.sub_self,List.append_assoc]
 rfl
end
section
variable {prog:Program} {w:World} {A:Around} {E:Value -> Shared -> Prop} {s:Shared} {κ:SortKind} {f:Keyed -> Nat} {a₀:Array Keyed} {st:SortSt}
theorem Z3 (hA : Hm prog w A s κ f a₀) (hB : Bs κ a₀ st) {lo n ok : Nat} (aP : 0 < ok) (hn : ok <= n) (hsz : lo + n <= a₀.size) (hs : Hj f (arrOf st) lo (lo + ok)) {Q : Bool -> SortSt -> Prop}
  (h:∀ aO,Bs κ a₀ aO -> Ch f lo st aO -> Hj f (arrOf aO) lo (lo + n) -> Q true aO):wpS (model prog w) A E s (binarySort' lo n ok) Q st:=by
 refine wpS_bind (wpS_mono (wpS_forRange (I:=fun k c aO=>c = (none,()) /\ Bs κ a₀ aO /\ Ch f lo st aO /\ Hj f (arrOf aO) lo (lo + k)) (Q:=fun c aO=>c = (none,()) /\ Bs κ a₀ aO /\ Ch f lo st aO /\ Hj f (arrOf aO) lo (lo + n)) ?_ ?_ ⟨rfl,hB,Ch.refl,by rw [show max ok 1 = ok by omega]; exact hs⟩) ?_)
 ·rintro k c aO k1 k2 ⟨rfl,B1,C1,A1⟩
  dsimp only
  have sz:=B1.size
  refine wpS_bind (wpS_mono (wpS_forRange (I:=fun x c aU=>aU = aO /\ ∃ l r,c = (none,l,r) /\ l <= r /\ r <= k /\ r + x <= l + k /\ (∀ i,i < l -> fa f (arrOf aO) (lo + i) <= fa f (arrOf aO) (lo + k)) /\ (∀ i,r <= i -> i < k -> fa f (arrOf aO) (lo + k) <= fa f (arrOf aO) (lo + i)))
   (Q:=fun c aU=>aU = aO /\ ∃ l,c = (none,l,l) /\ l <= k /\ (∀ i,i < l -> fa f (arrOf aO) (lo + i) <= fa f (arrOf aO) (lo + k)) /\ (∀ i,l <= i -> i < k -> fa f (arrOf aO) (lo + k) <= fa f (arrOf aO) (lo + i))) ?_ ?_ ⟨rfl,0,k,rfl,by omega,by omega,by omega,fun i hi=>by omega,fun i h1 h2=>by omega⟩) ?_)
  ·rintro x c aU _ hx ⟨rfl,l,r,rfl,g1,g2,g3,g4,g5⟩
   dsimp only
   by_cases e:l >= r
   ·rw [if_pos e]
    obtain rfl:l = r:=by omega
    exact wpS_pure ⟨rfl,l,rfl,g2,g4,g5⟩
   ·rw [if_neg e]
    refine wpS_bind (Gq hA B1 (by omega) (by omega) ?_)
    dsimp only
    by_cases z:fa f (arrOf aU) (lo + k) < fa f (arrOf aU) (lo + (l + r) / 2)
    ·rw [if_pos (decide_eq_true z)]
     refine wpS_pure ⟨rfl,l,_,rfl,by omega,by omega,by omega,g4,fun i i1 i2=>?_⟩
     have:=A1 (lo + (l + r) / 2) (lo + i) (by omega) (by omega) (by omega)
     omega
    ·rw [if_neg (by rw [decide_eq_true_eq]; exact z)]
     refine wpS_pure ⟨rfl,_,r,rfl,by omega,by omega,by omega,fun i i1=>?_,g5⟩
     have:=A1 (lo + i) (lo + (l + r) / 2) (by omega) (by omega) (by omega)
     omega
  ·rintro c aU ⟨rfl,l,r,rfl,g1,g2,g3,g4,g5⟩
   obtain rfl:l = r:=by omega
   exact ⟨rfl,l,rfl,g2,g4,g5⟩
  rintro c aU ⟨rfl,l,rfl,g2,g4,g5⟩
  dsimp only
  have eb:∀ m,fa f (bubble (arrOf aU) (lo + k) (lo + k - (lo + l))) m = if m = lo + l then fa f (arrOf aU) (lo + k) else if lo + l < m /\ m <= lo + k then fa f (arrOf aU) (m - 1) else fa f (arrOf aU) m:=fun m=>by
   rw [Vl (by omega) (by omega),show lo + k - (lo + k - (lo + l)) = lo + l by omega]
  refine wpS_bind (m:=moveDown' (lo + k) (lo + l)) ?_
  rw [moveDown'_eq]
  refine wpS_modify (wpS_pure ⟨rfl,⟨(bubble_perm _ _ _).trans B1.perm,B1.kind,B1.failed⟩,C1.trans ⟨rfl,fun m hm=>?_⟩,fun i j i1 i2 i3=>?_⟩)
  ·show fa f (bubble (arrOf aU) (lo + k) (lo + k - (lo + l))) m = _
   rw [eb m,if_neg (by omega),if_neg (by omega)]
  ·show fa f (bubble (arrOf aU) (lo + k) (lo + k - (lo + l))) i <= fa f (bubble (arrOf aU) (lo + k) (lo + k - (lo + l))) j
   rw [eb i,eb j]
   have G4:∀ i,lo <= i -> i < lo + l -> fa f (arrOf aU) i <= fa f (arrOf aU) (lo + k):=fun i i1 i2=>by
    have:=g4 (i - lo) (by omega)
    rwa [show lo + (i - lo) = i by omega] at this
   have G5:∀ i,lo + l <= i -> i < lo + k -> fa f (arrOf aU) (lo + k) <= fa f (arrOf aU) i:=fun i i1 i2=>by
    have:=g5 (i - lo) (by omega) (by omega)
    rwa [show lo + (i - lo) = i by omega] at this
   by_cases c1:i = lo + l
   ·rw [if_pos c1]
    by_cases c2:j = lo + l
    ·rw [if_pos c2]
     exact Nat.le_refl _
    ·rw [if_neg c2,if_pos (by omega)]
     exact G5 (j - 1) (by omega) (by omega)
   ·rw [if_neg c1]
    by_cases c3:lo + l < i /\ i <= lo + k
    ·rw [if_pos c3,if_neg (by omega),if_pos (by omega)]
     exact A1 (i - 1) (j - 1) (by omega) (by omega) (by omega)
    ·rw [if_neg c3]
     by_cases c2:j = lo + l
     ·rw [if_pos c2]
      exact G4 i i1 (by omega)
     ·rw [if_neg c2]
      by_cases c4:lo + l < j /\ j <= lo + k
      ·rw [if_pos c4]
       exact Nat.le_trans (G4 i i1 (by omega)) (G5 (j - 1) (by omega) (by omega))
      ·rw [if_neg c4]
       exact A1 i j i1 i2 (by omega)
 ·rintro c aO ⟨rfl,B1,C1,A1⟩
  rw [show max (max ok 1) n = n by omega] at A1
  exact ⟨rfl,B1,C1,A1⟩
 rintro c aO ⟨rfl,B1,C1,A1⟩
 exact wpS_pure (h _ B1 C1 A1)
theorem M9 (hA : Hm prog w A s κ f a₀) (hB : Bs κ a₀ st) {i hi : Nat} (hR : Cu f (arrOf st) 0 (pendingOf st).toList hi) (hh : hi <= a₀.size) (aZ : i + 1 < (pendingOf st).size) {Q : Bool -> SortSt -> Prop}
  (h:∀ aO,Bs κ a₀ aO -> Cu f (arrOf aO) 0 (pendingOf aO).toList hi -> (pendingOf aO).size + 1 = (pendingOf st).size -> (∀ k,hi <= k -> fa f (arrOf aO) k = fa f (arrOf st) k) -> Q true aO):wpS (model prog w) A E s (mergeAt' i) Q st:=by
 have hl:i + 1 < (pendingOf st).toList.length:=by rw [Array.length_toList]; exact aZ
 obtain ⟨sa,na,pw,ea⟩ : ∃ sa na pw,(pendingOf st).toList[i]? = some (sa,na,pw):=⟨_,_,_,List.getElem?_eq_getElem (by omega)⟩
 obtain ⟨sb,nb,pb,eb⟩ : ∃ sb nb pb,(pendingOf st).toList[i + 1]? = some (sb,nb,pb):=⟨_,_,_,List.getElem?_eq_getElem (by omega)⟩
 have ed:(pendingOf st).toList = (pendingOf st).toList.take i ++ (sa,na,pw) :: (sb,nb,pb) :: (pendingOf st).toList.drop (i + 2):=by
  have h1:=(List.take_append_drop i (pendingOf st).toList).symm
  rw [List.drop_eq_getElem_cons (by omega),(List.getElem?_eq_some_iff.mp ea).2,List.drop_eq_getElem_cons hl,(List.getElem?_eq_some_iff.mp eb).2] at h1
  exact h1
 have EE:=hR
 rw [ed] at EE
 obtain ⟨mid,r1,r2⟩ := Cu.app.mp EE
 obtain ⟨a1,a2,a3,b1,b2,b3,r3⟩ := r2
 dsimp only at a1 a2 a3 b1 b2 b3 r3
 subst a1 b1
 have l1:=r1.len
 have l3:=r3.len
 refine Rn hA hB (by rw [<- Array.getElem?_toList]; exact ea) (by rw [<- Array.getElem?_toList]; exact eb) rfl a2 b2 (by omega) a3 b3 fun aO B' p' A' f'=>?_
 refine h aO B' ?_ ?_ fun k hk=>f' k (by omega)
 ·rw [p',Ui _ _ _ aZ]
  refine Cu.app.mpr ⟨sa,r1.congr fun k k1 k2=>f' k (by omega),rfl,by show 0 < na + nb; omega,?_,?_⟩
  ·show Hj f (arrOf aO) sa (sa + (na + nb))
   rw [<- Nat.add_assoc]
   exact A'
  ·show Cu f (arrOf aO) (sa + (na + nb)) _ _
   rw [<- Nat.add_assoc]
   exact r3.congr fun k k1 k2=>f' k (by omega)
 ·rw [p',<- Array.length_toList,Ui _ _ _ aZ,<- Array.length_toList (xs:=pendingOf st)]
  rw [List.length_append,List.length_cons,List.length_take,List.length_drop]
  omega
end
section
variable {prog:Program} {w:World} {A:Around} {E:Value -> Shared -> Prop} {s:Shared} {κ:SortKind} {f:Keyed -> Nat} {a₀:Array Keyed} {st:SortSt}
theorem Cu.push {a a':Array Keyed} {p:Array (Nat × Nat × Nat)} {lo n pw:Nat} (h:Cu f a 0 p.toList lo) (e:∀ k,k < lo -> fa f a' k = fa f a k) (hn:0 < n) (hs:Hj f a' lo (lo + n)):Cu f a' 0 (p.push (lo,n,pw)).toList (lo + n):=by
 rw [Array.toList_push]
 exact Cu.app.mpr ⟨lo,h.congr fun k _ hk=>e k hk,rfl,hn,hs,rfl⟩
theorem Rr (hA:Hm prog w A s κ f a₀) (hB:Bs κ a₀ st) (hp:pendingOf st = #[]) {Q:Unit -> SortSt -> Prop} (h:∀ aO,Bs κ a₀ aO -> Hj f (arrOf aO) 0 a₀.size -> Q () aO):wpS (model prog w) A E s sortRuns' Q st:=by
 have sz0:=hB.size
 rw [sortRuns'_eq]
 refine wpS_bind (wpS_get ?_)
 refine wpS_bind (wpS_mono (wpS_forRange (I:=fun x c aO=>∃ lo,c = (none,lo) /\ Bs κ a₀ aO /\ Cu f (arrOf aO) 0 (pendingOf aO).toList lo /\ lo <= a₀.size /\ (lo < a₀.size -> x <= lo)) (Q:=fun c aO=>c = (none,a₀.size) /\ Bs κ a₀ aO /\ Cu f (arrOf aO) 0 (pendingOf aO).toList a₀.size) ?_ ?_ ⟨0,rfl,hB,by rw [hp]; rfl,by omega,fun _=>Nat.le_refl _⟩) ?_)
 ·rintro x c bN _ x2 ⟨lo,rfl,B1,R1,l1,l2⟩
  dsimp only
  rw [show (arrOf st).size = a₀.size from sz0]
  by_cases e1:lo >= a₀.size
  ·rw [if_pos e1]
   obtain rfl:lo = a₀.size:=by omega
   exact wpS_pure ⟨rfl,B1,R1⟩
  rw [if_neg e1]
  refine wpS_bind (U0 hA B1 (by omega) (by omega) fun m aU m1 m2 B2 C2 A2=>?_)
  dsimp only
  have R2:Cu f (arrOf aU) 0 (pendingOf aU).toList lo:=by
   rw [C2.1]
   exact R1.congr fun k _ hk=>C2.2 k hk
  by_cases e2:m < minRun' a₀.size a₀.size 0
  case' pos =>
   rw [if_pos e2]
   refine wpS_bind (wpS_lift (wpAny_rule ⟨rfl,?_⟩))
   generalize hn:min (a₀.size - lo) (minRun' a₀.size a₀.size 0) = n
   have tP:0 < n /\ n <= a₀.size - lo /\ m <= n:=by omega
   refine wpS_bind (Z3 hA B2 m1 tP.2.2 (by omega) A2 fun fB B3 C3 A3=>?_)
   rw [if_neg (by decide)]
   have R3:Cu f (arrOf fB) 0 (pendingOf fB).toList lo:=by
    rw [C3.1]
    exact R2.congr fun k _ hk=>C3.2 k hk
  case' neg =>
   rw [if_neg e2]
   obtain ⟨n,rfl⟩ : ∃ n,n = m:=⟨m,rfl⟩
   have tP:0 < n /\ n <= a₀.size - lo:=⟨m1,m2⟩
   have B3:=B2
   have A3:=A2
   have R3:=R2
   obtain ⟨fB,rfl⟩ : ∃ fB,fB = aU:=⟨aU,rfl⟩
  all_goals
   refine wpS_bind (wpS_get ?_)
   cases hb:(pendingOf fB).back? with
   | none =>
    dsimp only
    refine wpS_bind (wpS_modify (wpS_pure ⟨lo + n,rfl,⟨B3.perm,B3.kind,B3.failed⟩,R3.push (fun _ _=>rfl) tP.1 A3,by omega,fun _=>by omega⟩))
   | some v =>
    obtain ⟨s1,n1,v1⟩ := v
    dsimp only
    refine wpS_bind (wpS_mono (wpS_forRange (I:=fun y c bP=>c = (none,()) /\ Bs κ a₀ bP /\ Cu f (arrOf bP) 0 (pendingOf bP).toList lo /\ Hj f (arrOf bP) lo (lo + n)) (Q:=fun c bP=>c = (none,()) /\ Bs κ a₀ bP /\ Cu f (arrOf bP) 0 (pendingOf bP).toList lo /\ Hj f (arrOf bP) lo (lo + n)) ?_ (fun c bP h4=>h4) ⟨rfl,B3,R3,A3⟩) ?_)
    ·rintro y c bP _ y2 ⟨rfl,B4,R4,A4⟩
     refine wpS_bind (wpS_get ?_)
     by_cases e3:(pendingOf bP).size > 1
     ·rw [if_pos e3]
      obtain ⟨⟨u1,u2,u3⟩,hu⟩ : ∃ u,(pendingOf bP)[(pendingOf bP).size - 2]? = some u:=⟨_,getElem?_pos (pendingOf bP) _ (by omega)⟩
      rw [hu]
      dsimp only
      split
      ·exact wpS_pure ⟨rfl,B4,R4,A4⟩
      ·refine wpS_bind (M9 hA B4 R4 l1 (by omega) fun DG B5 R5 _ f5=>?_)
       rw [if_neg (by decide)]
       refine wpS_pure ⟨rfl,B5,R5,fun i j i1 i2 i3=>?_⟩
       rw [f5 i i1,f5 j (by omega)]
       exact A4 i j i1 i2 i3
     ·rw [if_neg e3]
      exact wpS_pure ⟨rfl,B4,R4,A4⟩
    ·rintro c bP ⟨rfl,B4,R4,A4⟩
     dsimp only
     refine wpS_bind (wpS_modify (wpS_bind (wpS_modify (wpS_pure ⟨lo + n,rfl,⟨B4.perm,B4.kind,B4.failed⟩,?_,by omega,fun _=>by omega⟩))))
     refine Cu.push (a:=arrOf bP) ?_ (fun _ _=>rfl) tP.1 A4
     show Cu f (arrOf bP) 0 ((pendingOf bP).modify ((pendingOf bP).size - 1) _).toList lo
     rw [Array.toList_modify]
     exact R4.mod
 ·rintro c bN ⟨lo,rfl,B1,R1,l1,l2⟩
  obtain rfl:lo = a₀.size:=by omega
  exact ⟨rfl,B1,R1⟩
 rintro c bN ⟨rfl,B1,R1⟩
 dsimp only
 have n1:(pendingOf bN).size <= a₀.size:=by
  have:=R1.len
  rw [Array.length_toList] at this
  omega
 refine wpS_bind (wpS_mono (wpS_forRange (I:=fun y c bP=>c = (none,()) /\ Bs κ a₀ bP /\ Cu f (arrOf bP) 0 (pendingOf bP).toList a₀.size /\ (pendingOf bP).size + y <= a₀.size + 1) (Q:=fun c bP=>c = (none,()) /\ Bs κ a₀ bP /\ Cu f (arrOf bP) 0 (pendingOf bP).toList a₀.size /\ (pendingOf bP).size <= 1) ?_ ?_ ⟨rfl,B1,R1,by omega⟩) ?_)
 ·rintro y c bP _ y2 ⟨rfl,B4,R4,n4⟩
  refine wpS_bind (wpS_get ?_)
  by_cases e3:(pendingOf bP).size <= 1
  ·rw [if_pos e3]
   exact wpS_pure ⟨rfl,B4,R4,e3⟩
  rw [if_neg e3]
  refine wpS_bind (M9 hA B4 R4 (Nat.le_refl _) ?_ fun DG B5 R5 n5 f5=>?_)
  ·(repeat' split) <;> omega
  rw [if_neg (by decide)]
  exact wpS_pure ⟨rfl,B5,R5,by omega⟩
 ·rintro c bP ⟨rfl,B4,R4,n4⟩
  exact ⟨rfl,B4,R4,by omega⟩
 rintro c bP ⟨rfl,B4,R4,n4⟩
 dsimp only
 refine wpS_pure (h _ B4 ?_)
 rw [<- Array.length_toList] at n4
 match hl:(pendingOf bP).toList with
 | [] =>
  rw [hl] at R4
  have e:0 = a₀.size:=R4
  rw [<- e]
  exact fun i j _ _ h3=>absurd h3 (Nat.not_lt_zero _)
 | [x] =>
  rw [hl] at R4
  obtain ⟨_,_,r3,r4⟩ := R4
  rw [show 0 + x.2.1 = a₀.size from r4] at r3
  exact r3
 | x :: y :: r =>
  rw [hl,List.length_cons,List.length_cons] at n4
  omega
end
open PySem PySem.Spec PySem.SeqAt PyProof.Rows
section
variable {prog:Program} {w:World} {E:Value -> Shared -> Prop}
def Mb:List PyData -> List PyData -> Prop
 | x :: xs,y :: ys=>if PyData.eqv x y = true then Mb xs ys else Gr x y
 | _,_=>True
def Zb:PyData -> PyData -> Prop
 | .tuple xs,.tuple ys=>Mb xs ys
 | _,_=>False
theorem U9:∀ {xs ys:List PyData},bH xs ys -> Mb xs ys
 | [],_,_=>by unfold Mb; trivial
 | _ :: _,[],_=>by unfold Mb; trivial
 | x :: xs,y :: ys,h=>by
  unfold Mb
  split
  ·exact U9 h.2
  ·exact h.1
theorem Qs {A : Around} {s : Shared} {b : Bool} {Q : Bool -> Shared -> Prop} : ∀ (xs ys : List PyData) (vs ws : List Value) (as bs : List Addr) (i : Nat), ReadsAll s.heap vs xs as -> ReadsAll s.heap ws ys bs -> PyData.canLayAll0 xs = true -> PyData.canLayAll0 ys = true -> Mb xs ys ->
  A.units + min (PyData.depthAll xs) (PyData.depthAll ys) < cLine -> (b = true -> i = 0 -> ∀ x xs' y DQ,xs = x :: xs' -> ys = y :: DQ -> ∃ m n,x = .int m /\ y = .int n) -> Q (aQ xs ys) s -> PySem.W.KatLex prog w A b (decide (xs.length < ys.length)) Q (vs.zip ws) i s
 | [],ys,_,ws,_,_,i,ra,rb,_,_,_,_,_,h=>by
  cases ra
  rw [List.zip_nil_left]
  refine PySem.W.kat_nil ?_
  cases ys <;> exact h
 | x :: xs,[],_,_,_,_,i,ra,rb,_,_,_,_,_,h=>by
  cases rb
  rw [List.zip_nil_right]
  exact PySem.W.kat_nil h
 | x :: xs,y :: ys,_,_,_,_,i,ra,rb,ca,cb,hc,hu,hb,h=>by
  have e0:=eqAt_readsAll (x :: xs) (y :: ys) A s _ _ _ _ ra rb ca cb hu 0
  cases ra with
  | @cons v vs _ _ a1 a2 r1 r2 =>
   cases rb with
   | @cons u us _ _ b1 b2 q1 q2 =>
    have tI:x.canLay0 = true /\ PyData.canLayAll0 xs = true:=by simpa [PyData.canLayAll0] using ca
    have tJ:y.canLay0 = true /\ PyData.canLayAll0 ys = true:=by simpa [PyData.canLayAll0] using cb
    have hd:A.units + min x.depth y.depth < cLine /\ A.units + min (PyData.depthAll xs) (PyData.depthAll ys) < cLine:=by
     simp only [PyData.depthAll] at hu
     omega
    have e1:SeqAt.EqAt A s v u (PyData.eqv x y):=e0 (by simp) (by simp)
    have el:decide ((x :: xs).length < (y :: ys).length) = decide (xs.length < ys.length):=by simp
    rw [List.zip_cons_cons,el]
    refine PySem.W.kat_cons (e1 prog w _ _ ?_)
    cases e:PyData.eqv x y with
    | true =>
     unfold Mb at hc
     rw [if_pos e] at hc
     refine PySem.W.kat_yes (Qs xs ys _ _ _ _ (i + 1) r2 q2 tI.2 tJ.2 hc hd.2 (fun _ z=>by omega) ?_)
     rw [aQ,if_pos e] at h
     exact h
    | false =>
     unfold Mb at hc
     rw [if_neg (by rw [e]; decide)] at hc
     rw [aQ,if_neg (by rw [e]; decide)] at h
     refine PySem.W.kat_no ?_
     by_cases z:(b && i == 0) = true
     ·have z2:b = true /\ i = 0:=by simpa using z
      obtain ⟨m,n,rfl,rfl⟩ := hb z2.1 z2.2 x xs y ys rfl rfl
      cases r1
      cases q1
      rw [z]
      exact oneLt_int h
     ·rw [show (b && i == 0) = false from Bool.eq_false_iff.mpr z]
      refine PySem.W.kat_one _ _ ?_
      exact Ky x y A s _ _ _ _ r1 q1 tI.1 tJ.1 hc hd.1 prog w _ _ (show PySem.W.BoolBack Q (.bool (Hz x y)) s from h)
def Ip (b:Bool) (d:PyData):Prop := ∃ x r,d = .tuple (x :: r) /\ if b = true then ∃ m,x = .int m else ∃ l,x = .tuple l
theorem Xk {A : Around} {s : Shared} {b : Bool} {Q : Bool -> Shared -> Prop} {v u : Value} {d e : PyData} {as bs : List Addr} (rv : Reads s.heap v d as) (ru : Reads s.heap u e bs) (fd : Ip b d) (fe : Ip b e) (cd : d.canLay0 = true) (ce : e.canLay0 = true) (hc : Zb d e) (hu : A.units + d.depth < cLine) (h : Q (Hz d e) s) :
  wpAny (model prog w) A (keyLt' (PyProof.Rows.tuples' b) v u) Q E s:=by
 obtain ⟨x,r,rfl,hx⟩ := fd
 obtain ⟨y,r2,rfl,hy⟩ := fe
 cases rv with
 | @tuple l1 o1 vs n1 _ as1 h1 h2 h3 h4 =>
  cases ru with
  | @tuple l2 o2 ws n2 _ as2 k1 k2 k3 k4 =>
   have n1':vs.size = (x :: r).length:=by simpa using ReadsAll.length _ _ _ h4
   have OQ:ws.size = (y :: r2).length:=by simpa using ReadsAll.length _ _ _ k4
   refine PySem.W.kat_lt h1 h3 k1 k3 ?_
   rw [n1',OQ]
   refine Qs (x :: r) (y :: r2) _ _ _ _ 0 h4 k4 cd ce hc ?_ (fun hb _ x' _ y' _ e1 e2=>?_) h
   ·have e:(PyData.tuple (x :: r)).depth = PyData.depthAll (x :: r) + 1:=by simp [PyData.depth]
    omega
   ·cases e1
    cases e2
    rw [if_pos hb] at hx hy
    obtain ⟨m,rfl⟩ := hx
    obtain ⟨n,rfl⟩ := hy
    exact ⟨m,n,rfl,rfl⟩
theorem Vv {A:Around} {s:Shared} {b:Bool} {Q:SortKind -> Shared -> Prop}:∀ {vs:List Value} ,vs ≠ [] -> (∀ v ∈ vs,∃ d as,Reads s.heap v d as /\ Ip b d) -> Q (PyProof.Rows.tuples' b) s -> wpAny (model prog w) A (keyKind' vs.toArray) Q E s:=by
 intro vs fA hall h
 have key:∀ vs:List Value,(∀ v ∈ vs,∃ d as,Reads s.heap v d as /\ Ip b d) -> ∃ fs,PySem.W.KatTups s.heap vs fs /\ fs.length = vs.length /\ ∀ f ∈ fs,PySem.W.Looks (model prog w) s.heap (typeOf f) (.type (if b = true then "int" else "tuple")):=by
  intro vs
  induction vs with
  | nil=>exact fun _=>⟨[],PySem.W.KatTups.nil,rfl,fun f hf=>by cases hf⟩
  | cons v vs ih =>
   intro hall
   obtain ⟨fs,t1,t2,t3⟩ := ih fun v hv=>hall v (List.mem_cons_of_mem _ hv)
   obtain ⟨d,as,rv,x,r,rfl,hx⟩ := hall v List.mem_cons_self
   cases rv with
   | tuple h1 h2 h3 h4 =>
    rename_i a o us n
    obtain ⟨u,ur,eu⟩ : ∃ u ur,us.toList = u :: ur:=by
     cases jN:us.toList with
     | nil=>rw [jN] at h4; cases h4
     | cons u ur=>exact ⟨u,ur,rfl⟩
    have e0:us[0]? = some u:=by rw [<- Array.getElem?_toList,eu]; rfl
    refine ⟨u :: fs,PySem.W.KatTups.cons h1 h2 h3 e0 t1,by simp [t2],fun f hf=>?_⟩
    rcases List.mem_cons.mp hf with z | z
    ·subst z
     rw [eu] at h4
     cases h4 with
     | cons r1 r2 =>
      cases b with
      | true =>
       obtain ⟨m,rfl⟩ := hx
       cases r1
       exact PySem.W.Looks.now
      | false =>
       obtain ⟨l,rfl⟩ := hx
       cases r1 with
       | tuple g1 g2 g3 g4 =>
        show PySem.W.Looks (model prog w) s.heap _ (Value.type "tuple")
        rw [<- g2]
        exact (PySem.W.Looks.ld g1).andThen .now
    ·exact t3 f z
 obtain ⟨fs,t1,t2,t3⟩ := key vs hall
 refine PySem.W.kat_kind t1 ?_ t3 (by cases b <;> rfl) ?_
 ·rw [t2]
  exact List.length_pos_iff.mpr fA
 ·have e:(Value.type (if b = true then "int" else "tuple") != Value.type "tuple") = b:=by cases b <;> decide
  rw [e]
  exact h
theorem Gc (vs:List Value):vs.toArray.zip vs.toArray = (vs.map fun v=>(v,v)).toArray:=by
 apply Array.toList_inj.mp
 rw [Array.toList_zip,List.toList_toArray]
 induction vs with
 | nil=>rfl
 | cons v r ih=>rw [List.zip_cons_cons,ih,List.map_cons]
theorem Ur (vs:List Value):(vs.map fun v=>(v,v)).map (fun x:Value × Value=>x.2) = vs:=by
 rw [List.map_map]
 exact List.map_id'' (fun _=>rfl) vs
theorem Yh {A : Around} {s : Shared} {a : Addr} {vs : List Value} {n : Nat} {κ : SortKind} {g : Value -> Nat} {P : PySem.Fin -> Shared -> Prop} (ho : s.heap.get? a = some (seqObj "list" vs.toArray n)) (hsz : vs.length <= sizeLine)
  (w5:∀ h6:Heap,(∀ b o,b ≠ a -> s.heap.get? b = some o -> h6.get? b = some o) -> 2 <= vs.length -> (∀ Q,Q κ { s with heap:=h6 } -> wpAny (model prog w) A (keyKind' vs.toArray) Q E { s with heap:=h6 }) /\ Hm prog w A { s with heap:=h6 } κ (fun p=>g p.1) (vs.toArray.zip vs.toArray))
  (h:∀ out:Array Value,out.toList.Perm vs -> out.toList.Pairwise (fun x y=>g x <= g y) -> P (.done (.ret .none)) { s with heap:=sortedHeap s.heap a vs out }) :
  wpAny (model prog w) A (Builtin.«list.sort» ⟨[.ref a],[]⟩) P E s:=by
 rw [list_sort_plain]
 have ha:a < s.heap.objs.size:=Heap.lt_size ho
 refine wpAny_bind (listItems_at ho rfl (wpAny_bind (listUpdate_at ho rfl ?_ (by rw [List.size_toArray]; exact hsz) (Nat.zero_le _))))
 obtain ⟨e1,ho1⟩ : ∃ e1,(s.heap.update a (Obj.mapSeq fun _=>(#[]:Array Value))).get? a = some (seqObj "list" #[] e1):=⟨_,get?_update_seq ho (fun _=>#[])⟩
 refine wpAny_bind (seqEpoch_at ho1 rfl (wpAny_bind (wpAny_newTuple (wpAny_bind (wpAny_newList (wpAny_holding ?_))))))
 have EF:(((s.heap.update a (Obj.mapSeq fun _=>(#[]:Array Value))).push (seqObj "tuple" vs.toArray 0)).push (seqObj "list" #[] 0)).get? a = some (seqObj "list" #[] e1):=Heap.get?_push_of_some _ (Heap.get?_push_of_some _ ho1)
 have kp:∀ b o,b ≠ a -> s.heap.get? b = some o -> (((s.heap.update a (Obj.mapSeq fun _=>(#[]:Array Value))).push (seqObj "tuple" vs.toArray 0)).push (seqObj "list" #[] 0)).get? b = some o:=fun b o hb e=>Heap.get?_push_of_some _ (Heap.get?_push_of_some _ ((Heap.get?_update_other _ _ (Ne.symm hb)).trans e))
 have hk:=w5 _ kp
 have fin:=h
 unfold sortedHeap at fin
 generalize ((s.heap.update a (Obj.mapSeq fun _=>(#[]:Array Value))).push (seqObj "tuple" vs.toArray 0)).push (seqObj "list" #[] 0) = h6 at EF kp hk fin
 show wpAny (model prog w) A _ P E { s with heap:=h6 }
 dsimp only
 have rG:vs.toArray.size = vs.length:=by simp
 by_cases h2:vs.toArray.size < 2
 ·rw [if_pos h2,if_pos h2]
  refine wpAny_bind (wpAny_pure ?_)
  rw [StateT.run_pure]
  refine wpAny_bind (wpAny_pure ?_)
  dsimp only
  have eo:Array.map (fun x=>x.snd) (vs.toArray.zip vs.toArray) = vs.toArray:=by
   rw [Gc]
   apply Array.toList_inj.mp
   rw [Array.toList_map]
   exact Ur vs
  refine wpAny_bind (seqEpoch_at EF rfl (wpAny_bind (listUpdate_at EF rfl ?_ (Nat.zero_le _) (by rw [eo,rG]; omega))))
  simp only [bne_self_eq_false,Bool.false_eq_true,if_false]
  rw [show Array.map (fun x=>x.snd) (arrOf (SortSt.mk' general' (vs.toArray.zip vs.toArray) #[] 7 none)) = vs.toArray from eo]
  refine wpAny_pure (fin vs.toArray (by simp) ?_)
  match vs,rG,h2 with
  | [],_,_=>exact List.Pairwise.nil
  | [x],_,_=>exact List.pairwise_singleton _ _
  | x :: y :: r,rG,h2=>exact absurd h2 (by rw [rG,List.length_cons,List.length_cons]; omega)
 ·rw [if_neg h2,if_neg h2]
  obtain ⟨rQ,mQ⟩ := hk (by omega)
  refine wpAny_bind (rQ _ ?_)
  have hz:(vs.toArray.zip vs.toArray).size = vs.length:=by rw [Gc]; simp
  refine wpAny_bind (wpAny_mono (Rr (st:=SortSt.mk' κ (vs.toArray.zip vs.toArray) #[] 7 none) mQ ⟨Array.Perm.refl _,rfl,rfl⟩ rfl (Q:=fun _ aO=>Bs κ (vs.toArray.zip vs.toArray) aO /\ Hj (fun p=>g p.1) (arrOf aO) 0 (vs.toArray.zip vs.toArray).size) fun aO b1 b2=>⟨b1,b2⟩) ?_ fun _ _ e=>e)
  rintro ⟨⟨⟩,aO⟩ s' ⟨rfl,hB,hS⟩
  dsimp only at hB hS ⊢
  have cD:∀ p ∈ arrOf aO,p.1 = p.2 /\ p.1 ∈ vs:=fun p hp=>by
   have:=hB.perm.mem_iff.mp hp
   rw [Gc] at this
   have h3:p ∈ vs.map fun v=>(v,v):=by simpa using this
   obtain ⟨v,hv,rfl⟩ := List.mem_map.mp h3
   exact ⟨rfl,hv⟩
  have fM:((arrOf aO).map (·.2)).toList.Perm vs:=by
   rw [Array.toList_map]
   have:=(Array.perm_iff_toList_perm.mp hB.perm).map (·.2)
   rw [Gc,Ur] at this
   exact this
  have mY:((arrOf aO).map (·.2)).toList.Pairwise (fun x y=>g x <= g y):=by
   rw [Array.toList_map]
   refine List.pairwise_iff_getElem.mpr fun i j hi hj tH=>?_
   rw [List.length_map,Array.length_toList] at hi hj
   have ei:(arrOf aO)[i]? = some (arrOf aO)[i]:=getElem?_pos (arrOf aO) i hi
   have ej:(arrOf aO)[j]? = some (arrOf aO)[j]:=getElem?_pos (arrOf aO) j hj
   have h4:=hS i j (Nat.zero_le _) (Nat.le_of_lt tH) (by rw [<- hB.size]; exact hj)
   rw [Av ei,Av ej] at h4
   have e1:=(cD _ (Array.mem_of_getElem? ei)).1
   have e2:=(cD _ (Array.mem_of_getElem? ej)).1
   rw [e1,e2] at h4
   simpa using h4
  refine wpAny_bind (seqEpoch_at EF rfl (wpAny_bind (listUpdate_at EF rfl ?_ (Nat.zero_le _) (by
   have:=fM.length_eq
   rw [Array.length_toList] at this
   rw [this]
   omega))))
  rw [show failedOf aO = none from hB.failed]
  simp only [bne_self_eq_false,Bool.false_eq_true,if_false]
  exact wpAny_pure (fin _ fM mY)
end
open PySem PySem.Spec PySem.SeqAt PyProof.Rows
section
variable {prog:Program} {w:World} {E:Value -> Shared -> Prop}
end
section
variable {X:Cx} {k:Nat}
def Oh:Value -> Addr
 | .ref a=>a
 | _=>0
def Ms (H:Hp) (b:Bool) (D:V -> PyData) (g:V -> Nat) (us:List V):Prop:=(∀ u ∈ us,Rp H (D u) u /\ Ip b (D u) /\ (D u).depth <= 50) /\ ∀ u ∈ us,∀ v ∈ us,Zb (D u) (D v) /\ Hz (D u) (D v) = decide (g u < g v)
theorem Ms.ref {H:Hp} {b:Bool} {D:V -> PyData} {g:V -> Nat} {us:List V} (h:Ms H b D g us):∃ as:List Addr,us = as.map V.ref:=by
 have key:∀ us:List V,(∀ u ∈ us,Rp H (D u) u /\ Ip b (D u)) -> ∃ as:List Addr,us = as.map V.ref:=by
  intro us
  induction us with
  | nil=>exact fun _=>⟨[],rfl⟩
  | cons u us ih =>
   intro hall
   obtain ⟨as,rfl⟩ := ih fun v hv=>hall v (List.mem_cons_of_mem _ hv)
   obtain ⟨h1,x,r,e,_⟩ := hall u List.mem_cons_self
   rw [e] at h1
   unfold Rp at h1
   obtain ⟨a,OS,ea,_⟩ := h1
   exact ⟨a :: as,by rw [ea]; rfl⟩
 exact key us fun u hu=>⟨(h.1 u hu).1,(h.1 u hu).2.1⟩
theorem Ms.asks {P : Program} {w : World} {pins : List (Addr × Obj)} {σ : St} {H : Hp} {s : Shared} {b : Bool} {D : V -> PyData} {g : V -> Nat} {as : List Addr} {A' : Around} {E : Value -> Shared -> Prop} (I : Ag X pins σ H s) (hP : X.prog = P) (hw : X.w = w) (h : Ms H b D g (as.map V.ref)) (hu : A'.units + 50 < cLine) (h2 : 2 <= as.length) :
  (∀ Q E,Q (PyProof.Rows.tuples' b) s -> wpAny (model P w) A' (keyKind' (as.map Value.ref).toArray) Q E s) /\ Hm P w A' s (PyProof.Rows.tuples' b) (fun p=>g (.ref (Oh p.1))) ((as.map Value.ref).toArray.zip (as.map Value.ref).toArray):=by
 subst hP hw
 have rd:∀ a ∈ as,∃ xs,Reads s.heap (.ref a) (D (.ref a)) xs:=fun a ha=>Cz I _ _ _ (h.1 _ (List.mem_map_of_mem ha)).1 rfl
 refine ⟨fun Q E hq=>Vv (b:=b) ?_ (fun v hv=>?_) hq,fun x y hx hy Q E hq=>?_⟩
 ·intro e
  have:=congrArg List.length e
  rw [List.length_map,List.length_nil] at this
  omega
 ·obtain ⟨a,ha,rfl⟩ := List.mem_map.mp hv
  obtain ⟨xs,r⟩ := rd a ha
  exact ⟨_,xs,r,(h.1 _ (List.mem_map_of_mem ha)).2.1⟩
 ·have mem : ∀ z, z ∈ (as.map Value.ref).toArray.zip (as.map Value.ref).toArray -> ∃ a ∈ as, z.1 = Value.ref a := fun z hz => by
   rw [Gc] at hz
   have h3:z ∈ (as.map Value.ref).map fun v=>(v,v):=by simpa using hz
   obtain ⟨v,hv,rfl⟩ := List.mem_map.mp h3
   obtain ⟨a,ha,rfl⟩ := List.mem_map.mp hv
   exact ⟨a,ha,rfl⟩
  obtain ⟨a,ha,ea⟩ := mem x hx
  obtain ⟨c,hc,ec⟩ := mem y hy
  have CH:=List.mem_map_of_mem (f:=V.ref) ha
  have iQ:=List.mem_map_of_mem (f:=V.ref) hc
  obtain ⟨xs,r1⟩ := rd a ha
  obtain ⟨ys,r2⟩ := rd c hc
  obtain ⟨c1,c2⟩ := h.2 _ CH _ iQ
  obtain ⟨x1,x2⟩ := x
  obtain ⟨y1,y2⟩ := y
  obtain rfl:x1 = Value.ref a:=ea
  obtain rfl:y1 = Value.ref c:=ec
  refine Xk r1 r2 (h.1 _ CH).2.1 (h.1 _ iQ).2.1 (D1 _ _ (h.1 _ CH).1) (D1 _ _ (h.1 _ iQ).1) c1 ?_ ?_
  ·have:=(h.1 _ CH).2.2
   omega
  ·rw [c2]
   exact hq
theorem Wl {g:V -> Nat} {as:List Addr} {out:List Value} (hp:out.Perm (as.map Value.ref)) (hs:out.Pairwise (fun x y=>g (.ref (Oh x)) <= g (.ref (Oh y)))):∃ jE:List V,Az jE out /\ jE.Perm (as.map V.ref) /\ jE.Pairwise (fun x y=>g x <= g y):=by
 have hr:∀ v ∈ out,v = .ref (Oh v):=fun v hv=>by
  obtain ⟨a,_,rfl⟩ := List.mem_map.mp (hp.mem_iff.mp hv)
  rfl
 refine ⟨out.map fun v=>.ref (Oh v),?_,?_,?_⟩
 ·have key : ∀ l : List Value, (∀ v ∈ l, v = .ref (Oh v)) -> Az (l.map fun v => V.ref (Oh v)) l := by
   intro l
   induction l with
   | nil=>exact fun _=>.nil
   | cons v l ih=>exact fun h=>.cons (h v List.mem_cons_self) (ih fun v hv=>h v (List.mem_cons_of_mem _ hv))
  exact key out hr
 ·have:=hp.map fun v=>V.ref (Oh v)
  rw [List.map_map] at this
  exact this
 ·rw [List.pairwise_map]
  exact hs
def lq (K:PySem.W.Frag):List V -> Hp -> VK -> Prop:=fun xs H Q=>∃ (l:Addr) (us:List V) (b:Bool) (D:V -> PyData) (g:V -> Nat),xs = [.ref l] /\ B9 K H l us /\ us.length <= 20000 /\ Ms H b D g us /\ ∀ (p:Addr) (jE:List V),H p = none -> jE.Perm us -> jE.Pairwise (fun x y=>g x <= g y) -> Q (.ref p) (upd H p (.lst jE))
end
open PySem.W (KdxIt)
section
variable {P:Program} {w:World} {A:Around} {E:Value -> Shared -> Prop} {s:Shared}
theorem dz {it d a : Addr} {f : Bool} {oa od : Obj} {i ep : Nat} {es : Array DictEntry} {en : DictEntry} {ok ov : Value} {Q : Option Value -> Shared -> Prop} (hit : KdxIt s.heap it d i es.size ep ok ov a f) (ha : s.heap.get? a = some oa) (w6 : a ≠ it) (gA : s.heap.get? d = some od) (dY : od.data = .dict es ep) (he : es[i]? = some en)
  (hQ:∀ h',KdxIt h' it d (i + 1) es.size ep ok ov a true -> h'.get? s.heap.objs.size = some { cls := .type "tuple",data := .seq #[en.key,en.val] } -> (∀ b o,b ≠ it -> s.heap.get? b = some o -> h'.get? b = some o) -> Q (some (.ref s.heap.objs.size)) { s with heap:=h' }):wpAny (model P w) A (pyNext (.ref it)) Q E s:=by
 have hT:s.TypeIs (.ref it) "dict_itemiterator" := ⟨_,hit,rfl⟩
 have own:Builtin.Dict_items.ownsTuple "dict_itemiterator" = true:=by decide
 unfold pyNext; refine wpAny_bind (wpAny_attempt (wpAny_callSpecial?_slot (name:=Str.ofString "__next__") hT F.slot_dict_itemiterator_next (wpAny_call_entry F.slot_dict_itemiterator_next hT F.entry_dict_itemiterator_next ?_ (F.args_dict_itemiterator_next_1 _))))
 refine wpAny_bind (wpAny_pure (wpAny_bind (wpAny_bind (wpAny_bind (wpAny_typeNameOfWhole_itemiter hT (wpAny_pure (wpAny_bind (wpAny_fieldsOf hit rfl ?_))))))))
 simp only [own,if_true]; show wpAny _ _ (if (Value.ref d == Value.none) = true then _ else _) _ _ s
 rw [if_neg (show ¬ (Value.ref d == Value.none) = true from Bool.false_ne_true)]; refine wpAny_bind (wpAny_pure (wpAny_bind (wpAny_dictEntries gA dY ?_)))
 rw [if_neg (show ¬ ((es.size:Int) != (es.size:Int)) = true by simp)]; refine wpAny_bind (wpAny_pure (wpAny_bind (wpAny_dictEpoch gA dY ?_)))
 rw [if_neg (show ¬ ((ep:Int) != (ep:Int)) = true by simp)]; refine wpAny_pure ?_
 simp only [show ¬ ((i:Int) < 0) by omega,if_false,Int.toNat_natCast,he]
 refine wpAny_bind (wpAny_bind (wpAny_typeNameOfWhole_itemiter hT (wpAny_pure (wpAny_bind (wpAny_isOneOf_itemiter hT ?_)))))
 show wpAny _ _ (setField (.ref it) 3 (rawInt ((i:Int) + 1)) >>= _) _ _ s; refine wpAny_bind (wpAny_setField_rec hit (by simp) fun h1 b1 c1=>?_)
 have DV:KdxIt h1 it d (i + 1) es.size ep ok ov a f:=by
  have e:((i + 1:Nat):Int) = (i:Int) + 1:=by omega
  unfold KdxIt; rw [e]; simpa [rawInt] using b1
 have vT:Shared.TypeIs { s with heap:=h1 } (.ref it) "dict_itemiterator" := ⟨_,DV,rfl⟩
 refine wpAny_bind (wpAny_holding (wpAny_bind (wpAny_isOneOf_itemiter vT (wpAny_bind (wpAny_isOneOf_itemiter vT ?_)))))
 have z1:h1.objs.size = s.heap.objs.size:=c1.1
 show wpAny _ _ (Builtin.Dict_items.pairFromOwner (.ref it) 6 en.key en.val) _ _ { s with heap:=h1 }
 unfold Builtin.Dict_items.pairFromOwner; refine wpAny_bind (wpAny_newTuple ?_)
 have il:it < s.heap.objs.size:=Heap.lt_size hit
 have e2:KdxIt (h1.push { cls := .type "tuple",data := .seq #[en.key,en.val] }) it d (i + 1) es.size ep ok ov a f:=Heap.get?_push_of_some _ DV
 have t2:(h1.push { cls := .type "tuple",data := .seq #[en.key,en.val] }).get? s.heap.objs.size = some { cls := .type "tuple",data := .seq #[en.key,en.val] }:=by rw [<- z1]; exact Heap.get?_push_size _ rfl
 have k2:∀ b o,b ≠ it -> s.heap.get? b = some o -> (h1.push { cls := .type "tuple",data := .seq #[en.key,en.val] }).get? b = some o:=fun b o hb e=>Heap.get?_push_of_some _ (c1.extBut b o hb e)
 show wpAny _ _ (Builtin.Dict_items.ownedTupleIsFree (.ref it) >>= _) _ _ { s with heap:=h1.push { cls := .type "tuple",data := .seq #[en.key,en.val] } }
 rw [show (Shared.heap { s with heap:=h1 }).objs.size = s.heap.objs.size from z1]
 generalize h1.push { cls := .type "tuple",data := .seq #[en.key,en.val] } = h2 at e2 t2 k2
 unfold Builtin.Dict_items.ownedTupleIsFree; refine wpAny_bind (wpAny_bind (wpAny_field e2 rfl (x:=rawInt a) rfl ?_))
 show wpAny _ _ (loadIfAlive ((a:Int).toNat) >>= _) _ _ _; rw [Int.toNat_natCast]
 refine wpAny_bind (PySem.W.kdx_alive (k2 a oa w6 ha) ?_)
 simp only [Option.isNone_some,Bool.false_eq_true,if_false]; refine wpAny_bind (wpAny_field e2 rfl (x := .bool f) rfl ?_)
 cases f with
 | true =>
  rw [if_neg (show ¬ (Value.bool true != Value.bool true) = true from Bool.false_ne_true)]; refine wpAny_pure ?_
  simp only [Bool.false_eq_true,if_false]; exact wpAny_pure (wpAny_pure ⟨_,rfl,wpAny_pure (hQ h2 e2 t2 k2)⟩)
 | false =>
  rw [if_pos (show (Value.bool false != Value.bool true) = true from rfl)]; refine wpAny_bind (wpAny_setField_rec e2 (by simp) fun h3 e3 s3=>wpAny_pure ?_)
  simp only [Bool.false_eq_true,if_false]; exact wpAny_pure (wpAny_pure ⟨_,rfl,wpAny_pure (hQ h3 e3 (s3.extBut _ _ (Nat.ne_of_gt il) t2) fun b o hb e=>s3.extBut b o hb (k2 b o hb e))⟩)
theorem dy {it d a : Addr} {f : Bool} {od : Obj} {i ep : Nat} {es : Array DictEntry} {ok ov : Value} {Q : Option Value -> Shared -> Prop} (hh : A.handled = none) (hit : KdxIt s.heap it d i es.size ep ok ov a f) (gA : s.heap.get? d = some od) (dY : od.data = .dict es ep) (he : es[i]? = none)
  (hQ:∀ h',Heap.ExtBut it s.heap h' -> Q none { s with heap:=h' }):wpAny (model P w) A (pyNext (.ref it)) Q E s:=by
 have hT:s.TypeIs (.ref it) "dict_itemiterator" := ⟨_,hit,rfl⟩
 have own:Builtin.Dict_items.ownsTuple "dict_itemiterator" = true:=by decide
 unfold pyNext; refine wpAny_bind (wpAny_attempt (wpAny_callSpecial?_slot (name:=Str.ofString "__next__") hT F.slot_dict_itemiterator_next (wpAny_call_entry F.slot_dict_itemiterator_next hT F.entry_dict_itemiterator_next ?_ (F.args_dict_itemiterator_next_1 _))))
 refine wpAny_bind (wpAny_pure (wpAny_bind (wpAny_bind (wpAny_bind (wpAny_typeNameOfWhole_itemiter hT (wpAny_pure (wpAny_bind (wpAny_fieldsOf hit rfl ?_))))))))
 simp only [own,if_true]; show wpAny _ _ (if (Value.ref d == Value.none) = true then _ else _) _ _ s
 rw [if_neg (show ¬ (Value.ref d == Value.none) = true from Bool.false_ne_true)]; refine wpAny_bind (wpAny_pure (wpAny_bind (wpAny_dictEntries gA dY ?_)))
 rw [if_neg (show ¬ ((es.size:Int) != (es.size:Int)) = true by simp)]; refine wpAny_bind (wpAny_pure (wpAny_bind (wpAny_dictEpoch gA dY ?_)))
 rw [if_neg (show ¬ ((ep:Int) != (ep:Int)) = true by simp)]; refine wpAny_pure ?_
 simp only [show ¬ ((i:Int) < 0) by omega,if_false,Int.toNat_natCast,he]
 refine wpAny_bind (wpAny_bind (wpAny_typeNameOfWhole_itemiter hT (wpAny_pure ?_)))
 show wpAny _ _ (setField (.ref it) 2 Value.none >>= _) _ _ s
 refine wpAny_bind (wpAny_setField hit rfl (by simp) ?_)
 generalize hg:Heap.update s.heap it (Obj.mapFields (·.setIfInBounds 2 Value.none)) = h2
 have eb:Heap.ExtBut it s.heap h2:=by
  rw [<- hg]
  exact fun b ob hb e=>(Heap.get?_update_other _ _ (Ne.symm hb)).trans e
 show wpAny (model P w) _ (newExc (.type "StopIteration") [] >>= _) _ _ { s with heap:=h2 }
 refine wpAny_bind ?_; simp only [newExc,newTuple]
 refine wpAny_bind (wpAny_newObj_type (T := "tuple") ?_ (by size_fits))
 refine wpAny_bind (m:=firstArgMember _ _) (wpAny_of_eq (a:=Value.none) (by first | rfl | simp only [firstArgMember]) ?_)
 refine wpAny_newObj_type (T := "StopIteration") ?_ (by size_fits)
 simp only [raiseNew]; refine wpAny_bind (wpAny_handled ?_)
 first | rw [show A.in1.handled = Option.none from hh] | rw [hh]
 refine wpAny_bind (wpAny_pure (wpAny_throw ?_)); refine wpAny_bind (wpAny_isInstance (T := "StopIteration") (b:=true) ⟨_,Heap.get?_push_size _ rfl,rfl⟩ isSubtype_stop ?_)
 exact wpAny_pure (hQ _ ((eb.push _).push _))
def Rt (h:Heap) (it d S:Addr) (i n ep:Nat):Prop:=(i = 0 /\ ∃ ok ov,IsItemIter h it d 0 n ep ok ov) \/ ∃ ok ov a f oa,KdxIt h it d i n ep ok ov a f /\ h.get? a = some oa /\ a ≠ it /\ a ≠ S
structure bw (es:Array DictEntry) (lo:Addr) (h:Heap) (as:List Addr):Prop where
 rise:as.Pairwise (· < ·)
 above:∀ a ∈ as,lo < a
 at_:∀ (j:Nat) (a:Addr),as[j]? = some a -> ∃ en,es[j]? = some en /\ h.get? a = some { cls := .type "tuple",data := .seq #[en.key,en.val] }
theorem bw.lt {es:Array DictEntry} {lo:Addr} {h:Heap} {as:List Addr} (g:bw es lo h as) {a:Addr} (ha:a ∈ as):a < h.objs.size:=by
 obtain ⟨j,hj⟩ := List.mem_iff_getElem?.mp ha
 obtain ⟨_,_,e⟩ := g.at_ j a hj
 exact Heap.lt_size e
theorem Zr {it d S : Addr} {od : Obj} {i ep : Nat} {es : Array DictEntry} {en : DictEntry} {Q : Option Value -> Shared -> Prop} (st : Rt s.heap it d S i es.size ep) (hS : S < s.heap.objs.size) (gA : s.heap.get? d = some od) (dY : od.data = .dict es ep) (he : es[i]? = some en)
  (hQ:∀ h',Rt h' it d S (i + 1) es.size ep -> h'.get? s.heap.objs.size = some { cls := .type "tuple",data := .seq #[en.key,en.val] } -> (∀ b o,b ≠ it -> s.heap.get? b = some o -> h'.get? b = some o) -> Q (some (.ref s.heap.objs.size)) { s with heap:=h' }):wpAny (model P w) A (pyNext (.ref it)) Q E s:=by
 rcases st with ⟨rfl,ok,ov,hit⟩ | ⟨ok,ov,a,f,oa,hit,ha,w6,MF⟩
 ·exact Qi hit gA dY he fun h' a1 a2 a3=>hQ h' (.inr ⟨en.key,en.val,_,false,_,a1,a2,Nat.ne_of_gt (Heap.lt_size hit),Nat.ne_of_gt hS⟩) a2 a3
 ·exact dz hit ha w6 gA dY he fun h' a1 a2 a3=>hQ h' (.inr ⟨ok,ov,a,true,oa,a1,a3 a oa w6 ha,w6,MF⟩) a2 a3
theorem Zq {it d S : Addr} {od : Obj} {i ep : Nat} {es : Array DictEntry} {Q : Option Value -> Shared -> Prop} (hh : A.handled = none) (st : Rt s.heap it d S i es.size ep) (gA : s.heap.get? d = some od) (dY : od.data = .dict es ep) (he : es[i]? = none)
  (hQ:∀ h',Heap.ExtBut it s.heap h' -> Q none { s with heap:=h' }):wpAny (model P w) A (pyNext (.ref it)) Q E s:=by
 rcases st with ⟨rfl,ok,ov,hit⟩ | ⟨ok,ov,a,f,oa,hit,_,_,_⟩
 ·exact X0 hh hit gA dY he hQ
 ·exact dy hh hit gA dY he hQ
theorem Rt.keep {h h':Heap} {it d S:Addr} {i n ep:Nat} (x:Rt h it d S i n ep) (hk:∀ b o,b ≠ S -> h.get? b = some o -> h'.get? b = some o) (hI:it ≠ S):Rt h' it d S i n ep:=by
 rcases x with ⟨e,ok,ov,hit⟩ | ⟨ok,ov,a,f,oa,hit,ha,w6,MF⟩
 ·exact .inl ⟨e,ok,ov,hk it _ hI hit⟩
 ·exact .inr ⟨ok,ov,a,f,oa,hk it _ hI hit,hk a _ MF ha,w6,MF⟩
theorem Zs {S I d : Addr} {es : Array DictEntry} {ep : Nat} {od : Obj} {R : Result -> Shared -> Prop} (hh : A.handled = none) (hSI : S < I) (hSd : d ≠ S) (hId : d ≠ I) (hn : es.size <= sizeLine) (res : Value) (dY : od.data = .dict es ep) {h0 : Heap}
  (hR:∀ h' tk acc c as,(∀ b o,b ≠ S -> b ≠ I -> h0.get? b = some o -> h'.get? b = some o) -> h'.get? S = some { cls := .type "list",dict:=none,data := .seq acc c,slots := #[] } -> as.length = es.size -> bw es I h' as -> acc.toList = as.map Value.ref -> R (.ok (.ret res)) { s with heap:=h',toks:=tk }) :
  ∀ (k i:Nat) (h:Heap) (tk c:Nat) (acc:Array Value) (as:List Addr),es.size - i = k -> i <= es.size -> Rt h I d S i es.size ep -> h.get? d = some od -> (∀ b o,b ≠ S -> b ≠ I -> h0.get? b = some o -> h.get? b = some o) ->
   h.get? S = some { cls := .type "list",dict:=none,data := .seq acc c,slots := #[] } -> acc.toList = as.map Value.ref -> as.length = i -> bw es I h as -> I < h.objs.size ->
   codeAny (model P w) A (.builtin "list.extend.loop" ⟨[.ref S,.ref I,res],[]⟩) R { s with heap:=h,toks:=tk }:=by
 have fA:S ≠ I:=Nat.ne_of_lt hSI
 intro k
 induction k with
 | zero =>
  intro i h tk c acc as hk hi st hD kp hS rR MG hG PF
  refine codeAny_builtin F.entry_extend_loop ?_; rw [Around.under_plainId F.plain_extend_loop _]
  show wpAny _ A.in1 (pyNext (.ref I) >>= _) _ _ _
  refine wpAny_bind (Zq (s:={ s with heap:=h,toks:=tk }) (A:=A.in1) hh st hD dY (Array.getElem?_eq_none (by omega)) fun h' he=>wpAny_pure (hR h' tk acc c as (fun b o h1 h2 e=>he b o h2 (kp b o h1 h2 e)) (he S _ fA hS) (by omega) ⟨hG.rise,hG.above,fun j a hj=>?_⟩ rR))
  obtain ⟨en,e1,e2⟩ := hG.at_ j a hj
  exact ⟨en,e1,he a _ (Nat.ne_of_gt (hG.above a (List.mem_of_getElem? hj))) e2⟩
 | succ k ih =>
  intro i h tk c acc as hk hi st hD kp hS rR MG hG PF
  have aZ:i < es.size:=by omega
  have hx:es[i]? = some es[i]:=getElem?_pos es i aZ
  have hsz:acc.size = i:=by rw [<- Array.length_toList,rR,List.length_map,MG]
  refine codeAny_builtin F.entry_extend_loop ?_; rw [Around.under_plainId F.plain_extend_loop _]
  show wpAny _ A.in1 (pyNext (.ref I) >>= _) _ _ _
  refine wpAny_bind (Zr (s:={ s with heap:=h,toks:=tk }) (S:=S) st (Heap.lt_size hS) hD dY hx fun h' aO ht jX=>?_)
  dsimp only at ht jX ⊢
  have w8:=jX S _ fA hS
  have up:∀ b o,b ≠ S -> h'.get? b = some o -> (h'.update S (Obj.mapSeq (·.push (Value.ref h.objs.size)))).get? b = some o:=fun b o hb e=>(Heap.get?_update_other _ _ (Ne.symm hb)).trans e
  have hSl:S < h.objs.size:=Heap.lt_size hS
  have hI':h'.get? I ≠ none:=by
   rcases aO with ⟨_,_,_,z⟩ | ⟨_,_,_,_,_,z,_⟩ <;> rw [z] <;> exact Option.some_ne_none _
  show wpAny _ A.in1 (updateSeq S (·.push (Value.ref h.objs.size)) >>= _) _ _ _
  refine wpAny_bind (wpAny_updateSeq w8 rfl (wpAny_pure ⟨plainId_quiet F.plain_extend_loop _,ih (i + 1) _ tk _ (acc.push (Value.ref h.objs.size)) (as ++ [h.objs.size]) (by omega) aZ (aO.keep up (Ne.symm fA)) (up d _ hSd (jX d _ hId hD))
   (fun b o h1 h2 e=>up b o h1 (jX b o h2 (kp b o h1 h2 e))) (Heap.get?_update_self _ w8 rfl) (by rw [Array.toList_push,rR,List.map_append]; rfl) (by rw [List.length_append,MG]; rfl) ⟨?_,fun a ha=>?_,fun j b hj=>?_⟩ ?_⟩) (by rw [hsz]; omega) (by show (acc.push (Value.ref h.objs.size)).size <= sizeLine + 1; rw [Array.size_push,hsz]; omega))
  ·exact List.pairwise_append.mpr ⟨hG.rise,List.pairwise_singleton _ _,fun a ha b hb=>by rw [List.mem_singleton.mp hb]; exact hG.lt ha⟩
  ·rcases List.mem_append.mp ha with z | z
   ·exact hG.above a z
   ·rw [List.mem_singleton.mp z]
    exact PF
  ·by_cases z:j < as.length
   ·rw [List.getElem?_append_left z] at hj
    obtain ⟨en,e1,e2⟩ := hG.at_ j b hj
    have hb:=hG.above b (List.mem_of_getElem? hj)
    exact ⟨en,e1,up b _ (Nat.ne_of_gt (Nat.lt_trans hSI hb)) (jX b _ (Nat.ne_of_gt hb) e2)⟩
   ·rw [List.getElem?_append_right (by omega)] at hj
    have hj0:j = i:=by
     have:=(List.getElem?_eq_some_iff.mp hj).1
     rw [List.length_singleton] at this
     omega
    subst hj0
    rw [MG,Nat.sub_self] at hj
    cases hj
    exact ⟨_,hx,up _ _ (Nat.ne_of_gt hSl) ht⟩
  ·exact Nat.lt_trans PF (Heap.lt_size (up _ _ (Nat.ne_of_gt hSl) ht))
theorem S5 {r d : Addr} {od : Obj} {es : Array DictEntry} {ep : Nat} {R : List Value -> Shared -> Prop} (hh : A.handled = none) (hv : s.heap.IsItemsView r d) (gA : s.heap.get? d = some od) (dY : od.data = .dict es ep) (hn : es.size <= sizeLine)
  (h:∀ (h':Heap) (tk:Nat) (as:List Addr),(∀ b o,s.heap.get? b = some o -> h'.get? b = some o) -> as.length = es.size -> bw es s.heap.objs.size h' as -> R (as.map Value.ref) { s with heap:=h',toks:=tk }):wpAny (model P w) A (collect (.ref r)) R E s:=by
 have hr:r < s.heap.objs.size:=let ⟨_,ho,_⟩ := hv; Heap.lt_size ho
 have hd:d < s.heap.objs.size:=Heap.lt_size gA
 unfold collect; refine wpAny_bind (wpAny_runValue (codeAny_builtin entry_proto_collect' ?_)); rw [Around.under_plainId F.plain_proto_collect _]
 show wpAny _ A.in1 (newList [] >>= fun l=>again (.builtin "list.__iadd__" ⟨[l,.ref r],[]⟩)) _ _ s
 refine wpAny_bind (wpAny_newObj_type (wpAny_pure ⟨plainId_quiet F.plain_list_iadd _,codeAny_builtin entry_list_iadd' ?_⟩)); rw [Around.under_plainId F.plain_list_iadd _]
 generalize tS:({ s with heap:=s.heap.push { cls := .type "list",data := .seq ([]:List Value).toArray } }:Shared) = s1
 have z1:s1.heap.objs.size = s.heap.objs.size + 1:=by rw [<- tS]; exact Heap.size_push ..
 have aZ:s.heap.objs.size < s1.heap.objs.size:=by rw [z1]; exact Nat.lt_succ_self _
 have MJ:∀ b o,s.heap.get? b = some o -> s1.heap.get? b = some o:=fun b o e=>by rw [<- tS]; exact Heap.get?_push_of_some _ e
 have hS:s1.heap.get? s.heap.objs.size = some { cls := .type "list",data := .seq #[] }:=by rw [<- tS]; exact Heap.get?_push_size _ rfl
 have PH:s1.heap.IsItemsView r d:=let ⟨o,ho,x⟩ := hv; ⟨o,MJ _ _ ho,x⟩
 have es1:∀ (h':Heap) (tk:Nat),({ s1 with heap:=h',toks:=tk }:Shared) = { s with heap:=h',toks:=tk }:=fun _ _=>by rw [<- tS]
 show wpAny _ A.in1 (Builtin.List.listExtendWith (.ref s.heap.objs.size) (.ref r) (.ref s.heap.objs.size)) _ _ s1
 have fin : ∀ (h' : Heap) (tk : Nat) (acc : Array Value) (c : Nat) (as : List Addr), (∀ b o, s.heap.get? b = some o -> h'.get? b = some o) -> h'.get? s.heap.objs.size = some { cls := .type "list", dict := none, data := .seq acc c, slots := #[] } -> as.length = es.size -> bw es s.heap.objs.size h' as -> acc.toList = as.map Value.ref ->
   wpAny (model P w) A (load s.heap.objs.size >>= fun o=>match o.data with | .seq xs _=>pure xs.toList | _=>unsupported "internal:collect") R E { s with heap:=h',toks:=tk }:=fun h' tk acc c as k1 k2 k3 k4 k5=>by
  refine wpAny_bind (wpAny_load k2 (wpAny_pure ?_))
  show R acc.toList _
  rw [k5]
  exact h h' tk as k1 k3 k4
 have key : ∀ (h : Heap) (c₁ tk : Nat) (R' : Result -> Shared -> Prop), (∀ b o, b ≠ s.heap.objs.size -> (s1.heap.push { cls := .type "dict_itemiterator", data := .fields #[.none, .bool false, .ref d, .int 0 0, .int es.size 0, .int ep 0, .none, .none] }).get? b = some o -> h.get? b = some o) ->
   h.get? s.heap.objs.size = some { cls := .type "list",data := .seq #[] c₁ } ->
   (∀ (h':Heap) (tk:Nat) (acc:Array Value) (c:Nat) (as:List Addr),(∀ b o,s.heap.get? b = some o -> h'.get? b = some o) -> h'.get? s.heap.objs.size = some { cls := .type "list",dict:=none,data := .seq acc c,slots := #[] } -> as.length = es.size -> bw es s.heap.objs.size h' as -> acc.toList = as.map Value.ref -> R' (.ok (.ret (.ref s.heap.objs.size))) { s1 with heap:=h',toks:=tk }) ->
   codeAny (model P w) A (.builtin "list.extend.loop" ⟨[.ref s.heap.objs.size,.ref s1.heap.objs.size,.ref s.heap.objs.size],[]⟩) R' { s1 with heap:=h,toks:=tk }:=fun h c₁ tk R' hk iG qW=>by
  have hI:=hk s1.heap.objs.size _ (by omega) (Heap.get?_push_size _ rfl)
  refine Zs (s:=s1) (S:=s.heap.objs.size) (I:=s1.heap.objs.size) (h0:=s1.heap) hh aZ (Nat.ne_of_lt hd) (Nat.ne_of_lt (Nat.lt_trans hd aZ)) hn (.ref s.heap.objs.size) dY (fun h' mR acc c as k1 k2 k3 k4 k5=>qW h' mR acc c as (fun b o e=>?_) k2 k3 ⟨k4.rise,fun a ha=>?_,k4.at_⟩ k5)
   es.size 0 h tk c₁ #[] [] (Nat.sub_zero _) (Nat.zero_le _) (.inl ⟨rfl,.none,.none,hI⟩) (hk d od (Nat.ne_of_lt hd) (Heap.get?_push_of_some _ (MJ d od gA))) (fun b o h1 _ e=>hk b o h1 (Heap.get?_push_of_some _ e)) iG rfl rfl ⟨List.Pairwise.nil,(fun _ ha=>nomatch ha),(fun j a hj=>by simp at hj)⟩ (Heap.lt_size hI)
  ·have hb:=Heap.lt_size e
   exact k1 b o (Nat.ne_of_lt hb) (Nat.ne_of_lt (Nat.lt_trans hb aZ)) (MJ b o e)
  ·exact Nat.lt_trans aZ (k4.above a ha)
 unfold Builtin.List.listExtendWith
 refine wpAny_bind (wpAny_typeOf (T := "dict_items") PH.typeIs ?_)
 have q1:Builtin.List.listSameRef (.ref s.heap.objs.size) (.ref r) = false:=by simp [Builtin.List.listSameRef,Nat.ne_of_gt hr]
 have q2:(Value.type "dict_items" == Value.type "list") = false:=by decide
 have q3:(Value.type "dict_items" == Value.type "tuple") = false:=by decide
 simp only [q1,q2,q3,Bool.or_false,Bool.false_eq_true,if_false]
 refine wpAny_bind (Uf PH (MJ d od gA) dY ?_)
 have PJ:=Heap.get?_push_of_some { cls := .type "dict_itemiterator",data := .fields #[.none,.bool false,.ref d,.int 0 0,.int es.size 0,.int ep 0,.none,.none] } hS
 refine wpAny_bind (wpAny_holding (PySem.W.kdx_hint (let ⟨o,ho,hc,_⟩ := PH; ⟨o,Heap.get?_push_of_some _ ho,hc⟩) ?_))
 refine wpAny_ite_split (fun _=>?_) (fun _=>wpAny_pure ⟨plainId_quiet F.plain_extend_loop _,key _ 0 s1.toks _ (fun b o _ e=>e) PJ fun h' tk acc c as k1 k2 k3 k4 k5=>?_⟩)
 ·refine wpAny_bind (wpAny_rule (wpAny_bind ?_))
  show wpAny _ _ (updateSeq s.heap.objs.size (·.push .none) >>= fun _=>updateSeq s.heap.objs.size (·.pop)) _ _ _
  refine wpAny_bind (wpAny_updateSeq PJ rfl ?_)
  have hS3:=Heap.get?_update_self (Obj.mapSeq (·.push Value.none)) PJ rfl
  refine wpAny_updateSeq (hz:=by seq_fits) hS3 rfl ?_
  have PK:=Heap.get?_update_self (Obj.mapSeq (·.pop)) hS3 rfl
  refine wpAny_pure ⟨plainId_quiet F.plain_extend_loop _,key _ _ s1.toks _ (fun b o hb e=>(Heap.get?_update_other _ _ (Ne.symm hb)).trans ((Heap.get?_update_other _ _ (Ne.symm hb)).trans e)) PK fun h' tk acc c as k1 k2 k3 k4 k5=>?_⟩
  rw [es1]
  exact fin h' tk acc c as k1 k2 k3 k4 k5
 ·rw [es1]
  exact fin h' tk acc c as k1 k2 k3 k4 k5
end
section
variable {prog:Program} {w:World} {E:Value -> Shared -> Prop}
theorem Tb {A : Around} {s : Shared} {r : Value} {Q : Value -> Shared -> Prop} {C : List Value -> Heap -> Nat -> Prop} (PM : ∀ R : List Value -> Shared -> Prop, (∀ vs h1 t1, C vs h1 t1 -> R vs { s with heap := h1, toks := t1 }) -> wpAny (model prog w) A.in1 (collect r) R E s)
  (hC:∀ vs h1 t1,C vs h1 t1 -> vs.length <= sizeLine /\ ∃ (κ:SortKind) (g:Value -> Nat),
   (∀ (h6:Heap) (A':Around),A'.units <= A.units + 4 -> (∀ b o,h1.get? b = some o -> h6.get? b = some o) -> 2 <= vs.length -> (∀ Q E,Q κ { s with heap:=h6,toks:=t1 } -> wpAny (model prog w) A' (keyKind' vs.toArray) Q E { s with heap:=h6,toks:=t1 }) /\ Hm prog w A' { s with heap:=h6,toks:=t1 } κ (fun p=>g p.1) (vs.toArray.zip vs.toArray)) /\
   (∀ (out:Array Value) (h':Heap) (c:Nat),out.toList.Perm vs -> out.toList.Pairwise (fun x y=>g x <= g y) -> (∀ b o,h1.get? b = some o -> h'.get? b = some o) -> h'.get? h1.objs.size = some (seqObj "list" out c) -> Q (.ref h1.objs.size) { s with heap:=h',toks:=t1 })) :
  wpAny (model prog w) A (call (.builtin "sorted") [r]) Q E s:=by
 refine Calls.call_function_entry kind_sorted plain_sorted entry_sorted (args_sorted1 _) ?_
 unfold Builtin.«sorted»
 refine wpAny_bind (m:=checkCount "sorted" 1 1 _) (wpAny_pure (wpAny_bind (PM _ fun vs h1 t1 hc=>wpAny_bind (wpAny_newList ?_ (hC vs h1 t1 hc).1))))
 obtain ⟨hsz,κ,g,w5,h⟩ := hC vs h1 t1 hc
 have DE:(h1.push (seqObj "list" vs.toArray 0)).get? h1.objs.size = some (seqObj "list" vs.toArray 0):=Heap.get?_push_size _ rfl
 show wpAny _ _ _ _ _ { s with heap:=h1.push (seqObj "list" vs.toArray 0),toks:=t1 }
 refine wpAny_bind (wpAny_holding (wpAny_call_entry slot_list_sort ⟨_,DE,rfl⟩ entry_list_sort (Yh (κ:=κ) (g:=g) (s:={ s with heap:=h1.push (seqObj "list" vs.toArray 0),toks:=t1 }) DE hsz (fun h6 kp h2=>?_) fun out p1 p2=>⟨_,rfl,?_⟩) (args_list_sort _)))
 ·obtain ⟨k1,k2⟩ := w5 h6 A.in1.in1 (show A.units + 1 + 1 <= A.units + 4 by omega) (fun b o e=>kp b o (Nat.ne_of_lt (Heap.lt_size e)) (Heap.get?_push_of_some _ e)) h2
  exact ⟨fun Q hq=>k1 Q _ hq,k2⟩
 ·obtain ⟨c,hc⟩ : ∃ c,(sortedHeap (h1.push (seqObj "list" vs.toArray 0)) h1.objs.size vs out).get? h1.objs.size = some (seqObj "list" out c):=sortedHeap_at DE
  refine wpAny_pure ⟨_,rfl,h out _ c p1 p2 (fun b o e=>?_) hc⟩
  rw [sortedHeap_old (Nat.ne_of_lt (Heap.lt_size e)) (by rw [size_push']; exact Nat.lt_succ_of_lt (Heap.lt_size e))]
  exact Heap.get?_push_of_some _ e
end
section
variable {X:Cx} {k:Nat} {pins:List (Addr × Obj)} {σ:St} {H H':Hp} {s:Shared} {h':Heap}
theorem Ag.mZ {t':Nat} (I:Ag X pins σ H s) (kp:∀ b u,s.heap.get? b = some u -> h'.get? b = some u) (old:∀ b,b < s.heap.objs.size -> H' b = H b) (new:∀ b o,s.heap.objs.size <= b -> H' b = some o -> Bn X.prog X.w H' h' b o):Ag X pins σ H' { s with heap:=h',toks:=t' }:=by
 have up:∀ b o,H b = some o -> H' b = some o:=fun b o e=>by rw [old b (I.aP.lt e)]; exact e
 refine I.un ⟨fun b u q _ _ _=>kp b u q,fun b u q _ _ _=>⟨u.slots,kp b u q⟩,fun b u q n _=>by rw [old b (Heap.lt_size q)]; exact n,fun b u q _=>⟨u,kp b u q⟩,fun b xs q=>up b _ q,fun b u xs q=>up b _ q,fun b ps q=>⟨#[],by rw [up b _ q]; simp⟩⟩ fun b u e=>?_
 by_cases hb:b < s.heap.objs.size
 ·rw [old b hb] at e
  exact (I.aP b u e).dR (fun c v _ q=>kp c v q) (fun c q=>up c _ q) fun c xs q=>up c _ q
 ·exact new b u (Nat.le_of_not_lt hb) e
def Q5 (v D:Addr):HO := .ext fun h=>h.IsItemsView v D
def bf:V -> List V -> Hp -> VK -> Prop:=fun x vs H Q=>∃ D kvs,x = .ref D /\ vs = [] /\ H D = some (.dT kvs) /\ ∀ v,H v = none -> Q (.ref v) (upd H v (Q5 v D))
theorem W4:dc X "dict.items" bf:=by
 intro pins s σ H x vs v us Q I rx rv h
 obtain ⟨D,kvs,rfl,rfl,hD,q⟩ := h
 cases rx
 have jN:=rv.zero
 subst jN
 obtain ⟨hz,CI,ys,pr,o,es,ep,ho,hex,hd,he,tT⟩ := (show Bn X.prog X.w H s.heap D (.dT kvs) from I.aP D _ hD)
 have eI:H s.heap.objs.size = none:=I.aP.fresh (Nat.le_refl _)
 have hv:(s.heap.push { cls := .type "dict_items",data := .fields #[.ref D] }).get? s.heap.objs.size = some { cls := .type "dict_items",data := .fields #[.ref D] }:=Heap.get?_push_size _ rfl
 have new:Bn X.prog X.w (upd H s.heap.objs.size (Q5 s.heap.objs.size D)) (s.heap.push { cls := .type "dict_items",data := .fields #[.ref D] }) s.heap.objs.size (Q5 s.heap.objs.size D):=⟨⟨_,hv,rfl,rfl⟩,⟨_,hv⟩,fun h1 h2 ⟨o,a1,a2⟩ k=>⟨o,k _ a1,a2⟩⟩
 exact Qh CI ho hex ⟨.ref s.heap.objs.size,_,I.laid (t':=s.toks) (fun b u z=>Heap.get?_push_of_some _ z) (Nat.le_refl _) new,rfl,q _ eI⟩
def ji (k:(List Int × Int)):PyData := .tuple [.tuple (k.1.map PyData.int),.int k.2]
mutual
theorem ck {H H':Hp} (sm:Aa H H'):∀ (d:PyData) (v:V),Rp H d v -> Rp H' d v
 | .none,v,h=>h
 | .bool _,v,h=>h
 | .int _,v,h=>h
 | .str _,v,h=>h
 | .dict _,v,h=>h
 | .tuple ds,v,h=>by
  unfold Rp at h ⊢
  obtain ⟨a,xs,e,h1,h2⟩ := h
  exact ⟨a,xs,e,sm _ _ h1,jY sm ds xs h2⟩
 | .list ds,v,h=>by
  unfold Rp at h ⊢
  obtain ⟨a,xs,e,h1,h2⟩ := h
  exact ⟨a,xs,e,sm _ _ h1,jY sm ds xs h2⟩
theorem jY {H H':Hp} (sm:Aa H H'):∀ (ds:List PyData) (vs:List V),aN H ds vs -> aN H' ds vs
 | [],vs,h=>by
  unfold aN at h ⊢
  exact h
 | d :: ds,vs,h=>by
  unfold aN at h ⊢
  obtain ⟨x,xs,e,h1,h2⟩ := h
  exact ⟨x,xs,e,ck sm d x h1,jY sm ds xs h2⟩
end
theorem Np {H:Hp}:∀ xs:List Int,aN H (xs.map PyData.int) (xs.map V.int)
 | []=>by unfold aN; rfl
 | x :: xs=>by
  show aN H (PyData.int x :: xs.map PyData.int) (V.int x :: xs.map V.int)
  unfold aN
  exact ⟨_,_,rfl,by unfold Rp; rfl,Np xs⟩
theorem ij {H:Hp} {b:Addr} {k:(List Int × Int)} (h:E9 H b k):Rp H (ji k) (.ref b):=by
 obtain ⟨u,h1,h2⟩ := h
 unfold ji Rp
 refine ⟨b,_,rfl,h1,?_⟩
 unfold aN
 refine ⟨_,_,rfl,?_,?_⟩
 ·unfold Rp
  exact ⟨u,_,rfl,h2,Np _⟩
 ·unfold aN
  refine ⟨_,_,rfl,by unfold Rp; rfl,?_⟩
  unfold aN
  rfl
def Z5 (H:Hp) (kv:(List Int × Int) × V) (u:V):Prop := ∃ a b,u = .ref a /\ H a = some (.tup [.ref b,kv.2]) /\ E9 H b kv.1
def Gx (dv:(List Int × Int) × V -> PyData) (kv:(List Int × Int) × V):PyData := .tuple [ji kv.1,dv kv]
def ie:List V -> Hp -> VK -> Prop:=fun xs H Q=>∃ (v D:Addr) (kvs:List ((List Int × Int) × V)) (dv:(List Int × Int) × V -> PyData) (g:(List Int × Int) × V -> Nat),xs = [.ref v] /\ H v = some (Q5 v D) /\ H D = some (.dT kvs) /\ (∀ kv ∈ kvs,Rp H (dv kv) kv.2 /\ (dv kv).depth <= 40) /\
 (∀ a ∈ kvs,∀ b ∈ kvs,Zb (Gx dv a) (Gx dv b) /\ Hz (Gx dv a) (Gx dv b) = decide (g a < g b)) /\
 ∀ (p:Addr) (us:List V) (ps:List ((List Int × Int) × V)) (H':Hp),Aa H H' -> H p = none -> H' p = some (.lst us) -> ps.Perm kvs -> ps.Pairwise (fun x y=>g x <= g y) -> Paired (Z5 H') ps us -> Q (.ref p) H'
theorem Xh {as:List Addr} (h:as.Nodup) {j:Nat} {a:Addr} (e:as[j]? = some a):as.idxOf a = j:=by
 obtain ⟨h1,e1⟩ := List.getElem?_eq_some_iff.mp e
 rw [<- e1]
 exact List.Nodup.idxOf_getElem h j h1
theorem S0 (hr:Ct k X.A) (hc:X.calm = true):Dt X (.builtin "sorted") ie:=by
 intro pins s σ H xs us Q I r h
 obtain ⟨v,D,kvs,dv,g,rfl,hv,hD,hdv,PN,q⟩ := h
 obtain ⟨u,rfl,ru⟩ := r.one
 cases ru
 obtain ⟨EG,_⟩ := I.aP v _ hv
 obtain ⟨hz,CI,ys,pr,o,es,ep,ho,hex,hd,jC,tT⟩ := (show Bn X.prog X.w H s.heap D (.dT kvs) from I.aP D _ hD)
 have CJ:kvs.length = ys.length:=pr.length
 have lY:es.size = ys.length:=size_of_entries jC
 have hu:=hr.un
 refine Tb (C:=fun vs h1 t1=>∃ as:List Addr,vs = as.map Value.ref /\ (∀ b o,s.heap.get? b = some o -> h1.get? b = some o) /\ as.length = es.size /\ bw es s.heap.objs.size h1 as) (fun R hR=>S5 (I.ok.hd hc) EG ho hd (by omega) fun h1 t1 as k1 k2 k3=>hR _ h1 t1 ⟨as,rfl,k1,k2,k3⟩) ?_
 rintro vs h1 t1 ⟨as,rfl,k1,k2,k3⟩
 have EH:as.Nodup:=k3.rise.imp fun h=>Nat.ne_of_lt h
 have vD:∀ a ∈ as,s.heap.objs.size <= a:=fun a ha=>Nat.le_of_lt (k3.above a ha)
 have jD:∀ a ∈ as,∃ (j:Nat) (kv:(List Int × Int) × V) (y:(List Int × Int) × Addr × Value),as.idxOf a = j /\ kvs[j]? = some kv /\ ys[j]? = some y /\ kv.1 = y.1 /\ E9 H y.2.1 kv.1 /\ Aw kv.2 y.2.2 /\ h1.get? a = some { cls := .type "tuple",data := .seq #[.ref y.2.1,y.2.2] }:=fun a ha=>by
  obtain ⟨j,hj⟩ := List.mem_iff_getElem?.mp ha
  obtain ⟨en,e1,e2⟩ := k3.at_ j a hj
  have qU:=(List.getElem?_eq_some_iff.mp hj).1
  obtain ⟨kv,y,f1,f2,f3,f4,f5⟩ := Fh pr (i:=j) (by omega)
  have e3:=entry_at jC j
  rw [f2,e1] at e3
  have e4:en = entryOfKey (C6 X.prog X.w) y:=Option.some.inj e3
  rw [e4] at e2
  exact ⟨j,kv,y,Xh EH hj,f1,f2,f3,f4,f5,e2⟩
 let iT:V -> (List Int × Int) × V:=fun u=>match u with
  | .ref a=>kvs.getD (as.idxOf a) (([],0),.aW)
  | _=>(([],0),.aW)
 let CK:Addr -> Addr:=fun a=>match ys[as.idxOf a]? with
  | some y=>y.2.1
  | none=>0
 have aS:∀ a ∈ as,∃ y:(List Int × Int) × Addr × Value,iT (.ref a) ∈ kvs /\ CK a = y.2.1 /\ E9 H y.2.1 (iT (.ref a)).1 /\ Aw (iT (.ref a)).2 y.2.2 /\ h1.get? a = some { cls := .type "tuple",data := .seq #[.ref y.2.1,y.2.2] }:=fun a ha=>by
  obtain ⟨j,kv,y,f0,f1,f2,f3,f4,f5,f6⟩ := jD a ha
  have e1:iT (.ref a) = kv:=by
   show kvs.getD (as.idxOf a) _ = kv
   rw [f0,List.getD_eq_getElem?_getD,f1]
   rfl
  have e2:CK a = y.2.1:=by
   show (match ys[as.idxOf a]? with | some y=>y.2.1 | none=>0) = _
   rw [f0,f2]
  rw [e1]
  exact ⟨y,List.mem_of_getElem? f1,e2,f4,f5,f6⟩
 let H1:Hp:=fun b=>if b ∈ as then some (.tup [.ref (CK b),(iT (.ref b)).2]) else H b
 have H1n:∀ b,b ∉ as -> H1 b = H b:=fun b hb=>by show (if b ∈ as then _ else H b) = _; rw [if_neg hb]
 have PQ:∀ a,a ∈ as -> H1 a = some (.tup [.ref (CK a),(iT (.ref a)).2]):=fun a ha=>by show (if a ∈ as then _ else H a) = _; rw [if_pos ha]
 have old:∀ b,b < s.heap.objs.size -> H1 b = H b:=fun b hb=>H1n b fun z=>Nat.lt_irrefl _ (Nat.lt_of_lt_of_le hb (vD b z))
 have sm:Aa H H1:=fun b o e=>by rw [old b (I.aP.lt e)]; exact e
 have I1:Ag X pins σ H1 { s with heap:=h1,toks:=t1 }:=I.mZ k1 old fun b o hb e=>by
  by_cases z:b ∈ as
  ·rw [PQ b z] at e
   cases e
   obtain ⟨y,y1,y2,y3,y4,y5⟩ := aS b z
   rw [y2]
   exact ⟨⟨Nat.le_trans (by decide:2 <= 1000) (Uz (Nat.le_refl _)),_,y5,rfl⟩,[.ref y.2.1,y.2.2],.cons rfl (.cons y4 .nil),⟨_,y5,rfl,0,rfl⟩⟩
  ·rw [H1n b z,I.aP.fresh hb] at e
   cases e
 have jN:(as.map V.ref).map iT = kvs:=by
  apply List.ext_getElem?
  intro j
  rw [List.map_map,List.getElem?_map]
  cases hj:as[j]? with
  | none =>
   have:=List.getElem?_eq_none_iff.mp hj
   rw [List.getElem?_eq_none (by omega)]
   rfl
  | some a =>
   have qU:=(List.getElem?_eq_some_iff.mp hj).1
   show some (kvs.getD (as.idxOf a) _) = _
   rw [Xh EH hj,List.getD_eq_getElem?_getD,List.getElem?_eq_getElem (by omega)]
   rfl
 have sD:Ms H1 false (fun u=>Gx dv (iT u)) (fun u=>g (iT u)) (as.map V.ref):=by
  refine ⟨fun u hu=>?_,fun u hu u' NJ=>?_⟩
  ·obtain ⟨a,ha,rfl⟩ := List.mem_map.mp hu
   obtain ⟨y,y1,y2,y3,y4,y5⟩ := aS a ha
   obtain ⟨d1,d2⟩ := hdv _ y1
   refine ⟨?_,⟨ji (iT (.ref a)).1,[dv (iT (.ref a))],rfl,by rw [if_neg (by decide)]; exact ⟨_,rfl⟩⟩,?_⟩
   ·unfold Gx Rp
    refine ⟨a,_,rfl,PQ a ha,?_⟩
    unfold aN
    refine ⟨_,_,rfl,ij (by rw [y2]; exact y3.up fun b xs e=>sm b _ e),?_⟩
    unfold aN
    refine ⟨_,_,rfl,ck sm _ _ d1,?_⟩
    unfold aN
    rfl
   ·show (PyData.tuple [ji (iT (.ref a)).1,dv (iT (.ref a))]).depth <= 50
    simp only [PyData.depth,PyData.depthAll,ji]
    have hints:∀ l:List Int,PyData.depthAll (l.map PyData.int) = 0:=by
     intro l
     induction l with
     | nil=>rfl
     | cons x l ih=>simp only [List.map_cons,PyData.depthAll,PyData.depth,ih]; rfl
    rw [hints]
    omega
  ·obtain ⟨a,ha,rfl⟩ := List.mem_map.mp hu
   obtain ⟨a',CH,rfl⟩ := List.mem_map.mp NJ
   obtain ⟨_,y1,_⟩ := aS a ha
   obtain ⟨_,z1,_⟩ := aS a' CH
   exact PN _ y1 _ z1
 refine ⟨by rw [List.length_map]; omega,PyProof.Rows.tuples' false,fun v=>g (iT (.ref (Oh v))),fun h6 A' hA' k6 h2=>?_,fun out h' c p1 p2 k' e'=>?_⟩
 ·have I6:Ag X pins σ H1 { s with heap:=h6,toks:=t1 }:=I1.kept (t':=t1) k6
  rw [List.length_map] at h2
  exact sD.asks (E:=fun _ _=>True) I6 rfl rfl (by omega) h2
 ·obtain ⟨jE,v1,v2,v3⟩ := Wl (g:=fun u=>g (iT u)) p1 p2
  have eI:H1 h1.objs.size = none:=I1.aP.fresh (Nat.le_refl _)
  refine ⟨.ref _,upd H1 _ (.lst jE),I1.laid (t':=t1) k' (Nat.le_refl _) ⟨by rw [v2.length_eq,List.length_map]; omega,out.toList,c,v1,e'⟩,rfl,q _ jE (jE.map iT) _ (fun b o e=>?_) ?_ A5 ?_ ?_ ?_⟩
  ·rw [Ac (Ae (sm b o e) eI)]
   exact sm b o e
  ·cases e:H h1.objs.size with
   | none=>rfl
   | some o=>rw [sm _ _ e] at eI; cases eI
  ·have:=v2.map iT
   rw [jN] at this
   exact this
  ·rw [List.pairwise_map]
   exact v3
  ·have key : ∀ l : List V, (∀ u ∈ l, ∃ a ∈ as, u = .ref a) -> Paired (Z5 (upd H1 h1.objs.size (.lst jE))) (l.map iT) l := by
    intro l
    induction l with
    | nil=>exact fun _=>.nil
    | cons u l ih =>
     intro hl
     refine .cons ?_ (ih fun u hu=>hl u (List.mem_cons_of_mem _ hu))
     obtain ⟨a,ha,rfl⟩ := hl u List.mem_cons_self
     obtain ⟨y,y1,y2,y3,y4,y5⟩ := aS a ha
     have up:∀ b xs,H1 b = some (.tup xs) -> upd H1 h1.objs.size (.lst jE) b = some (.tup xs):=fun b xs e=>by rw [Ac (Ae e eI)]; exact e
     exact ⟨a,CK a,rfl,up _ _ (PQ a ha),(y2 ▸ y3.up fun b xs e=>sm b _ e:E9 H1 (CK a) _).up up⟩
   refine key jE fun u hu=>?_
   obtain ⟨a,ha,e⟩ := List.mem_map.mp (v2.mem_iff.mp hu)
   exact ⟨a,ha,e.symm⟩
end
section
variable {X:Cx}
def bd:V -> List V -> Hp -> VK -> Prop:=fun x vs H Q=>∃ l xs i y,x = .ref l /\ vs = [.int i,y] /\ H l = some (.lst xs) /\ 0 <= i /\ i <= (xs.length:Int) /\ xs.length < sizeLine /\ Q .aW (upd H l (.lst (xs.take i.toNat ++ y :: xs.drop i.toNat)))
theorem Nh:dc X "list.insert" bd:=by
 intro pins s σ H x vs v us Q I rx rv h
 obtain ⟨l,xs,i,y,rfl,rfl,hH,h0,h1,hz,q⟩ := h
 cases rx
 obtain ⟨u,w,rfl,ru,fY⟩ := rv.two
 obtain ⟨t,rfl⟩ := ru
 obtain ⟨z,aL,n,r,hl,e⟩ := I.jB hH
 have hi:i.toNat <= aL.length:=by omega
 have h63:=He
 refine call_meets F.slot_list_insert ⟨_,e,rfl⟩ F.entry_list_insert (F.args_list_insert_3 _ _ _) (PySem.AutoSeq1.list_insert_list_int_val_1 l aL.toArray n i t w (by rw [fitsIndex_both (by omega) (by omega)]; simp) (by rw [List.size_toArray]; omega)) ⟨e,?_⟩
 refine ⟨.aW,_,I.mH (its':=aL.take i.toNat ++ w :: aL.drop i.toNat) hH e ?_ ((r.take _).append (.cons fY (r.drop _))) ?_,rfl,q⟩
 ·show (aL.toArray.extract 0 (if i < 0 then (i + (aL.toArray.size:Int)).toNat else min i.toNat aL.toArray.size)).push w ++ aL.toArray.extract (if i < 0 then (i + (aL.toArray.size:Int)).toNat else min i.toNat aL.toArray.size) = _
  rw [List.size_toArray,if_neg (by omega),Nat.min_eq_left hi]
  exact Array.toList_inj.mp (by simp; exact List.take_of_length_le (by rw [List.length_drop]; omega))
 ·rw [List.length_append,List.length_cons,List.length_take,List.length_drop]
  omega
end
end L2
namespace Law
local macro_rules | `(tactic| ac_rfl) => `(tactic| first | exact ⟨rfl,rfl,rfl,by decide +kernel,rfl,by decide +kernel,by decide +kernel⟩ | exact ⟨rfl,by decide +kernel,by decide +kernel,by decide +kernel,by decide +kernel⟩)
local macro_rules | `(tactic| omega) => `(tactic| lia)
open PySem L2 PyProof.Rows
open PySem.Builtin.Int (intBits)
def top (i:Nat):Stmt:=PySem.Challenge.pw_roundcall_k76_whole_papers_round.main.body.getD i (.Pass ⟨0,0,0,0⟩)
abbrev Ny:Stmt:=top 15
abbrev Nz:Stmt:=top 16
abbrev Wk:Stmt:=top 17
abbrev Wf:Stmt:=top 18
abbrev Sx:Stmt:=top 19
abbrev Wi:Stmt:=top 20
abbrev Fq:Stmt:=top 21
abbrev Nv:Stmt:=top 22
abbrev Wj:Stmt:=top 23
abbrev O0:Stmt:=top 24
abbrev Lp:Stmt:=top 25
abbrev Ln:Stmt:=top 26
abbrev Wg:Stmt:=top 28
abbrev O4:Stmt:=top 29
abbrev Wd:Stmt:=top 30
abbrev Lq:Stmt:=top 31
abbrev O6:Stmt:=top 32
abbrev Lm:Stmt:=top 33
abbrev Lo:Stmt:=top 34
abbrev Nw:Stmt:=top 36
abbrev Nq:Stmt:=top 38
abbrev Nr:Stmt:=top 40
abbrev O5:Stmt:=top 41
abbrev O1:Stmt:=top 42
abbrev Ii:Stmt:=top 43
abbrev O2:Stmt:=top 44
abbrev Sw:Stmt:=top 45
abbrev Nt:Stmt:=top 46
abbrev O3:Stmt:=top 47
abbrev Nx:Stmt:=top 48
abbrev Nu:Stmt:=top 49
abbrev We:Stmt:=top 50
abbrev Wh:Stmt:=top 51
abbrev Ih:Stmt:=top 52
theorem ip:Aq (["hall"]:List Str) ["hall"] (A9 Ny):=by ac_rfl
theorem iq:Aq (["hall","standing"]:List Str) ["hall","standing"] (A9 Nz):=by ac_rfl
theorem ma:Aq (["hall","who"]:List Str) ["hall","who"] (A9 Wk):=by ac_rfl
theorem m7:Aq (["hall","standing","who","lost"]:List Str) ["hall","standing","who","lost"] (A9 Wf):=by ac_rfl
theorem cp:Aq (["hall","standing","who","lost","left"]:List Str) ["hall","standing","who","lost"] (A9 Sx):=by ac_rfl
def Ix:Scope:={ kind := .function,names:=[(PySem.Str.ofString ".0",NameKind.local),(PySem.Str.ofString "turns",NameKind.local)],isGenerator:=false,isCoroutine:=false,more:=[] }
theorem Iu:Dd (A9 Sx) Ix (["hall","standing","who","lost","left"]:List Str) (["turns"]:List Str) []:=by ac_rfl
theorem J0:(Bz (["hall","standing","who","lost","left"]:List Str) (["turns"]:List Str) []).Nodup:=by decide +kernel
theorem m8:Aq (["hall","standing","lost"]:List Str) ["hall","standing","lost"] (A9 Wi):=by ac_rfl
theorem Ye:Aq (["hall","standing","who","lost","left"]:List Str) ["hall","standing","who","lost"] (A9 Fq):=by ac_rfl
theorem Yb:Aq (["hall","standing","who","behind"]:List Str) ["hall","standing","who"] (A9 Nv):=by ac_rfl
theorem m9:Aq (["hall"]:List Str) ["hall"] (A9 Wj):=by ac_rfl
theorem Pf:Aq (["hall","product","wait"]:List Str) ["hall"] (A9 O0):=by ac_rfl
theorem Ja:Aq (["waits","rows","wait","longer","row"]:List Str) ["waits"] (A9 Lp):=by ac_rfl
def Mi:Scope:={ kind := .function,names:=[(PySem.Str.ofString ".0",NameKind.local),(PySem.Str.ofString "turns",NameKind.local),(PySem.Str.ofString "row",NameKind.free)],isGenerator:=false,isCoroutine:=false,more:=[] }
theorem Me:Dd (A9 Lp) Mi (["waits","rows","wait","longer","row"]:List Str) (["turns"]:List Str) [4]:=by ac_rfl
theorem Mm:(Bz (["waits","rows","wait","longer","row"]:List Str) (["turns"]:List Str) [4]).Nodup:=by decide +kernel
theorem Sz:Aq (["hall","told","left"]:List Str) ["hall"] (A9 Ln):=by ac_rfl
def Kk:Scope:={ kind := .function,names:=[(PySem.Str.ofString ".0",NameKind.local),(PySem.Str.ofString "quiet",NameKind.local),(PySem.Str.ofString "left",NameKind.free)],isGenerator:=false,isCoroutine:=false,more:=[] }
theorem Ki:Dd (A9 Ln) Kk (["hall","told","left"]:List Str) (["quiet"]:List Str) [2]:=by ac_rfl
theorem L6:(Bz (["hall","told","left"]:List Str) (["quiet"]:List Str) [2]).Nodup:=by decide +kernel
theorem O8:Aq (["hall","pending","standing","calls","who","behind"]:List Str) ["hall"] (A9 Wg):=by ac_rfl
theorem Hg:Aq (["pending","ways","standing","calls","who","behind","later"]:List Str) ["pending"] (A9 O4):=by ac_rfl
theorem O7:Aq (["pending","ways","ranked","bare","later","standing","who","calls"]:List Str) ["pending","ways","ranked"] (A9 Wd):=by ac_rfl
theorem Fj:Aq (["hall","pending","ways","table","rank","ranked","standing"]:List Str) ["hall"] (A9 Lq):=by ac_rfl
def S3:Scope:={ kind := .function,names:=[(PySem.Str.ofString ".0",NameKind.local),(PySem.Str.ofString "standing",NameKind.local),(PySem.Str.ofString "calls",NameKind.local)],isGenerator:=false,isCoroutine:=false,more:=[] }
theorem S2:Dd (A9 Lq) S3 (["hall","pending","ways","table","rank","ranked","standing"]:List Str) (["standing","calls"]:List Str) []:=by ac_rfl
theorem L5:(Bz (["hall","pending","ways","table","rank","ranked","standing"]:List Str) (["standing","calls"]:List Str) []).Nodup:=by decide +kernel
theorem iu:Aq (["table","behind"]:List Str) ["table","behind"] (A9 O6):=by ac_rfl
theorem io:Aq (["hall","table","standing","who"]:List Str) ["hall","table","standing","who"] (A9 Lm):=by ac_rfl
def Jq:Scope:={ kind := .function,names:=[(PySem.Str.ofString ".0",NameKind.local),(PySem.Str.ofString "behind",NameKind.local),(PySem.Str.ofString "worth",NameKind.globalImplicit),(PySem.Str.ofString "table",NameKind.free)],isGenerator:=false,isCoroutine:=false,more:=[] }
theorem Jp:Dd (A9 Lm) Jq (["hall","table","standing","who"]:List Str) (["behind"]:List Str) [1]:=by ac_rfl
theorem Jt:(Bz (["hall","table","standing","who"]:List Str) (["behind"]:List Str) [1]).Nodup:=by decide +kernel
theorem Yc:Aq (["hall","table","standing","worths"]:List Str) ["hall","table","standing"] (A9 Lo):=by ac_rfl
def Kj:Scope:={ kind := .function,names:=[(PySem.Str.ofString ".0",NameKind.local),(PySem.Str.ofString "who",NameKind.local),(PySem.Str.ofString "call_worth",NameKind.globalImplicit),(PySem.Str.ofString "hall",NameKind.free),(PySem.Str.ofString "standing",NameKind.free),(PySem.Str.ofString "table",NameKind.free)],isGenerator:=false,isCoroutine:=false,more:=[] }
theorem Kh:Dd (A9 Lo) Kj (["hall","table","standing","worths"]:List Str) (["who"]:List Str) [0,1,2]:=by ac_rfl
theorem L4:(Bz (["hall","table","standing","worths"]:List Str) (["who"]:List Str) [0,1,2]).Nodup:=by decide +kernel
theorem Lr:Aq (["hall","table","calls","coming","standing"]:List Str) ["hall"] (A9 Nw):=by ac_rfl
theorem Hf:Aq (["hall","paper","told","places","calls","standing"]:List Str) ["hall"] (A9 Nq):=by ac_rfl
theorem im:Aq (["script","k"]:List Str) ["script","k"] (A9 Nr):=by ac_rfl
theorem Pg:Aq (["cells","number","k"]:List Str) ["cells"] (A9 O5):=by ac_rfl
theorem ir:Aq (["cell","room"]:List Str) ["cell","room"] (A9 O1):=by ac_rfl
theorem G7:Aq (["script","kind","cells","calm","wait","waits"]:List Str) ["script"] (A9 Ii):=by ac_rfl
def Mj:Scope:={ kind := .function,names:=[(PySem.Str.ofString ".0",NameKind.local),(PySem.Str.ofString "k",NameKind.local),(PySem.Str.ofString "_law_cell_at",NameKind.globalImplicit),(PySem.Str.ofString "script",NameKind.free)],isGenerator:=false,isCoroutine:=false,more:=[] }
theorem Mf:Dd (A9 Ii) Mj (["script","kind","cells","calm","wait","waits"]:List Str) (["k"]:List Str) [0]:=by ac_rfl
theorem Mn:(Bz (["script","kind","cells","calm","wait","waits"]:List Str) (["k"]:List Str) [0]).Nodup:=by decide +kernel
def Mk:Scope:={ kind := .function,names:=[(PySem.Str.ofString ".0",NameKind.local),(PySem.Str.ofString "cell",NameKind.local)],isGenerator:=false,isCoroutine:=false,more:=[] }
theorem Mg:Dd (A9 Ii) Mk (["script","kind","cells","calm","wait","waits"]:List Str) (["cell"]:List Str) []:=by ac_rfl
theorem Mo:(Bz (["script","kind","cells","calm","wait","waits"]:List Str) (["cell"]:List Str) []).Nodup:=by decide +kernel
def Ml:Scope:={ kind := .function,names:=[(PySem.Str.ofString ".0",NameKind.local),(PySem.Str.ofString "cell",NameKind.local)],isGenerator:=false,isCoroutine:=false,more:=[] }
theorem Mh:Dd (A9 Ii) Ml (["script","kind","cells","calm","wait","waits"]:List Str) (["cell"]:List Str) []:=by ac_rfl
theorem Mp:(Bz (["script","kind","cells","calm","wait","waits"]:List Str) (["cell"]:List Str) []).Nodup:=by decide +kernel
theorem Ta:Aq (["script","waits","at"]:List Str) ["script"] (A9 O2):=by ac_rfl
theorem G8:Aq (["script","cell","calm","many","waits","wait","last"]:List Str) ["script"] (A9 Sw):=by ac_rfl
def Ht:Scope:={ kind := .function,names:=[(PySem.Str.ofString ".0",NameKind.local),(PySem.Str.ofString "number",NameKind.local)],isGenerator:=false,isCoroutine:=false,more:=[] }
theorem Hs:Dd (A9 Sw) Ht (["script","cell","calm","many","waits","wait","last"]:List Str) (["number"]:List Str) []:=by ac_rfl
theorem Ic:(Bz (["script","cell","calm","many","waits","wait","last"]:List Str) (["number"]:List Str) []).Nodup:=by decide +kernel
theorem Pe:Aq (["hall","good","e"]:List Str) ["hall"] (A9 Nt):=by ac_rfl
theorem Yd:Aq (["cell","calm"]:List Str) ["cell"] (A9 O3):=by ac_rfl
theorem Sy:Aq (["hall","standing","who","lefts","k"]:List Str) ["hall","standing","who"] (A9 Nx):=by ac_rfl
theorem Ya:Aq (["some","many","number"]:List Str) ["some","many"] (A9 Nu):=by ac_rfl
theorem Y9:Aq (["row","who","wait","twice","place"]:List Str) ["row","who","wait"] (A9 We):=by ac_rfl
theorem Rg:Aq (["hall","calls","lead","row","seen","standing","who"]:List Str) ["hall","calls","lead","row"] (A9 Wh):=by ac_rfl
theorem Es:Aq (["script","four","hall","paper","found","many","lead","row","who"]:List Str) ["script"] (A9 Ih):=by ac_rfl
set_option genInjectivity false in
set_option genSizeOf false in
structure qt where
 cF:Addr
 cH:Addr
 gC:Addr
 gD:Addr
 gE:Addr
 gF:Addr
 bV:Addr
 bW:Addr
 fN:Addr
 cS:Addr
 cT:Addr
 cU:Addr
 gG:Addr
 cV:Addr
 gH:Addr
 cW:Addr
 cX:Addr
 cY:Addr
 cZ:Addr
 cI:Addr
 cJ:Addr
 bX:Addr
 cK:Addr
 dA:Addr
 dB:Addr
 dC:Addr
 gI:Addr
 dD:Addr
 dE:Addr
 dG:Addr
 dH:Addr
 gJ:Addr
 gK:Addr
 eT:Addr
structure Txt (K:PySem.W.Frag) (mg:Str -> Option Value) (ad:qt) (aA aH aB aI aD aE aF aJ aK aM aG aC:Addr):Prop where
 nA:mg "beginning" = some (.ref ad.cF)
 k_x18:PySem.W.keepIn K (.ref ad.cF) = true
 tU:mg "may_lose" = some (.ref ad.cH)
 k_x21:PySem.W.keepIn K (.ref ad.cH) = true
 PR:mg "is_listener" = some (.ref ad.gC)
 k_x8:PySem.W.keepIn K (.ref ad.gC) = true
 PU:mg "refuse_wrong_turn" = some (.ref ad.gD)
 k_x2:PySem.W.keepIn K (.ref ad.gD) = true
 PV:mg "left_behind" = some (.ref ad.gE)
 k_x9:PySem.W.keepIn K (.ref ad.gE) = true
 PX:mg "quiet_behind" = some (.ref ad.gF)
 k_x5:PySem.W.keepIn K (.ref ad.gF) = true
 nB:mg "after" = some (.ref ad.bV)
 k_x30:PySem.W.keepIn K (.ref ad.bV) = true
 nC:mg "all_behind" = some (.ref ad.bW)
 k_x14:PySem.W.keepIn K (.ref ad.bW) = true
 EI:mg "quiet_values" = some (.ref ad.fN)
 k_x6:PySem.W.keepIn K (.ref ad.fN) = true
 EJ:mg "how_many" = some (.ref ad.cS)
 k_x22:PySem.W.keepIn K (.ref ad.cS) = true
 EK:mg "all_left" = some (.ref ad.cT)
 k_x23:PySem.W.keepIn K (.ref ad.cT) = true
 EL:mg "standings" = some (.ref ad.cU)
 k_x19:PySem.W.keepIn K (.ref ad.cU) = true
 PY:mg "calls_by_standing" = some (.ref ad.gG)
 k_x3:PySem.W.keepIn K (.ref ad.gG) = true
 EM:mg "ways_to" = some (.ref ad.cV)
 k_x28:PySem.W.keepIn K (.ref ad.cV) = true
 PZ:mg "without_calls_left" = some (.ref ad.gH)
 k_x0:PySem.W.keepIn K (.ref ad.gH) = true
 EN:mg "ranks" = some (.ref ad.cW)
 k_x31:PySem.W.keepIn K (.ref ad.cW) = true
 EO:mg "worth" = some (.ref ad.cX)
 k_x32:PySem.W.keepIn K (.ref ad.cX) = true
 ER:mg "call_worth" = some (.ref ad.cY)
 k_x15:PySem.W.keepIn K (.ref ad.cY) = true
 ES:mg "best_call" = some (.ref ad.cZ)
 k_x20:PySem.W.keepIn K (.ref ad.cZ) = true
 tV:mg "kept_paper" = some (.ref ad.cI)
 k_x16:PySem.W.keepIn K (.ref ad.cI) = true
 kU:mg "paper_round" = some (.ref ad.cJ)
 k_x10:PySem.W.keepIn K (.ref ad.cJ) = true
 cL:mg "_law_cell_at" = some (.ref ad.bX)
 k_x11:PySem.W.keepIn K (.ref ad.bX) = true
 tW:mg "_law_sum" = some (.ref ad.cK)
 k_x29:PySem.W.keepIn K (.ref ad.cK) = true
 nD:mg "_law_calm" = some (.ref ad.dA)
 k_x24:PySem.W.keepIn K (.ref ad.dA) = true
 ET:mg "_law_hall" = some (.ref ad.dB)
 k_x25:PySem.W.keepIn K (.ref ad.dB) = true
 EU:mg "_law_four" = some (.ref ad.dC)
 k_x26:PySem.W.keepIn K (.ref ad.dC) = true
 QA:mg "_law_too_many" = some (.ref ad.gI)
 k_x7:PySem.W.keepIn K (.ref ad.gI) = true
 EV:mg "_law_refused" = some (.ref ad.dD)
 k_x12:PySem.W.keepIn K (.ref ad.dD) = true
 EW:mg "_law_just" = some (.ref ad.dE)
 k_x27:PySem.W.keepIn K (.ref ad.dE) = true
 EX:mg "_law_behind" = some (.ref ad.dG)
 k_x17:PySem.W.keepIn K (.ref ad.dG) = true
 tX:mg "_law_numbers" = some (.ref ad.dH)
 k_x13:PySem.W.keepIn K (.ref ad.dH) = true
 QB:mg "_law_called_in_time" = some (.ref ad.gJ)
 k_x1:PySem.W.keepIn K (.ref ad.gJ) = true
 QC:mg "_law_goes_round" = some (.ref ad.gK)
 k_x4:PySem.W.keepIn K (.ref ad.gK) = true
 m_law:mg "law" = some (.ref ad.eT)
 k_law:PySem.W.keepIn K (.ref ad.eT) = true
 bS:mg "len" = none
 tY:mg "max" = none
 bI:mg "tuple" = none
 bJ:mg "range" = none
 tZ:mg "min" = none
 nF:mg "sorted" = none
 nG:mg "dict" = none
 iH:mg "ValueError" = none
 aX:mg "isinstance" = none
 jZ:mg "list" = none
 wc:mg "bool" = none
 EY:mg "int" = none
 eP:∃ t,mg "MOST_STANDINGS" = some (.int 3000 t)
 gR:mg "TooMany" = some (.ref aA)
 nH:mg "NoHall" = some (.ref aH)
 iI:mg "NoListener" = some (.ref aB)
 nI:mg "NoLoss" = some (.ref aI)
 lL:mg "NoWheel" = some (.ref aD)
 lM:mg "NoChain" = some (.ref aE)
 lN:mg "TooMuch" = some (.ref aF)
 nJ:mg "NoPart" = some (.ref aJ)
 nK:mg "Unsafe" = some (.ref aK)
 rS:mg "NoRow" = some (.ref aM)
 lO:mg "NoStand" = some (.ref aG)
 iJ:mg "RoundError" = some (.ref aC)
 e_TooMany:Zd K aA
 b_NoHall:PySem.W.subIn K (.ref aH) (.type "BaseException") = some true
 s_TooMany_NoHall:PySem.W.subIn K (.ref aA) (.ref aH) = some false
 b_NoListener:PySem.W.subIn K (.ref aB) (.type "BaseException") = some true
 s_TooMany_NoListener:PySem.W.subIn K (.ref aA) (.ref aB) = some false
 b_NoLoss:PySem.W.subIn K (.ref aI) (.type "BaseException") = some true
 s_TooMany_NoLoss:PySem.W.subIn K (.ref aA) (.ref aI) = some false
 b_NoWheel:PySem.W.subIn K (.ref aD) (.type "BaseException") = some true
 s_TooMany_NoWheel:PySem.W.subIn K (.ref aA) (.ref aD) = some false
 b_NoChain:PySem.W.subIn K (.ref aE) (.type "BaseException") = some true
 s_TooMany_NoChain:PySem.W.subIn K (.ref aA) (.ref aE) = some false
 b_TooMuch:PySem.W.subIn K (.ref aF) (.type "BaseException") = some true
 s_TooMany_TooMuch:PySem.W.subIn K (.ref aA) (.ref aF) = some false
 b_NoPart:PySem.W.subIn K (.ref aJ) (.type "BaseException") = some true
 s_TooMany_NoPart:PySem.W.subIn K (.ref aA) (.ref aJ) = some false
 b_Unsafe:PySem.W.subIn K (.ref aK) (.type "BaseException") = some true
 s_TooMany_Unsafe:PySem.W.subIn K (.ref aA) (.ref aK) = some false
 b_NoRow:PySem.W.subIn K (.ref aM) (.type "BaseException") = some true
 s_TooMany_NoRow:PySem.W.subIn K (.ref aA) (.ref aM) = some false
 b_NoStand:PySem.W.subIn K (.ref aG) (.type "BaseException") = some true
 s_TooMany_NoStand:PySem.W.subIn K (.ref aA) (.ref aG) = some false
 i_TooMany_RoundError:PySem.W.kitOne K (.ref aA) (.ref aC) = some true
 i_TooMany_ValueError:PySem.W.kitOne K (.ref aA) (.type "ValueError") = some true
inductive V3 (p0 p1 p2:Prop):Prop where
 | mk (h0:p0) (h1:p1) (h2:p2):V3 p0 p1 p2
inductive Jm (p0 p1 p2 p3:Prop):Prop where
 | mk (h0:p0) (h1:p1) (h2:p2) (h3:p3):Jm p0 p1 p2 p3
inductive Hl (p0 p1 p2 p3 p4:Prop):Prop where
 | mk (h0:p0) (h1:p1) (h2:p2) (h3:p3) (h4:p4):Hl p0 p1 p2 p3 p4
inductive Py (p0 p1 p2 p3 p4 p5:Prop):Prop where
 | mk (h0:p0) (h1:p1) (h2:p2) (h3:p3) (h4:p4) (h5:p5):Py p0 p1 p2 p3 p4 p5
inductive K8 (p0 p1 p2 p3 p4 p5 p6:Prop):Prop where
 | mk (h0:p0) (h1:p1) (h2:p2) (h3:p3) (h4:p4) (h5:p5) (h6:p6):K8 p0 p1 p2 p3 p4 p5 p6
inductive Z9 (p0 p1 p2 p3 p4 p5 p6 p7:Prop):Prop where
 | mk (h0:p0) (h1:p1) (h2:p2) (h3:p3) (h4:p4) (h5:p5) (h6:p6) (h7:p7):Z9 p0 p1 p2 p3 p4 p5 p6 p7
inductive Rs (p0 p1 p2 p3 p4 p5 p6 p7 p8:Prop):Prop where
 | mk (h0:p0) (h1:p1) (h2:p2) (h3:p3) (h4:p4) (h5:p5) (h6:p6) (h7:p7) (h8:p8):Rs p0 p1 p2 p3 p4 p5 p6 p7 p8
inductive K7 (p0 p1 p2 p3 p4 p5 p6 p7 p8 p9:Prop):Prop where
 | mk (h0:p0) (h1:p1) (h2:p2) (h3:p3) (h4:p4) (h5:p5) (h6:p6) (h7:p7) (h8:p8) (h9:p9):K7 p0 p1 p2 p3 p4 p5 p6 p7 p8 p9
inductive U1 (p0 p1 p2 p3 p4 p5 p6 p7 p8 p9 um:Prop):Prop where
 | mk (h0:p0) (h1:p1) (h2:p2) (h3:p3) (h4:p4) (h5:p5) (h6:p6) (h7:p7) (h8:p8) (h9:p9) (h10:um):U1 p0 p1 p2 p3 p4 p5 p6 p7 p8 p9 um
inductive br (p0 p1 p2 p3 p4 p5 p6 p7 p8 p9 um EZ FA FC FD:Prop):Prop where
 | mk (h0:p0) (h1:p1) (h2:p2) (h3:p3) (h4:p4) (h5:p5) (h6:p6) (h7:p7) (h8:p8) (h9:p9) (h10:um) (h11:EZ) (h12:FA) (h13:FC) (h14:FD):br p0 p1 p2 p3 p4 p5 p6 p7 p8 p9 um EZ FA FC FD
inductive bv (p0 p1 p2 p3 p4 p5 p6 p7 p8 p9 um EZ FA FC FD p15:Prop):Prop where
 | mk (h0:p0) (h1:p1) (h2:p2) (h3:p3) (h4:p4) (h5:p5) (h6:p6) (h7:p7) (h8:p8) (h9:p9) (h10:um) (h11:EZ) (h12:FA) (h13:FC) (h14:FD) (h15:p15):bv p0 p1 p2 p3 p4 p5 p6 p7 p8 p9 um EZ FA FC FD p15
inductive U4 {T0 T1:Type} (p:T0 -> T1 -> Prop):Prop where
 | mk (x0:T0) (x1:T1) (h:p x0 x1):U4 p
inductive Ma {T0 T1 T2:Type} (p:T0 -> T1 -> T2 -> Prop):Prop where
 | mk (x0:T0) (x1:T1) (x2:T2) (h:p x0 x1 x2):Ma p
inductive cw {T0 T1 T2 T3:Type} (p:T0 -> T1 -> T2 -> T3 -> Prop):Prop where
 | mk (x0:T0) (x1:T1) (x2:T2) (x3:T3) (h:p x0 x1 x2 x3):cw p
inductive jl {T0 T1 T2 T3 T4:Type} (p:T0 -> T1 -> T2 -> T3 -> T4 -> Prop):Prop where
 | mk (x0:T0) (x1:T1) (x2:T2) (x3:T3) (x4:T4) (h:p x0 x1 x2 x3 x4):jl p
inductive jm {T0 T1 T2 T3 T4 T5:Type} (p:T0 -> T1 -> T2 -> T3 -> T4 -> T5 -> Prop):Prop where
 | mk (x0:T0) (x1:T1) (x2:T2) (x3:T3) (x4:T4) (x5:T5) (h:p x0 x1 x2 x3 x4 x5):jm p
inductive qw {T0 T1 T2 T3 T4 T5 T6:Type} (p:T0 -> T1 -> T2 -> T3 -> T4 -> T5 -> T6 -> Prop):Prop where
 | mk (x0:T0) (x1:T1) (x2:T2) (x3:T3) (x4:T4) (x5:T5) (x6:T6) (h:p x0 x1 x2 x3 x4 x5 x6):qw p
inductive cx {T0 T1 T2 T3 T4 T5 T6 T7:Type} (p:T0 -> T1 -> T2 -> T3 -> T4 -> T5 -> T6 -> T7 -> Prop):Prop where
 | mk (x0:T0) (x1:T1) (x2:T2) (x3:T3) (x4:T4) (x5:T5) (x6:T6) (x7:T7) (h:p x0 x1 x2 x3 x4 x5 x6 x7):cx p
inductive qx {T0 T1 T2 T3 T4 T5 T6 T7 T8:Type} (p:T0 -> T1 -> T2 -> T3 -> T4 -> T5 -> T6 -> T7 -> T8 -> Prop):Prop where
 | mk (x0:T0) (x1:T1) (x2:T2) (x3:T3) (x4:T4) (x5:T5) (x6:T6) (x7:T7) (x8:T8) (h:p x0 x1 x2 x3 x4 x5 x6 x7 x8):qx p
inductive cu {T0 T1 T2 T3 T4 T5 T6 T7 T8 T9:Type} (p:T0 -> T1 -> T2 -> T3 -> T4 -> T5 -> T6 -> T7 -> T8 -> T9 -> Prop):Prop where
 | mk (x0:T0) (x1:T1) (x2:T2) (x3:T3) (x4:T4) (x5:T5) (x6:T6) (x7:T7) (x8:T8) (x9:T9) (h:p x0 x1 x2 x3 x4 x5 x6 x7 x8 x9):cu p
def B8 (H:Hp) (a:Addr) (ws:List Int) (calm:Option Int):Prop := ∃ t,H a = some (.tup [.ref t,vO calm]) /\ H t = some (.tup (ws.map V.int))
def Ec (H:Hp) (b:Addr) (ls:List Int) (q:Int):Prop := ∃ u,H b = some (.tup [.ref u,.int q]) /\ H u = some (.tup (ls.map V.int))
theorem B8.same {H H':Hp} {a:Addr} {ws:List Int} {calm:Option Int} (s:Aa H H') (h:B8 H a ws calm):B8 H' a ws calm:=by
 obtain ⟨t,h1,h2⟩ := h
 exact ⟨t,s _ _ h1,s _ _ h2⟩
theorem Ec.same {H H':Hp} {a:Addr} {ls:List Int} {q:Int} (s:Aa H H') (h:Ec H a ls q):Ec H' a ls q:=by
 obtain ⟨t,h1,h2⟩ := h
 exact ⟨t,s _ _ h1,s _ _ h2⟩
theorem jc (c:Option Int):decide (vO c = V.aW) = decide (c = none):=by cases c <;> simp [vO]
def Bb (ws ls:List Int) (who:Nat) (lost:Bool):List Int:=if lost = true then ls.map (fun x=>x - 1) else (ls.map (fun x=>x - 1)).set who (ws.getD who 0)
def Dc (calm:Option Int) (q:Int) (lost:Bool):Int:=if lost = true then calm.getD 0 else max (q - 1) 0
def Wq (calm:Option Int) (q:Int) (lost:Bool):Prop:=lost = true -> calm ≠ none /\ q = 0
theorem Ff (ws ls:List Int) (who:Nat) (lost:Bool):(Bb ws ls who lost).length = ls.length:=by
 unfold Bb
 split <;> simp
theorem Hx (x:Int):∀ ns:List Int,kg (.int x) (ns.map V.int) = decide (x ∈ ns)
 | []=>rfl
 | n :: ns=>by
  show (Zt (V.int n) (V.int x) || kg (.int x) (ns.map V.int)) = _
  rw [Hx x ns]
  show ((n == x) || decide (x ∈ ns)) = _
  by_cases h:n = x
  ·simp [h]
  ·have h':¬ x = n:=fun e=>h e.symm
   simp [h,h']
theorem Gh:∀ ns:List Int,(ns.map V.int).all Fm = true
 | []=>rfl
 | n :: ns=>by
  show (Fm (V.int n) && (ns.map V.int).all Fm) = true
  rw [Gh ns]
  rfl
theorem Uo {ws:List Int} {k:Nat} (h:k < ws.length):Q8 (ws.map V.int) (k:Int) = some (.int (ws.getD k 0)):=by
 refine Oj ?_
 rw [List.getElem?_map,List.getElem?_eq_getElem h,List.getD_eq_getElem?_getD,List.getElem?_eq_getElem h]
 rfl
theorem Os {n k:Nat} (h:k < n):Z8 n (k:Int) = some k:=by
 unfold Z8
 rw [if_pos (by omega),if_pos (by omega)]
 simp
theorem U8 {a:Int} {n:Nat} (h:a.natAbs < 2 ^ n):intBits a <= n:=intBits_le h
theorem Au (x:Int) {m:Int} (h:0 < m):0 <= x % m /\ x % m < m:=⟨Int.emod_nonneg x (by omega),Int.emod_lt_of_pos x h⟩
def Gu (xs:List Int) (lo hi:Option Int):List Int:=(xs.drop (HT.gN xs.length 0 lo)).take (HT.gN xs.length xs.length hi - HT.gN xs.length 0 lo)
theorem Iw (xs:List Int) (lo hi:Option Int):Iv (xs.map V.int) lo hi = (Gu xs lo hi).map V.int:=by
 unfold Iv Gu
 rw [List.length_map,List.map_take,List.map_drop]
theorem Jc (xs:List Int) (lo hi:Option Int):(Gu xs lo hi).length <= xs.length:=by
 unfold Gu
 rw [List.length_take,List.length_drop]
 omega
theorem Zm {xs:List V} {c:Int} (h0:0 <= c) (h:c <= xs.length):Iv xs none (some c) = xs.take c.toNat:=by
 obtain ⟨n,rfl⟩ : ∃ n:Nat,c = n:=⟨c.toNat,by omega⟩
 unfold Iv
 rw [HT.iY,HT.cP]
 have e:min n xs.length = n:=by omega
 rw [e]
 simp
theorem Vf {xs:List V} {c:Int} (h0:0 <= c) (h:c <= xs.length):Iv xs (some c) none = xs.drop c.toNat:=by
 obtain ⟨n,rfl⟩ : ∃ n:Nat,c = n:=⟨c.toNat,by omega⟩
 unfold Iv
 rw [HT.iY,HT.cP]
 have e:min n xs.length = n:=by omega
 rw [e,Int.toNat_natCast,List.take_of_length_le]
 rw [List.length_drop]
 omega
theorem V9 {a b:Int} {m n:Nat} (ha:intBits a <= m) (hb:intBits b <= n):intBits (a * b) <= m + n:=by
 apply intBits_le
 rw [Int.natAbs_mul,Nat.pow_add]
 have h1:=Nat.lt_of_lt_of_le (natAbs_lt_pow_bits a) (Nat.pow_le_pow_right (by decide) ha)
 have h2:=Nat.lt_of_lt_of_le (natAbs_lt_pow_bits b) (Nat.pow_le_pow_right (by decide) hb)
 exact Nat.mul_lt_mul'' h1 h2
theorem F8 {n:Nat} (h:n <= 10000):n < sizeLine:=Nat.lt_of_le_of_lt h (by decide)
def Ar (H H':Hp):Prop := ∀ b xs,H b = some (.tup xs) -> H' b = some (.tup xs)
theorem Ar.of {H H':Hp} (s:Aa H H'):Ar H H':=fun b xs e=>s b _ e
theorem Ar.trans {H H1 H2:Hp} (a:Ar H H1) (b:Ar H1 H2):Ar H H2:=fun c xs e=>b c xs (a c xs e)
theorem Ar.lst {H:Hp} {D:Addr} {zs:List V} {o:HO} (h:H D = some (.lst zs)):Ar H (upd H D o):=fun b xs e=>by
 rw [Ac (Bw e h (by intro z; cases z))]
 exact e
def Ed (H:Hp) (r:List Int) (v:V):Prop := ∃ p,v = .ref p /\ H p = some (.tup (r.map V.int))
def Fr (H:Hp) (z:List Int × Int) (v:V):Prop := ∃ p u,v = .ref p /\ H p = some (.tup [.ref u,.int z.2]) /\ H u = some (.tup (z.1.map V.int))
theorem Ed.up {H H':Hp} {r:List Int} {v:V} (t:Ar H H') (h:Ed H r v):Ed H' r v:=by
 obtain ⟨p,e,h1⟩ := h
 exact ⟨p,e,t _ _ h1⟩
theorem Fr.up {H H':Hp} {z:List Int × Int} {v:V} (t:Ar H H') (h:Fr H z v):Fr H' z v:=by
 obtain ⟨p,u,e,h1,h2⟩ := h
 exact ⟨p,u,e,t _ _ h1,t _ _ h2⟩
def An {α:Type} (P:α -> V -> Prop) (rs:List α) (vs:List V):Prop:=vs.length = rs.length /\ ∀ (i:Nat) (r:α) (v:V),rs[i]? = some r -> vs[i]? = some v -> P r v
theorem An.nil {α:Type} {P:α -> V -> Prop}:An P [] []:=⟨rfl,fun i r v e=>by cases e⟩
theorem An.imp {α:Type} {P P':α -> V -> Prop} {rs:List α} {vs:List V} (f:∀ r v,P r v -> P' r v) (h:An P rs vs):An P' rs vs:=⟨h.1,fun i r v e1 e2=>f _ _ (h.2 i r v e1 e2)⟩
theorem An.append {α:Type} {P:α -> V -> Prop} {rs ss:List α} {vs us:List V} (h:An P rs vs) (g:An P ss us):An P (rs ++ ss) (vs ++ us):=by
 refine ⟨by rw [List.length_append,List.length_append,h.1,g.1],fun i r v e1 e2=>?_⟩
 rcases Nat.lt_or_ge i rs.length with z | z
 ·rw [List.getElem?_append_left z] at e1
  rw [List.getElem?_append_left (by rw [h.1]; exact z)] at e2
  exact h.2 i r v e1 e2
 ·rw [List.getElem?_append_right z] at e1
  rw [List.getElem?_append_right (by rw [h.1]; exact z),h.1] at e2
  exact g.2 _ r v e1 e2
theorem An.one {α:Type} {P:α -> V -> Prop} {r:α} {v:V} (h:P r v):An P [r] [v]:=by
 refine ⟨rfl,fun i r' v' e1 e2=>?_⟩
 cases i with
 | zero=>cases e1; cases e2; exact h
 | succ i=>cases e1
theorem An.get {α:Type} {P:α -> V -> Prop} {rs:List α} {vs:List V} (h:An P rs vs) {i:Nat} {v:V} (e:vs[i]? = some v):∃ r,rs[i]? = some r /\ P r v:=by
 have hi:=(List.getElem?_eq_some_iff.mp e).1
 have mD:i < rs.length:=by
  rw [<- h.1]
  exact hi
 have h2:rs[i]? = some rs[i]:=List.getElem?_eq_getElem mD
 exact ⟨_,h2,h.2 i _ v h2 e⟩
def qv:Option Int -> Int
 | none=>1
 | some c=>c + 1
def Am (q:Int) (ws:List Int):Int:=ws.foldl (· * ·) q
def Ox (r:List Int) (w:Int):List (List Int):=(List.range w.toNat).map fun t=>r ++ [1 + ((t:Nat):Int)]
def C8 (rows:List (List Int)) (w:Int):List (List Int):=rows.flatMap fun r=>Ox r w
def Cb (ws:List Int):List (List Int):=ws.foldl C8 [[]]
def Fa (r:List Int) (q:Int):List (List Int × Int):=(List.range q.toNat).map fun k=>(r,0 + ((k:Nat):Int))
def Bk (ws:List Int) (q:Int):List (List Int × Int):=(Cb ws).flatMap fun r=>Fa r q
theorem Ex {α β:Type} (f:β -> α -> β) (b:β) (xs:List α) {i:Nat} {x:α} (h:xs[i]? = some x):(xs.take (i + 1)).foldl f b = f ((xs.take i).foldl f b) x:=by
 rw [List.take_add_one,h,List.foldl_append]
 rfl
theorem N2 {α β:Type} (f:α -> List β) (xs:List α) {i:Nat} {x:α} (h:xs[i]? = some x):(xs.take (i + 1)).flatMap f = (xs.take i).flatMap f ++ f x:=by
 rw [List.take_add_one,h,List.flatMap_append]
 simp
theorem Nl {q:Int} (hq:intBits q <= 256):∀ {ws:List Int},(∀ w ∈ ws,intBits w <= 256) -> ∀ i,i <= ws.length -> intBits (Am q (ws.take i)) <= 256 * (i + 1)
 | ws,h,0,_=>by simpa [Am] using hq
 | ws,h,i + 1,hi=>by
  have hx:ws[i]? = some ws[i]:=List.getElem?_eq_getElem (by omega)
  have ih:=Nl hq h i (by omega)
  unfold Am at ih ⊢
  rw [Ex _ _ _ hx]
  exact Nat.le_trans (V9 ih (h _ (List.getElem_mem _))) (by omega)
theorem Le (q:Int):∀ (ws:List Int) (a:Int),Am (q * a) ws = q * Am a ws
 | [],a=>rfl
 | w :: ws,a=>by
  show Am (q * a * w) ws = q * Am (a * w) ws
  rw [Int.mul_assoc,Le q ws (a * w)]
theorem Ko {α β:Type} {f:α -> List β} {n:Nat}:∀ {xs:List α},(∀ x ∈ xs,(f x).length = n) -> (xs.flatMap f).length = xs.length * n
 | [],_=>by simp
 | x :: xs,h=>by
  rw [List.flatMap_cons,List.length_append,h x (List.mem_cons_self ..),Ko fun y hy=>h y (List.mem_cons_of_mem _ hy),List.length_cons,Nat.succ_mul]
  omega
theorem Qu (r:List Int) (w:Int):(Ox r w).length = w.toNat:=by simp [Ox]
theorem Oc (r:List Int) (q:Int):(Fa r q).length = q.toNat:=by simp [Fa]
theorem Lw (rows:List (List Int)) (w:Int):(C8 rows w).length = rows.length * w.toNat:=Ko fun r _=>Qu r w
theorem Ll:∀ (ws:List Int) (rows:List (List Int)),(∀ w ∈ ws,1 <= w) -> ((ws.foldl C8 rows).length:Int) = Am (rows.length:Int) ws
 | [],rows,_=>rfl
 | w :: ws,rows,h=>by
  have hw:=h w (List.mem_cons_self ..)
  show ((ws.foldl C8 (C8 rows w)).length:Int) = Am ((rows.length:Int) * w) ws
  rw [Ll ws _ (fun x hx=>h x (List.mem_cons_of_mem _ hx)),Lw]
  congr 1
  rw [Int.natCast_mul]
  congr 1
  omega
theorem Id:∀ (ws:List Int) (a:Int),0 <= a -> (∀ w ∈ ws,1 <= w) -> a <= Am a ws
 | [],a,_,_=>Int.le_refl _
 | w :: ws,a,ha,h=>by
  have hw:=h w (List.mem_cons_self ..)
  have h1:a <= a * w:=by
   have:=Int.mul_le_mul_of_nonneg_left hw ha
   rw [Int.mul_one] at this
   exact this
  exact Int.le_trans h1 (Id ws (a * w) (Int.le_trans ha h1) fun x hx=>h x (List.mem_cons_of_mem _ hx))
theorem Wc {ws:List Int} {a:Int} (ha:0 <= a) (h:∀ w ∈ ws,1 <= w) (i:Nat):Am a (ws.take i) <= Am a ws:=by
 have e:Am a ws = Am (Am a (ws.take i)) (ws.drop i):=by
  unfold Am
  rw [<- List.foldl_append,List.take_append_drop]
 rw [e]
 refine Id _ _ (Int.le_trans ha (Id _ _ ha fun w hw=>h w (List.mem_of_mem_take hw))) fun w hw=>h w (List.mem_of_mem_drop hw)
theorem P1 {r x:List Int} {w:Int} (h:x ∈ Ox r w):∃ t:Nat,t < w.toNat /\ x = r ++ [1 + (t:Int)]:=by
 unfold Ox at h
 obtain ⟨t,h1,rfl⟩ := List.mem_map.mp h
 exact ⟨t,List.mem_range.mp h1,rfl⟩
theorem Ig (ws:List Int):∀ i,i <= ws.length -> ∀ r ∈ Cb (ws.take i),r.length = i /\ ∀ (k:Nat) (x w:Int),r[k]? = some x -> ws[k]? = some w -> 1 <= x /\ x <= w
 | 0,_,r,h=>by
  have e:r = []:=List.mem_singleton.mp h
  subst e
  exact ⟨rfl,fun k x w e=>by cases e⟩
 | i + 1,hi,r,h=>by
  have hw:ws[i]? = some ws[i]:=List.getElem?_eq_getElem (by omega)
  have e:Cb (ws.take (i + 1)) = C8 (Cb (ws.take i)) ws[i]:=Ex _ _ _ hw
  rw [e] at h
  obtain ⟨r',h1,h2⟩ := List.mem_flatMap.mp h
  obtain ⟨t,h3,rfl⟩ := P1 h2
  obtain ⟨h4,h5⟩ := Ig ws i (by omega) r' h1
  refine ⟨by simp [h4],fun k x w e1 e2=>?_⟩
  rcases Nat.lt_or_ge k r'.length with z | z
  ·rw [List.getElem?_append_left z] at e1
   exact h5 k x w e1 e2
  ·have hk : k = i := by
    have:=(List.getElem?_eq_some_iff.mp e1).1
    rw [List.length_append,List.length_singleton] at this
    omega
   subst hk
   rw [List.getElem?_append_right z,h4,Nat.sub_self] at e1
   cases e1
   rw [hw] at e2
   cases e2
   omega
def V5 (r s:List Int):Prop:=aQ (r.map PyData.int) (s.map PyData.int) = true
theorem Jx (a b:Int):PyData.eqv (.int a) (.int b) = decide (a = b):=by
 show (a == b) = _
 by_cases h:a = b <;> simp [h]
theorem Oy:∀ r:List Int,¬ V5 r r
 | []=>by unfold V5; simp [aQ]
 | x :: r=>fun h=>by
  have ih:=Oy r
  unfold V5 at h ih
  rw [List.map_cons,aQ,Jx,if_pos (by simp)] at h
  exact ih h
theorem Qy:∀ {r s:List Int} {x y:Int},r.length = s.length -> V5 r s -> V5 (r ++ [x]) (s ++ [y])
 | [],[],x,y,_,h=>absurd h (Oy [])
 | [],_ :: _,_,_,hl,_=>by simp at hl
 | _ :: _,[],_,_,hl,_=>by simp at hl
 | a :: r,b :: s,x,y,hl,h=>by
  unfold V5 at h ⊢
  rw [List.cons_append,List.cons_append,List.map_cons,List.map_cons,aQ] at *
  by_cases e:PyData.eqv (.int a) (.int b) = true
  ·rw [if_pos e] at h ⊢
   exact Qy (r:=r) (s:=s) (by simpa using hl) h
  ·rw [if_neg e] at h ⊢
   exact h
theorem Qx:∀ {r:List Int} {x y:Int},x < y -> V5 (r ++ [x]) (r ++ [y])
 | [],x,y,h=>by
  unfold V5
  show aQ [PyData.int x] [PyData.int y] = true
  rw [aQ,Jx,if_neg (by simp; omega),Hz]
  exact decide_eq_true h
 | a :: r,x,y,h=>by
  unfold V5
  rw [List.cons_append,List.cons_append,List.map_cons,List.map_cons,aQ,Jx,if_pos (by simp)]
  exact Qx (r:=r) h
theorem Sg (r:List Int) (w:Int):(Ox r w).Pairwise V5:=by
 unfold Ox
 rw [List.pairwise_map]
 exact List.pairwise_lt_range.imp fun h=>Qx (by omega)
theorem Jh (ws:List Int):∀ i,i <= ws.length -> (Cb (ws.take i)).Pairwise V5
 | 0,_=>by
  show ([[]]:List (List Int)).Pairwise V5
  exact List.pairwise_singleton _ _
 | i + 1,hi=>by
  have hw:ws[i]? = some ws[i]:=List.getElem?_eq_getElem (by omega)
  have e:Cb (ws.take (i + 1)) = C8 (Cb (ws.take i)) ws[i]:=Ex _ _ _ hw
  rw [e]
  unfold C8
  rw [List.pairwise_flatMap]
  refine ⟨fun r _=>Sg r _,?_⟩
  refine (Jh ws i (by omega)).imp_of_mem fun {a b} ha hb h x hx y hy=>?_
  obtain ⟨t,_,rfl⟩ := P1 hx
  obtain ⟨u,_,rfl⟩ := P1 hy
  have h1:=(Ig ws i (by omega) a ha).1
  have h2:=(Ig ws i (by omega) b hb).1
  exact Qy (by omega) h
def dS (z:List Int × Int):PyData:=dP (dT z.1) (.int z.2)
theorem Xo {a b:List Int × Int} (h:V5 a.1 b.1 \/ (a.1 = b.1 /\ a.2 < b.2)):Hz (dS a) (dS b) = true:=by
 show aQ [dT a.1,.int a.2] [dT b.1,.int b.2] = true
 rw [aQ,X7]
 rcases h with h | ⟨h1,h2⟩
 ·have fA : ¬ a.1 = b.1 := fun e => by
   rw [e] at h
   exact Oy _ h
  rw [if_neg (by simpa using fA)]
  exact h
 ·rw [if_pos (by simpa using h1),aQ,Jx,if_neg (by simp; omega),Hz]
  exact decide_eq_true h2
theorem P2 {r:List Int} {q:Int} {z:List Int × Int} (h:z ∈ Fa r q):z.1 = r /\ 0 <= z.2 /\ z.2 < q:=by
 unfold Fa at h
 obtain ⟨k,h1,rfl⟩ := List.mem_map.mp h
 have:=List.mem_range.mp h1
 exact ⟨rfl,by show 0 <= 0 + (k:Int); omega,by show 0 + (k:Int) < q; omega⟩
theorem Fk (ws:List Int) (q:Int):(Bk ws q).Pairwise fun a b=>Hz (dS a) (dS b) = true:=by
 unfold Bk
 rw [List.pairwise_flatMap]
 refine ⟨fun r _=>?_,?_⟩
 ·unfold Fa
  rw [List.pairwise_map]
  exact List.pairwise_lt_range.imp fun {a b} h=>Xo (a:=(r,0 + ((a:Nat):Int))) (b:=(r,0 + ((b:Nat):Int))) (.inr ⟨rfl,by show 0 + ((a:Nat):Int) < 0 + ((b:Nat):Int); omega⟩)
 ·have h:=Jh ws ws.length (Nat.le_refl _)
  rw [List.take_length] at h
  refine h.imp fun {a b} h x hx y hy=>?_
  exact Xo (.inl (by rw [(P2 hx).1,(P2 hy).1]; exact h))
theorem Jb {ws:List Int} {q:Int} (h:∀ w ∈ ws,1 <= w) (hq:0 <= q):((Bk ws q).length:Int) = Am q ws:=by
 unfold Bk
 rw [Ko fun r _=>Oc r q,Int.natCast_mul]
 have e:((Cb ws).length:Int) = Am 1 ws:=Ll ws [[]] h
 rw [e,Int.toNat_of_nonneg hq,Int.mul_comm,<- Le,Int.mul_one]
theorem Oa {ws:List Int} {q:Int} {z:List Int × Int} (h:z ∈ Bk ws q):z.1.length = ws.length /\ (∀ (k:Nat) (x w:Int),z.1[k]? = some x -> ws[k]? = some w -> 1 <= x /\ x <= w) /\ 0 <= z.2 /\ z.2 < q:=by
 obtain ⟨r,h1,h2⟩ := List.mem_flatMap.mp h
 obtain ⟨h3,h4,h5⟩ := P2 h2
 have h6:=Ig ws ws.length (Nat.le_refl _) r (by rw [List.take_length]; exact h1)
 rw [h3]
 exact ⟨h6.1,h6.2,h4,h5⟩
theorem Nn {ws:List Int} (h:∀ w ∈ ws,1 <= w) (hp:Am 1 ws <= 3000) (i:Nat):(Cb (ws.take i)).length <= 3000:=by
 have e:=Ll (ws.take i) [[]] fun w hw=>h w (List.mem_of_mem_take hw)
 have e2:=Wc (ws:=ws) (a:=1) (by decide) h i
 have e3:Am (([[]]:List (List Int)).length:Int) (ws.take i) = Am 1 (ws.take i):=rfl
 unfold Cb
 omega
theorem Qd (z:List Int × Int):(dS z).depth = 2:=by
 unfold dS
 rw [Qc,Wz]
 rfl
def jg (H:Hp) (v:V):Option (List Int × Int) -> Prop
 | none=>v = .aW
 | some r=>∃ b,v = .ref b /\ Ec H b r.1 r.2
def dt:Option (List Int × Int) -> PyData
 | none=>.none
 | some r=>dP (dT r.1) (.int r.2)
theorem ii {H:Hp} {v:V} {r:Option (List Int × Int)} (h:jg H v r):Rp H (dt r) v:=by
 cases r with
 | none =>
  cases h
  exact Y7
 | some r =>
  obtain ⟨b,rfl,t,h1,h2⟩ := h
  exact Uy h1 (cj h2) (Pb _)
theorem An.tail {α:Type} {P:α -> V -> Prop} {r:α} {v:V} {rs:List α} {vs:List V} (h:An P (r :: rs) (v :: vs)):P r v /\ An P rs vs:=⟨h.2 0 r v rfl rfl,by have:=h.1; simpa using this,fun i a b e1 e2=>h.2 (i + 1) a b e1 e2⟩
theorem L3 {α:Type} {P:α -> Prop} {xs:List α} {x:α} (h:∀ y ∈ xs,P y) (hx:P x):∀ y ∈ xs ++ [x],P y:=fun y hy=>by
 rcases List.mem_append.mp hy with z | z
 ·exact h y z
 ·cases List.mem_singleton.mp z
  exact hx
theorem Ec.up {H H':Hp} {b:Addr} {ls:List Int} {q:Int} (t:Ar H H') (h:Ec H b ls q):Ec H' b ls q:=by
 obtain ⟨u,h1,h2⟩ := h
 exact ⟨u,t _ _ h1,t _ _ h2⟩
theorem B8.up {H H':Hp} {a:Addr} {ws:List Int} {calm:Option Int} (s:Ar H H') (h:B8 H a ws calm):B8 H' a ws calm:=by
 obtain ⟨t,h1,h2⟩ := h
 exact ⟨t,s _ _ h1,s _ _ h2⟩
theorem jg.up {H H':Hp} {v:V} {r:Option (List Int × Int)} (s:Ar H H') (h:jg H v r):jg H' v r:=by
 cases r with
 | none=>exact h
 | some r =>
  obtain ⟨b,e,h⟩ := h
  exact ⟨b,e,h.up s⟩
def Dv (ws ls:List Int) (cm:Option Int) (q:Int) (who:Nat) (lost:Bool):Option (List Int × Int):=if (0:Int) ∈ Bb ws ls who lost then none else some (Bb ws ls who lost,Dc cm q lost)
def Kz (cm:Option Int) (q:Int):Bool := !decide (cm = none) && decide (q = 0)
def B7 (ws ls:List Int) (cm:Option Int) (q:Int) (who:Nat):List (Option (List Int × Int)):=Dv ws ls cm q who false :: if Kz cm q = true then [Dv ws ls cm q who true] else []
def Hn (H:Hp) (r:Option (List Int × Int)) (v:V):Prop:=jg H v r
theorem Hn.up {H H':Hp} {v:V} {r:Option (List Int × Int)} (s:Ar H H') (h:Hn H r v):Hn H' r v:=jg.up s h
theorem An.cons {α:Type} {P:α -> V -> Prop} {r:α} {v:V} {rs:List α} {vs:List V} (h:P r v) (g:An P rs vs):An P (r :: rs) (v :: vs):=(An.one h).append g
theorem No {H:Hp}:∀ {rs:List (Option (List Int × Int))} {us:List V},An (Hn H) rs us -> aN H (rs.map dt) us
 | [],[],_=>by unfold aN; rfl
 | [],_ :: _,h=>by have:=h.1; simp at this
 | _ :: _,[],h=>by have:=h.1; simp at this
 | r :: rs,u :: us,h=>by
  obtain ⟨h1,h2⟩ := h.tail
  show aN H (dt r :: rs.map dt) (u :: us)
  unfold aN
  exact ⟨_,_,rfl,ii h1,No h2⟩
theorem Zu (r:Option (List Int × Int)):PyData.eqv (dt r) .none = decide (r = none):=by cases r <;> rfl
theorem Oi:∀ rs:List (Option (List Int × Int)),(rs.map dt).any (fun e=>PyData.eqv e .none) = decide (none ∈ rs)
 | []=>rfl
 | r :: rs=>by
  rw [List.map_cons,List.any_cons,Oi rs,Zu,Bool.eq_iff_iff]
  simp only [Bool.or_eq_true,decide_eq_true_eq,List.mem_cons]
  exact ⟨fun z=>z.imp Eq.symm id,fun z=>z.imp Eq.symm id⟩
def SV (H:Hp) (v:V):Prop := ∃ b k,v = .ref b /\ E9 H b k
def U3 (H:Hp) (cs:List (Dh × V)):Prop := ∀ e ∈ cs,(∃ i:Int,e.1 = .inl i) /\ ∃ (l:Addr) (us:List V),e.2 = .ref l /\ H l = some (.lst us) /\ us.length <= 2 /\ ∀ u ∈ us,SV H u
def jk (H:Hp) (v:V):Prop := ∃ (c:Addr) (cs:List (Dh × V)),v = .ref c /\ H c = some (.dK cs) /\ cs.length <= 8 /\ U3 H cs
def LT (H H':Hp):Prop:=(∀ b xs,H b = some (.lst xs) -> H' b = some (.lst xs)) /\ Ar H H'
theorem LT.of {H H':Hp} (s:Aa H H'):LT H H':=⟨fun b xs e=>s b _ e,Ar.of s⟩
theorem LT.dT {H:Hp} {D:Addr} {kvs:List ((List Int × Int) × V)} {o:HO} (h:H D = some (.dT kvs)):LT H (upd H D o) :=
 ⟨fun b xs e=>by rw [Ac (Bw e h (by intro z; cases z))]; exact e,fun b xs e=>by rw [Ac (Bw e h (by intro z; cases z))]; exact e⟩
theorem LT.dK {H:Hp} {D:Addr} {kvs:List (Dh × V)} {o:HO} (h:H D = some (.dK kvs)):LT H (upd H D o) :=
 ⟨fun b xs e=>by rw [Ac (Bw e h (by intro z; cases z))]; exact e,fun b xs e=>by rw [Ac (Bw e h (by intro z; cases z))]; exact e⟩
theorem LT.trans {H H1 H2:Hp} (a:LT H H1) (b:LT H1 H2):LT H H2:=⟨fun c xs e=>b.1 c xs (a.1 c xs e),a.2.trans b.2⟩
def Hb (H:Hp) (kvs:List ((List Int × Int) × V)):Prop := ∀ kv ∈ kvs,jk H kv.2
theorem Rc {κ:Type} [DecidableEq κ] {P:V -> Prop} {kvs:List (κ × V)} {k:κ} {v:V} (h:∀ kv ∈ kvs,P kv.2) (hv:P v):∀ kv ∈ Bl kvs k v,P kv.2:=fun kv aS=>by
 unfold Bl at aS
 split at aS
 ·obtain ⟨x,hx,rfl⟩ := List.mem_map.mp aS
  split
  ·exact hv
  ·exact h x hx
 ·rcases List.mem_append.mp aS with z | z
  ·exact h kv z
  ·cases List.mem_singleton.mp z
   exact hv
theorem Bp {n:Nat} (h:n <= 200000):n < sizeLine:=Nat.lt_of_le_of_lt h (by decide)
theorem Bo {κ:Type} [DecidableEq κ] {kvs:List (κ × V)} {k:κ} {v:V} (h:Ad kvs k = some v):(k,v) ∈ kvs:=by
 unfold Ad at h
 obtain ⟨p,hp,rfl⟩ := Option.map_eq_some_iff.mp h
 have h1:=List.find?_some hp
 have h2:=List.mem_of_find?_eq_some hp
 have h3:p.1 = k:=by simpa using h1
 rw [<- h3]
 exact h2
theorem Jl {κ:Type} [DecidableEq κ] {kvs:List (κ × V)} {k:κ} {v:V} (h:(k,v) ∈ kvs):∃ w,Ad kvs k = some w:=by
 cases e:Ad kvs k with
 | some w=>exact ⟨w,rfl⟩
 | none=>exact absurd (List.mem_map_of_mem (f:=(·.1)) h) (Ik e)
def Ea (kvs:List ((List Int × Int) × V)) (H H':Hp):Prop := ∀ b o,H b = some o -> (∀ kv ∈ kvs,kv.2 ≠ .ref b) -> H' b = some o
theorem Ea.of {kvs:List ((List Int × Int) × V)} {H H':Hp} (s:Aa H H'):Ea kvs H H':=fun b o e _=>s b o e
theorem Ea.trans {kvs:List ((List Int × Int) × V)} {H H1 H2:Hp} (a:Ea kvs H H1) (b:Ea kvs H1 H2):Ea kvs H H2:=fun c o e n=>b c o (a c o e n) n
theorem Ea.new {kvs:List ((List Int × Int) × V)} {H H':Hp} {p:Addr} {o:HO} (a:Ea kvs H H') (h:H p = none):Ea kvs H (upd H' p o):=fun b u e n=>by
 rw [Ac (Ae e h)]
 exact a b u e n
theorem Ea.keep {kvs:List ((List Int × Int) × V)} {H H':Hp} {b:Addr} {o:HO} (a:Ea kvs H H') (p:Hb H kvs) (e:H b = some o) (n:∀ cs,o ≠ .dK cs):H' b = some o:=a b o e fun kv aS z=>by
 obtain ⟨c,cs,e1,e2,_⟩ := p kv aS
 rw [z] at e1
 cases e1
 rw [e] at e2
 exact n cs (Option.some.inj e2)
theorem Ea.lt {kvs:List ((List Int × Int) × V)} {H H':Hp} (a:Ea kvs H H') (p:Hb H kvs):LT H H':=⟨fun b xs e=>a.keep p e (fun cs z=>nomatch z),fun b xs e=>a.keep p e (fun cs z=>nomatch z)⟩
theorem Ea.pop {kvs:List ((List Int × Int) × V)} {H:Hp} {c:Addr} {o:HO} {kv:(List Int × Int) × V} (h:kv ∈ kvs) (e:kv.2 = .ref c):Ea kvs H (upd H c o):=fun b u eb n=>by
 rw [Ac (fun z=>n kv h (by rw [e,z]))]
 exact eb
def cq (H:Hp):V -> Nat
 | .ref c=>match H c with
  | some (.dK cs)=>cs.length
  | _=>0
 | _=>0
def Cl (H:Hp) (kvs:List ((List Int × Int) × V)):Nat:=(kvs.map fun kv=>cq H kv.2).sum
theorem Lz {H:Hp} {c:Addr} {cs:List (Dh × V)} (h:H c = some (.dK cs)):cq H (.ref c) = cs.length:=by
 unfold cq
 simp only [h]
theorem E4 {H H':Hp}:∀ {kvs:List ((List Int × Int) × V)},Hb H kvs -> (∀ c cs,H c = some (.dK cs) -> H' c = some (.dK cs)) -> Cl H' kvs = Cl H kvs
 | [],_,_=>rfl
 | kv :: kvs,p,k=>by
  obtain ⟨c,cs,e,h1,_⟩ := p kv (by simp)
  have ih:=E4 (kvs:=kvs) (fun x hx=>p x (List.mem_cons_of_mem _ hx)) k
  unfold Cl at ih ⊢
  rw [List.map_cons,List.map_cons,List.sum_cons,List.sum_cons,ih,e,Lz h1,Lz (k c cs h1)]
theorem Kv {H:Hp}:∀ {kvs:List ((List Int × Int) × V)},Hb H kvs -> Cl H kvs <= 8 * kvs.length
 | [],_=>Nat.zero_le _
 | kv :: kvs,p=>by
  obtain ⟨c,cs,e,h1,h2,_⟩ := p kv (by simp)
  have ih:=Kv (kvs:=kvs) (fun x hx=>p x (List.mem_cons_of_mem _ hx))
  unfold Cl at ih ⊢
  rw [List.map_cons,List.sum_cons,e,Lz h1,List.length_cons]
  omega
theorem Nb {H:Hp} {c:Addr} {cs iK:List (Dh × V)} (hc:H c = some (.dK cs)) (aZ:iK.length < cs.length):∀ {kvs:List ((List Int × Int) × V)},Cl (upd H c (.dK iK)) kvs <= Cl H kvs /\ ((∃ kv ∈ kvs,kv.2 = .ref c) -> Cl (upd H c (.dK iK)) kvs + 1 <= Cl H kvs)
 | []=>⟨Nat.le_refl _,fun ⟨kv,h,_⟩=>by cases h⟩
 | kv :: kvs=>by
  obtain ⟨i1,i2⟩ := Nb hc aZ (kvs:=kvs)
  have one:cq (upd H c (.dK iK)) kv.2 <= cq H kv.2 /\ (kv.2 = .ref c -> cq (upd H c (.dK iK)) kv.2 + 1 <= cq H kv.2):=by
   by_cases z:kv.2 = .ref c
   ·rw [z,Lz hc,Lz A5]
    omega
   ·refine ⟨Nat.le_of_eq ?_,fun y=>absurd y z⟩
    unfold cq
    cases hv:kv.2 with
    | ref d =>
     rw [hv] at z
     have hd:d ≠ c:=fun y=>z (by rw [y])
     simp only [Ac hd]
    | _=>rfl
  unfold Cl at i1 i2 ⊢
  rw [List.map_cons,List.map_cons,List.sum_cons,List.sum_cons]
  refine ⟨by omega,fun ⟨x,hx,ex⟩=>?_⟩
  rcases List.mem_cons.mp hx with y | y
  ·subst y
   have:=one.2 ex
   omega
  ·have:=i2 ⟨x,y,ex⟩
   omega
theorem Zo {cs:List (Dh × V)} {k:Dh} {v:V} (h:Ad cs k = some v):(Bu cs k).length < cs.length:=by
 have hm:=Bo h
 unfold Bu
 exact List.length_filter_lt_length_iff_exists.mpr ⟨(k,v),hm,by simp⟩
theorem Km {cs:List (Dh × V)} {k:Dh} {e:Dh × V} (h:e ∈ Bu cs k):e ∈ cs:=(List.mem_filter.mp h).1
def V6 (B:Addr) (H:Hp) (kvs:List ((List Int × Int) × V)):Prop := ∀ kv ∈ kvs,∀ c cs,kv.2 = .ref c -> H c = some (.dK cs) -> ∀ e ∈ cs,e.2 ≠ .ref B
theorem V6.start {B:Addr} {H:Hp} {kvs:List ((List Int × Int) × V)} (p:Hb H kvs) (h:H B = none):V6 B H kvs:=fun kv aS c cs e1 e2 e he z=>by
 obtain ⟨d,ds,f1,f2,_,f3⟩ := p kv aS
 rw [e1] at f1
 cases f1
 rw [e2] at f2
 cases f2
 obtain ⟨_,l,us,g1,g2,_⟩ := f3 e he
 rw [z] at g1
 cases g1
 rw [h] at g2
 cases g2
theorem V6.keep {B:Addr} {H H':Hp} {kvs:List ((List Int × Int) × V)} (n:V6 B H kvs) (p:Hb H kvs) (k:∀ c cs,H c = some (.dK cs) -> H' c = some (.dK cs)):V6 B H' kvs:=fun kv aS c cs e1 e2=>by
 obtain ⟨d,ds,f1,f2,_⟩ := p kv aS
 have FE:=f1
 rw [e1] at FE
 cases FE
 have:=k _ _ f2
 rw [e2] at this
 cases this
 exact n kv aS c cs e1 f2
theorem V6.pop {B c:Addr} {H:Hp} {cs:List (Dh × V)} {k:Dh} {kvs:List ((List Int × Int) × V)} (n:V6 B H kvs) (hc:H c = some (.dK cs)):V6 B (upd H c (.dK (Bu cs k))) kvs:=fun kv aS d ds e1 e2 e he=>by
 by_cases z:d = c
 ·subst z
  rw [A5] at e2
  cases e2
  exact n kv aS d cs e1 hc e (Km he)
 ·rw [Ac z] at e2
  exact n kv aS d ds e1 e2 e he
theorem P0 (k:List Int × Int):Hz (dS k) (dS k) = false:=by
 have e1:PyData.eqv (dT k.1) (dT k.1) = true:=by
  show PyData.eqvAll (k.1.map PyData.int) (k.1.map PyData.int) = true
  rw [Dj]
  simp
 show aQ [dT k.1,.int k.2] [dT k.1,.int k.2] = false
 rw [aQ,if_pos e1,aQ,if_pos (show PyData.eqv (.int k.2) (.int k.2) = true from PySem.SeqAt.eqv_refl _ rfl)]
 rfl
theorem Jj (ws:List Int) (q:Int):(Bk ws q).Nodup:=(Fk ws q).imp fun {a b} h e=>by
 rw [e,P0] at h
 cases h
theorem Nj {α:Type} {xs:List α} {i:Nat} {x:α} (h:xs.Nodup) (e:xs[i]? = some x):x ∉ xs.take i:=fun z=>by
 obtain ⟨j,hj⟩ := List.mem_iff_getElem?.mp z
 have aZ:j < i:=by
  apply Classical.byContradiction
  intro y
  rw [List.getElem?_take_eq_none (by omega)] at hj
  cases hj
 rw [List.getElem?_take_of_lt aZ] at hj
 have h1:=(List.getElem?_eq_some_iff.mp hj)
 have h2:=(List.getElem?_eq_some_iff.mp e)
 obtain ⟨a1,a2⟩ := h1
 obtain ⟨b1,b2⟩ := h2
 exact (List.pairwise_iff_getElem.mp h) j i a1 b1 aZ (a2.trans b2.symm)
theorem Cf {κ:Type} [DecidableEq κ] {kvs:List (κ × V)} {k:κ} {v:V} (hn:(kvs.map (·.1)).Nodup) (h:(k,v) ∈ kvs):Ad kvs k = some v:=by
 induction kvs with
 | nil=>cases h
 | cons p r ih =>
  rw [List.map_cons,List.nodup_cons] at hn
  rcases List.mem_cons.mp h with z | z
  ·subst z
   exact Ca rfl
  ·have hp:¬ p.1 = k:=fun e=>hn.1 (by rw [e]; exact List.mem_map_of_mem (f:=(·.1)) z)
   rw [C9 hp]
   exact ih hn.2 z
theorem Pu {κ:Type} {kvs:List (κ × V)} {x y:κ × V} (hn:(kvs.map (·.2)).Nodup) (hx:x ∈ kvs) (hy:y ∈ kvs) (e:x.2 = y.2):x = y:=by
 induction kvs with
 | nil=>cases hx
 | cons p r ih =>
  rw [List.map_cons,List.nodup_cons] at hn
  rcases List.mem_cons.mp hx with z | z <;> rcases List.mem_cons.mp hy with y' | y'
  ·rw [z,y']
  ·subst z
   exact absurd (by rw [e]; exact List.mem_map_of_mem (f:=(·.2)) y') hn.1
  ·subst y'
   exact absurd (by rw [<- e]; exact List.mem_map_of_mem (f:=(·.2)) z) hn.1
  ·exact ih hn.2 z y'
theorem Y5 {κ:Type} [DecidableEq κ] {kvs:List (κ × V)} {k:κ} {v:V} {e:κ × V} (h:e ∈ Bl kvs k v):e ∈ kvs \/ e = (k,v):=by
 unfold Bl at h
 split at h
 ·obtain ⟨x,hx,rfl⟩ := List.mem_map.mp h
  split
  ·rename_i hk
   exact .inr (by rw [hk])
  ·exact .inl hx
 ·rcases List.mem_append.mp h with z | z
  ·exact .inl z
  ·exact .inr (List.mem_singleton.mp z)
theorem Sc {κ:Type} [DecidableEq κ] {kvs:List (κ × V)} {k j:κ} {v:V} (h:(Ad kvs j).isSome = true \/ j = k):(Ad (Bl kvs k v) j).isSome = true:=by
 rw [E8]
 split
 ·rfl
 ·rename_i hn
  rcases h with h | h
  ·exact h
  ·exact absurd h hn
def Fu (ws:List Int) (cm:Option Int) (z:List Int × Int) (H:Hp) (cs:List (Dh × V)):Prop := ∀ e ∈ cs,∃ (who:Nat) (l:Addr) (us:List V),e.1 = .inl (who:Int) /\ who < ws.length /\ none ∉ B7 ws z.1 cm z.2 who /\ e.2 = .ref l /\ H l = some (.lst us) /\ An (Hn H) (B7 ws z.1 cm z.2 who) us
def U2 (ws:List Int) (cm:Option Int) (H:Hp) (z:List Int × Int) (v:V):Prop := ∃ (c:Addr) (cs:List (Dh × V)),v = .ref c /\ H c = some (.dK cs) /\ cs.length <= 8 /\ Fu ws cm z H cs
theorem Fu.up {ws:List Int} {cm:Option Int} {z:List Int × Int} {H H':Hp} {cs:List (Dh × V)} (t:LT H H') (h:Fu ws cm z H cs):Fu ws cm z H' cs:=fun e he=>by
 obtain ⟨who,l,us,h1,h2,h3,h4,h5,h6⟩ := h e he
 exact ⟨who,l,us,h1,h2,h3,h4,t.1 _ _ h5,h6.imp fun _ _ y=>Hn.up t.2 y⟩
theorem Fu.ok {ws:List Int} {cm:Option Int} {z:List Int × Int} {H:Hp} {cs:List (Dh × V)} (h:Fu ws cm z H cs):U3 H cs:=fun e he=>by
 obtain ⟨who,l,us,h1,h2,h3,h4,h5,h6⟩ := h e he
 refine ⟨⟨_,h1⟩,l,us,h4,h5,?_,fun u hu=>?_⟩
 ·rw [h6.1]
  unfold B7
  split <;> simp
 ·obtain ⟨m,hm⟩ := List.mem_iff_getElem?.mp hu
  obtain ⟨r,qX,hr2⟩ := h6.get hm
  cases r with
  | none=>exact absurd (List.mem_of_getElem? qX) h3
  | some r =>
   obtain ⟨bb,e,h1⟩ := hr2
   exact ⟨bb,r,e,h1⟩
theorem U2.up {ws:List Int} {cm:Option Int} {z:List Int × Int} {H H':Hp} {v:V} (t:LT H H') (k:∀ c cs,H c = some (.dK cs) -> H' c = some (.dK cs)) (h:U2 ws cm H z v):U2 ws cm H' z v:=by
 obtain ⟨c,cs,e,h1,h2,h3⟩ := h
 exact ⟨c,cs,e,k _ _ h1,h2,h3.up t⟩
def Cp (ws:List Int) (cm:Option Int) (H:Hp) (kvs:List ((List Int × Int) × V)):Prop:=(∀ kv ∈ kvs,U2 ws cm H kv.1 kv.2) /\ (kvs.map (·.1)).Nodup /\ (kvs.map (·.2)).Nodup
theorem Cp.ok {ws:List Int} {cm:Option Int} {H:Hp} {kvs:List ((List Int × Int) × V)} (h:Cp ws cm H kvs):Hb H kvs:=fun kv aS=>by
 obtain ⟨c,cs,e,h1,h2,h3⟩ := h.1 kv aS
 exact ⟨c,cs,e,h1,h2,h3.ok⟩
theorem Cp.keep {ws:List Int} {cm:Option Int} {H H':Hp} {kvs:List ((List Int × Int) × V)} (p:Cp ws cm H kvs) (t:LT H H') (k:∀ c cs,H c = some (.dK cs) -> H' c = some (.dK cs)):Cp ws cm H' kvs:=⟨fun kv aS=>(p.1 kv aS).up t k,p.2⟩
def Kb (ws:List Int) (cm:Option Int) (H:Hp) (kvs:List ((List Int × Int) × V)):Prop := ∀ kv ∈ kvs,∀ c cs,kv.2 = .ref c -> H c = some (.dK cs) -> ∀ who:Nat,who < ws.length -> none ∉ B7 ws kv.1.1 cm kv.1.2 who -> (Ad cs (.inl (who:Int))).isSome = true
theorem Kb.keep {ws:List Int} {cm:Option Int} {H H':Hp} {kvs:List ((List Int × Int) × V)} (f:Kb ws cm H kvs) (p:Cp ws cm H kvs) (k:∀ c cs,H c = some (.dK cs) -> H' c = some (.dK cs)):Kb ws cm H' kvs:=fun kv aS c cs e1 e2=>by
 obtain ⟨d,ds,f1,f2,_⟩ := p.1 kv aS
 have FE:=f1
 rw [e1] at FE
 cases FE
 have:=k _ _ f2
 rw [e2] at this
 cases this
 exact f kv aS c cs e1 f2
def Ap (H:Hp) (kvs:List ((List Int × Int) × V)) (k:List Int × Int) (who:Nat):Prop := ∃ (c:Addr) (cs:List (Dh × V)),Ad kvs k = some (.ref c) /\ H c = some (.dK cs) /\ (Ad cs (.inl (who:Int))).isSome = true
theorem Eg {α:Type} {xs:List α} {x:α} (h:xs.Nodup) (hx:x ∉ xs):(xs ++ [x]).Nodup:=by
 rw [List.nodup_append]
 refine ⟨h,by simp,fun a ha b hb e=>?_⟩
 rw [List.mem_singleton.mp hb] at e
 exact hx (e ▸ ha)
def Og (ws:List Int) (cm:Option Int) (kvs:List ((List Int × Int) × V)) (H:Hp) (later:List Int × Int) (u:V):Prop := ∃ (t b:Addr) (who:Nat) (k:List Int × Int),u = .ref t /\ H t = some (.tup [.ref b,.int (who:Int)]) /\ E9 H b k /\ (∃ v,Ad kvs k = some v) /\ some later ∈ B7 ws k.1 cm k.2 who
theorem Og.up {ws:List Int} {cm:Option Int} {kvs:List ((List Int × Int) × V)} {H H':Hp} {later:List Int × Int} {u:V} (t:Ar H H') (h:Og ws cm kvs H later u):Og ws cm kvs H' later u:=by
 obtain ⟨a,b,i,k,e,h1,h2,h3,h4⟩ := h
 exact ⟨a,b,i,k,e,t _ _ h1,h2.up t,h3,h4⟩
def Et (ws:List Int) (cm:Option Int) (H0:Hp) (kvs:List ((List Int × Int) × V)) (n:Nat) (H:Hp) (wv:List ((List Int × Int) × V)):Prop:=(∀ kv ∈ wv,∃ (l:Addr) (us:List V),kv.2 = .ref l /\ H0 l = none /\ H l = some (.lst us) /\ us.length <= n /\ ∀ u ∈ us,Og ws cm kvs H kv.1 u) /\ (wv.map (·.2)).Nodup
theorem Et.up {ws:List Int} {cm:Option Int} {H0 H H':Hp} {kvs wv:List ((List Int × Int) × V)} {n m:Nat} (t:LT H H') (hn:n <= m) (h:Et ws cm H0 kvs n H wv):Et ws cm H0 kvs m H' wv:=⟨fun kv aS=>by
 obtain ⟨l,us,e,h0,h1,h2,h3⟩ := h.1 kv aS
 exact ⟨l,us,e,h0,t.1 _ _ h1,by omega,fun u hu=>(h3 u hu).up t.2⟩,h.2⟩
theorem Et.app {ws:List Int} {cm:Option Int} {H0 H:Hp} {kvs wv:List ((List Int × Int) × V)} {n:Nat} {l:Addr} {us:List V} {x:V} {later:List Int × Int} (h:Et ws cm H0 kvs n H wv) (hm:(later,V.ref l) ∈ wv) (hl:H l = some (.lst us)) (hu:us.length <= n) (ha:∀ u ∈ us,Og ws cm kvs H later u) (hx:Og ws cm kvs H later x):Et ws cm H0 kvs (n + 1) (upd H l (.lst (us ++ [x]))) wv:=⟨fun kv aS=>by
 have t:Ar H (upd H l (.lst (us ++ [x]))):=Ar.lst hl
 obtain ⟨l2,gS,e,h0,h1,h2,h3⟩ := h.1 kv aS
 by_cases z:l2 = l
 ·subst z
  have ek:kv = (later,V.ref l2):=Pu h.2 aS hm e
  refine ⟨l2,us ++ [x],e,h0,A5,by rw [List.length_append,List.length_singleton]; omega,fun u hu=>?_⟩
  rw [ek]
  exact (L3 ha hx u hu).up t
 ·exact ⟨l2,gS,e,h0,(Ac z).trans h1,by omega,fun u hu=>(h3 u hu).up t⟩,h.2⟩
def Cq (H:Hp) (wv:List ((List Int × Int) × V)) (later k:List Int × Int) (who:Nat):Prop := ∃ (l:Addr) (us:List V) (t b:Addr),Ad wv later = some (.ref l) /\ H l = some (.lst us) /\ V.ref t ∈ us /\ H t = some (.tup [.ref b,.int (who:Int)]) /\ E9 H b k
theorem Cq.up {H H':Hp} {wv:List ((List Int × Int) × V)} {later k:List Int × Int} {who:Nat} (t:LT H H') (h:Cq H wv later k who):Cq H' wv later k who:=by
 obtain ⟨l,us,a,b,h1,h2,h3,h4,h5⟩ := h
 exact ⟨l,us,a,b,h1,t.1 _ _ h2,h3,t.2 _ _ h4,h5.up t.2⟩
theorem Cq.put {H:Hp} {wv:List ((List Int × Int) × V)} {later k lk:List Int × Int} {who:Nat} {v:V} (hn:Ad wv lk = none) (h:Cq H wv later k who):Cq H (Bl wv lk v) later k who:=by
 obtain ⟨l,us,a,b,h1,h2⟩ := h
 refine ⟨l,us,a,b,?_,h2⟩
 rw [E8,if_neg (fun e=>by rw [e,hn] at h1; cases h1)]
 exact h1
theorem Cq.app {H:Hp} {wv:List ((List Int × Int) × V)} {later k:List Int × Int} {who:Nat} {l:Addr} {us:List V} {x:V} (hl:H l = some (.lst us)) (h:Cq H wv later k who):Cq (upd H l (.lst (us ++ [x]))) wv later k who:=by
 have t:Ar H (upd H l (.lst (us ++ [x]))):=Ar.lst hl
 obtain ⟨l2,gS,a,b,h1,h2,h3,h4,h5⟩ := h
 by_cases z:l2 = l
 ·subst z
  rw [hl] at h2
  cases h2
  exact ⟨l2,_,a,b,h1,A5,List.mem_append_left _ h3,t _ _ h4,h5.up t⟩
 ·exact ⟨l2,gS,a,b,h1,(Ac z).trans h2,h3,t _ _ h4,h5.up t⟩
theorem Qm {cs:List (Dh × V)} {k j:Dh}:Ad (Bu cs k) j = if j = k then none else Ad cs j:=by
 induction cs with
 | nil=>split <;> rfl
 | cons p r ih =>
  by_cases e:p.1 = k
  ·rw [Vk e,ih]
   by_cases z:j = k
   ·rw [if_pos z,if_pos z]
   ·rw [if_neg z,if_neg z,C9 (fun y=>z (by rw [<- y,e]))]
  ·have ed : Bu (p :: r) k = p :: Bu r k := by
    unfold Bu
    rw [List.filter_cons,if_pos (by simpa using e)]
   rw [ed]
   by_cases z:p.1 = j
   ·rw [Ca z,Ca z,if_neg (fun y=>e (z.trans y))]
   ·rw [C9 z,C9 z,ih]
theorem Ap.keep {ws:List Int} {cm:Option Int} {H H':Hp} {kvs:List ((List Int × Int) × V)} {k:List Int × Int} {who:Nat} (p:Cp ws cm H kvs) (kk:∀ c cs,H c = some (.dK cs) -> H' c = some (.dK cs)):Ap H' kvs k who ↔ Ap H kvs k who:=by
 constructor
 ·rintro ⟨c,cs,h1,h2,h3⟩
  obtain ⟨d,ds,e,f1,_⟩ := p.1 _ (Bo h1)
  cases e
  have:=kk _ _ f1
  rw [h2] at this
  cases this
  exact ⟨c,cs,h1,f1,h3⟩
 ·rintro ⟨c,cs,h1,h2,h3⟩
  exact ⟨c,cs,h1,kk _ _ h2,h3⟩
theorem Ap.pop {ws : List Int} {cm : Option Int} {H : Hp} {kvs : List ((List Int × Int) × V)} {k k' : List Int × Int} {who aR : Nat} {c : Addr} {cs : List (Dh × V)} (p : Cp ws cm H kvs) (hk : Ad kvs k = some (.ref c)) (hc : H c = some (.dK cs)) :
  Ap (upd H c (.dK (Bu cs (.inl (who:Int))))) kvs k' aR ↔ Ap H kvs k' aR /\ ¬ (k' = k /\ aR = who):=by
 constructor
 ·rintro ⟨d,ds,h1,h2,h3⟩
  by_cases z:d = c
  ·subst z
   rw [A5] at h2
   cases h2
   have ek:(k',V.ref d) = (k,V.ref d):=Pu p.2.2 (Bo h1) (Bo hk) rfl
   cases ek
   rw [Qm] at h3
   by_cases y:(Sum.inl (aR:Int):Dh) = .inl (who:Int)
   ·rw [if_pos y] at h3
    cases h3
   ·rw [if_neg y] at h3
    exact ⟨⟨d,cs,h1,hc,h3⟩,fun w=>y (by rw [w.2])⟩
  ·rw [Ac z] at h2
   refine ⟨⟨d,ds,h1,h2,h3⟩,fun w=>z ?_⟩
   rw [w.1,hk] at h1
   cases h1
   rfl
 ·rintro ⟨⟨d,ds,h1,h2,h3⟩,hn⟩
  by_cases z:d = c
  ·subst z
   have ek:(k',V.ref d) = (k,V.ref d):=Pu p.2.2 (Bo h1) (Bo hk) rfl
   cases ek
   rw [hc] at h2
   cases h2
   refine ⟨d,_,h1,A5,?_⟩
   rw [Qm,if_neg]
   ·exact h3
   ·intro y
    have y2:(aR:Int) = (who:Int):=Sum.inl.inj y
    exact hn ⟨rfl,by omega⟩
  ·exact ⟨d,ds,h1,(Ac z).trans h2,h3⟩
theorem Cp.pop {ws:List Int} {cm:Option Int} {H:Hp} {c:Addr} {cs:List (Dh × V)} {k:Dh} {kvs:List ((List Int × Int) × V)} (p:Cp ws cm H kvs) (hc:H c = some (.dK cs)):Cp ws cm (upd H c (.dK (Bu cs k))) kvs:=⟨fun kv aS=>by
 obtain ⟨d,ds,e,h1,h2,h3⟩ := p.1 kv aS
 have t:LT H (upd H c (.dK (Bu cs k))):=LT.dK hc
 by_cases z:d = c
 ·subst z
  rw [hc] at h1
  cases h1
  exact ⟨d,Bu cs k,e,A5,Nat.le_trans (Ql cs k) h2,fun x hx=>(h3.up t) x (Km hx)⟩
 ·exact ⟨d,ds,e,(Ac z).trans h1,h2,h3.up t⟩,p.2⟩
theorem Cp.FF {ws:List Int} {cm:Option Int} {B:Addr} {H H':Hp} {kvs:List ((List Int × Int) × V)} (p:Cp ws cm H kvs) (n:V6 B H kvs) (t:Ar H H') (kl:∀ l us,l ≠ B -> H l = some (.lst us) -> H' l = some (.lst us)) (k:∀ c cs,H c = some (.dK cs) -> H' c = some (.dK cs)):Cp ws cm H' kvs:=⟨fun kv aS=>by
 obtain ⟨c,cs,e1,e2,e3,e4⟩ := p.1 kv aS
 refine ⟨c,cs,e1,k _ _ e2,e3,fun e he=>?_⟩
 obtain ⟨who,l,us,g1,g2,g3,g4,g5,g6⟩ := e4 e he
 exact ⟨who,l,us,g1,g2,g3,g4,kl _ _ (fun z=>n kv aS c cs e1 e2 e he (by rw [g4,z])) g5,g6.imp fun _ _ y=>Hn.up t y⟩,p.2⟩
theorem Jf:∀ {xs ys:List Int},xs.map V.int = ys.map V.int -> xs = ys
 | [],[],_=>rfl
 | [],_ :: _,h=>by cases h
 | _ :: _,[],h=>by cases h
 | x :: xs,y :: ys,h=>by
  rw [List.map_cons,List.map_cons] at h
  injection h with h1 h2
  injection h1 with h1
  rw [h1,Jf h2]
def Q4 (ws:List Int) (cm:Option Int) (tv:List ((List Int × Int) × V)) (k:List Int × Int) (m:Int):Prop :=
 (∀ who,who < ws.length -> none ∈ B7 ws k.1 cm k.2 who \/ ∃ later m',some later ∈ B7 ws k.1 cm k.2 who /\ Ad tv later = some (.int m') /\ m' <= m - 1) /\
 (m = 1 \/ ∃ who,who < ws.length /\ none ∉ B7 ws k.1 cm k.2 who /\ ∀ later m',some later ∈ B7 ws k.1 cm k.2 who -> Ad tv later = some (.int m') -> m - 1 <= m')
def C0 (ws:List Int) (cm:Option Int) (tv:List ((List Int × Int) × V)):Prop :=
 (∀ k v,Ad tv k = some v -> ∃ m:Int,v = .int m /\ 1 <= m /\ k ∈ Bk ws (qv cm) /\ Q4 ws cm tv k m) /\
 (∀ k,k ∈ Bk ws (qv cm) -> Ad tv k = none -> ∃ who,who < ws.length /\ none ∉ B7 ws k.1 cm k.2 who /\ ∀ later,some later ∈ B7 ws k.1 cm k.2 who -> Ad tv later = none)
def Fl (ws:List Int) (cm:Option Int) (tv:List ((List Int × Int) × V)) (bK:List (List Int × Int)) (r:Int) (Lf:(List Int × Int) -> Nat -> Prop):Prop :=
 1 <= r /\ (∀ kv ∈ tv,∃ n:Int,kv.2 = .int n /\ 1 <= n /\ n < r) /\ (∀ k ∈ bK,k ∈ Bk ws (qv cm) /\ Ad tv k = none) /\ (∀ k v,Ad tv k = some v -> k ∈ Bk ws (qv cm)) /\
 (∀ k who,Lf k who ↔ (k ∈ Bk ws (qv cm) /\ who < ws.length /\ none ∉ B7 ws k.1 cm k.2 who /\ ∀ later,some later ∈ B7 ws k.1 cm k.2 who -> Ad tv later = none)) /\
 (∀ k,k ∈ Bk ws (qv cm) -> ((∀ who,¬ Lf k who) ↔ (k ∈ bK \/ (Ad tv k).isSome = true))) /\
 (∀ k m,Ad tv k = some (.int m) -> Q4 ws cm tv k m) /\ ∀ k ∈ bK,Q4 ws cm tv k r
theorem Fl.done {ws:List Int} {cm:Option Int} {tv:List ((List Int × Int) × V)} {r:Int} {Lf:(List Int × Int) -> Nat -> Prop} (h:Fl ws cm tv [] r Lf):C0 ws cm tv:=by
 obtain ⟨h0,hv,bU,bZ,hb,hc,QD,hd2⟩ := h
 refine ⟨fun k v e=>?_,fun k hk e=>?_⟩
 ·obtain ⟨n,e1,e2,_⟩ := hv _ (Bo e)
  have kR:v = .int n:=e1
  subst kR
  exact ⟨n,rfl,e2,bZ k _ e,QD k n e⟩
 ·have hn : ¬ ∀ who, ¬ Lf k who := fun z => by
   rcases (hc k hk).mp z with y | y
   ·cases y
   ·rw [e] at y
    cases y
  obtain ⟨who,hw⟩ := Classical.not_forall.mp hn
  obtain ⟨g1,g2,g3,g4⟩ := (hb k who).mp (Classical.not_not.mp hw)
  exact ⟨who,g2,g3,g4⟩
theorem Fl.step {ws : List Int} {cm : Option Int} {tv bQ : List ((List Int × Int) × V)} {bK beta : List (List Int × Int)} {r : Int} {Lf MK : (List Int × Int) -> Nat -> Prop} (h : Fl ws cm tv bK r Lf)
  (ht:∀ k,Ad bQ k = if k ∈ bK then some (.int r) else Ad tv k) (uo:∀ kv ∈ bQ,∃ n:Int,kv.2 = .int n /\ 1 <= n /\ n < r + 1)
  (hl:∀ k who,MK k who ↔ (Lf k who /\ ∀ later ∈ bK,some later ∉ B7 ws k.1 cm k.2 who)) (ML:∀ k,k ∈ beta ↔ ((∃ who,Lf k who) /\ ∀ who,¬ MK k who)):Fl ws cm bQ beta (r + 1) MK:=by
 obtain ⟨h0,hv,bU,bZ,hb,hc,QD,hd2⟩ := h
 have kW:∀ k,Ad bQ k = none ↔ (k ∉ bK /\ Ad tv k = none):=fun k=>by
  rw [ht]
  by_cases z:k ∈ bK
  ·rw [if_pos z]
   exact ⟨fun y=>(nomatch y),fun y=>absurd z y.1⟩
  ·rw [if_neg z]
   exact ⟨fun y=>⟨z,y⟩,fun y=>y.2⟩
 have old:∀ later m',Ad tv later = some (.int m') -> Ad bQ later = some (.int m'):=fun later m' e=>by
  rw [ht,if_neg (fun z=>by rw [(bU later z).2] at e; cases e)]
  exact e
 have back:∀ later m',Ad bQ later = some (.int m') -> (later ∈ bK /\ m' = r) \/ Ad tv later = some (.int m'):=fun later m' e=>by
  rw [ht] at e
  by_cases z:later ∈ bK
  ·rw [if_pos z] at e
   cases e
   exact .inl ⟨z,rfl⟩
  ·rw [if_neg z] at e
   exact .inr e
 have more:∀ k m,m <= r -> Q4 ws cm tv k m -> Q4 ws cm bQ k m:=fun k m hm ⟨p1,p2⟩=>by
  refine ⟨fun who hw=>?_,?_⟩
  ·rcases p1 who hw with y | ⟨later,m',y1,y2,y3⟩
   ·exact .inl y
   ·exact .inr ⟨later,m',y1,old _ _ y2,y3⟩
  ·rcases p2 with y | ⟨who,y1,y2,y3⟩
   ·exact .inl y
   ·refine .inr ⟨who,y1,y2,fun later m' z1 z2=>?_⟩
    rcases back later m' z2 with ⟨_,e⟩ | e
    ·omega
    ·exact y3 later m' z1 e
 have gP:∀ k who,MK k who ↔ (k ∈ Bk ws (qv cm) /\ who < ws.length /\ none ∉ B7 ws k.1 cm k.2 who /\ ∀ later,some later ∈ B7 ws k.1 cm k.2 who -> Ad bQ later = none):=fun k who=>by
  rw [hl,hb]
  constructor
  ·rintro ⟨⟨g1,g2,g3,g4⟩,g5⟩
   exact ⟨g1,g2,g3,fun later z=>(kW later).mpr ⟨fun y=>g5 later y z,g4 later z⟩⟩
  ·rintro ⟨g1,g2,g3,g4⟩
   exact ⟨⟨g1,g2,g3,fun later z=>((kW later).mp (g4 later z)).2⟩,fun later y z=>((kW later).mp (g4 later z)).1 y⟩
 refine ⟨by omega,uo,fun k hk=>?_,fun k v e=>?_,gP,fun k hk=>?_,fun k m e=>?_,fun k hk=>?_⟩
 ·obtain ⟨⟨who,hw⟩,hn⟩ := (ML k).mp hk
  have hs:=((hb k who).mp hw).1
  refine ⟨hs,(kW k).mpr ⟨fun z=>?_,?_⟩⟩
  ·exact (hc k hs).mpr (.inl z) who hw
  ·cases hvk:Ad tv k with
   | none=>rfl
   | some v=>exact absurd hw ((hc k hs).mpr (.inr (by rw [hvk]; rfl)) who)
 ·rw [ht] at e
  by_cases z:k ∈ bK
  ·exact (bU k z).1
  ·rw [if_neg z] at e
   exact bZ k v e
 ·constructor
  ·intro z
   by_cases y:∃ who,Lf k who
   ·exact .inl ((ML k).mpr ⟨y,z⟩)
   ·right
    rcases (hc k hk).mp (fun who w=>y ⟨who,w⟩) with x | x
    ·rw [ht,if_pos x]
     rfl
    ·obtain ⟨v,FG⟩ := Option.isSome_iff_exists.mp x
     obtain ⟨n,e1,_⟩ := hv _ (Bo FG)
     have kR:v = .int n:=e1
     rw [kR] at FG
     rw [old k n FG]
     rfl
  ·rintro (z | z) who w
   ·exact ((ML k).mp z).2 who w
   ·have w1:=((hl k who).mp w).1
    rw [ht] at z
    by_cases y:k ∈ bK
    ·exact (hc k hk).mpr (.inl y) who w1
    ·rw [if_neg y] at z
     exact (hc k hk).mpr (.inr z) who w1
 ·rcases back k m e with ⟨y1,y2⟩ | y
  ·subst y2
   exact more k m (Int.le_refl _) (hd2 k y1)
  ·obtain ⟨n,e1,e2,e3⟩ := hv _ (Bo y)
   cases e1
   exact more k m (by omega) (QD k m y)
 ·obtain ⟨⟨FH,MM⟩,hn⟩ := (ML k).mp hk
  obtain ⟨g1,g2,g3,g4⟩ := (hb k FH).mp MM
  refine ⟨fun who hw=>?_,.inr ⟨FH,g2,g3,fun later m' z1 z2=>?_⟩⟩
  ·by_cases y:none ∈ B7 ws k.1 cm k.2 who
   ·exact .inl y
   ·right
    have hnn:¬ ∀ later,some later ∈ B7 ws k.1 cm k.2 who -> Ad bQ later = none:=fun z=>hn who ((gP k who).mpr ⟨g1,hw,y,z⟩)
    obtain ⟨later,hx⟩ := Classical.not_forall.mp hnn
    obtain ⟨x1,x2⟩ := Classical.not_imp.mp hx
    cases QE:Ad bQ later with
    | none=>exact absurd QE x2
    | some v =>
     obtain ⟨n,e1,e2,e3⟩ := uo _ (Bo QE)
     have kR:v = .int n:=e1
     exact ⟨later,n,x1,by rw [QE,kR],by omega⟩
  ·rcases back later m' z2 with ⟨_,e⟩ | e
   ·omega
   ·rw [g4 later z1] at e
    cases e
theorem fk {κ:Type} [DecidableEq κ] {kvs:List (κ × V)} {k:κ} {v:V} (hn:(kvs.map (·.1)).Nodup):((Bl kvs k v).map (·.1)).Nodup:=by
 cases e:Ad kvs k with
 | none =>
  rw [Dp v e,List.map_append]
  exact Eg hn (Ik e)
 | some w =>
  have hk:(kvs.any fun kv=>decide (kv.1 = k)) = true:=by
   rw [Dq,e]
   rfl
  unfold Bl
  rw [if_pos hk,List.map_map]
  have:(kvs.map ((fun x=>x.1) ∘ fun kv=>if kv.1 = k then (kv.1,v) else kv)) = kvs.map (·.1):=by
   apply List.map_congr_left
   intro x _
   show (if x.1 = k then (x.1,v) else x).1 = x.1
   split <;> rfl
  rw [this]
  exact hn
def Wp (H:Hp) (v:V):Prop := ∃ c,v = .ref c /\ H c = some (.dK [])
theorem Fl.start {ws:List Int} {cm:Option Int} {H:Hp} {kvs:List ((List Int × Int) × V)} {bK:List (List Int × Int)} (hp:Cp ws cm H kvs) (hk:kvs.map (·.1) = Bk ws (qv cm)) (hf:Kb ws cm H kvs) (hr:∀ k,k ∈ bK ↔ ∃ v,(k,v) ∈ kvs /\ Wp H v):Fl ws cm [] bK 1 (Ap H kvs):=by
 have mem:∀ k,k ∈ Bk ws (qv cm) ↔ ∃ v,(k,v) ∈ kvs:=fun k=>by
  rw [<- hk,List.mem_map]
  exact ⟨fun ⟨x,h1,h2⟩=>⟨x.2,by rw [<- h2]; exact h1⟩,fun ⟨v,h1⟩=>⟨_,h1,rfl⟩⟩
 have hb:∀ k who,Ap H kvs k who ↔ (k ∈ Bk ws (qv cm) /\ who < ws.length /\ none ∉ B7 ws k.1 cm k.2 who):=fun k who=>by
  constructor
  ·rintro ⟨c,cs,h1,h2,h3⟩
   have hm:=Bo h1
   obtain ⟨d,ds,e,f1,_,f2⟩ := hp.1 _ hm
   cases e
   rw [h2] at f1
   cases f1
   obtain ⟨w',QF⟩ := Option.isSome_iff_exists.mp h3
   obtain ⟨nM,l,us,g1,g2,g3,_⟩ := f2 _ (Bo QF)
   have g1':(who:Int) = (nM:Int):=Sum.inl.inj g1
   have:who = nM:=by omega
   subst this
   exact ⟨(mem k).mpr ⟨_,hm⟩,g2,g3⟩
  ·rintro ⟨h1,h2,h3⟩
   obtain ⟨v,hm⟩ := (mem k).mp h1
   obtain ⟨c,cs,e,f1,_,f2⟩ := hp.1 _ hm
   have e':v = .ref c:=e
   subst e'
   exact ⟨c,cs,Cf hp.2.1 hm,f1,hf _ hm c cs rfl f1 who h2 h3⟩
 have hc:∀ k,k ∈ Bk ws (qv cm) -> ((∀ who,¬ Ap H kvs k who) ↔ k ∈ bK):=fun k gB=>by
  obtain ⟨v,hm⟩ := (mem k).mp gB
  obtain ⟨c,cs,e,f1,_,f2⟩ := hp.1 _ hm
  have e':v = .ref c:=e
  subst e'
  rw [hr]
  constructor
  ·intro z
   refine ⟨_,hm,c,rfl,?_⟩
   cases cs with
   | nil=>exact f1
   | cons x xs =>
    obtain ⟨who,l,us,g1,_⟩ := f2 x (by simp)
    exact absurd ⟨c,_,Cf hp.2.1 hm,f1,by rw [Ca g1]; rfl⟩ (z who)
  ·rintro ⟨v',kT,c',e1,e2⟩ who ⟨c2,cs2,g1,g2,g3⟩
   have h1:=Cf hp.2.1 hm
   rw [Cf hp.2.1 kT,e1] at h1
   cases h1
   rw [Cf hp.2.1 hm] at g1
   cases g1
   rw [e2] at g2
   cases g2
   cases g3
 refine ⟨Int.le_refl _,(fun kv z=>by cases z),fun k cR=>?_,(fun k v z=>by cases z),fun k who=>?_,fun k gB=>?_,(fun k m z=>by cases z),fun k cR=>?_⟩
 ·obtain ⟨v,hm,_⟩ := (hr k).mp cR
  exact ⟨(mem k).mpr ⟨v,hm⟩,rfl⟩
 ·rw [hb]
  exact ⟨fun z=>⟨z.1,z.2.1,z.2.2,fun _ _=>rfl⟩,fun z=>⟨z.1,z.2.1,z.2.2.1⟩⟩
 ·rw [hc k gB]
  exact ⟨fun z=>.inl z,fun z=>z.elim id (fun y=>by cases y)⟩
 ·obtain ⟨v,hm,_⟩ := (hr k).mp cR
  have gB:=(mem k).mpr ⟨v,hm⟩
  refine ⟨fun who hw=>?_,.inl rfl⟩
  left
  apply Classical.byContradiction
  intro y
  exact (hc k gB).mpr cR who ((hb k who).mpr ⟨gB,hw,y⟩)
theorem Qz (ws:List Int) (w:Int):ws.map V.int ++ [V.int w] = (ws ++ [w]).map V.int:=by rw [List.map_append]; rfl
theorem Qr {α:Type} {ls:List α} {x:α} {i:Nat} (h:ls.length = i):(ls ++ [x]).length = i + 1:=by
 rw [List.length_append,h]
 rfl
theorem Xc {ls:List Int} {j:Nat} (h:j < ls.length):ls[j]? = some (ls.getD j 0):=by
 rw [List.getD_eq_getElem?_getD,List.getElem?_eq_getElem h]
 rfl
theorem Vn {ls:List Int} {j:Nat} (h:j < ls.length):ls.getD j 0 ∈ ls:=List.mem_of_getElem? (Xc h)
theorem Fv {w:Int} (h1:0 <= w) (h2:w <= 3000):intBits w <= 256:=Nat.le_trans (U8 (n:=12) (by omega)) (by decide)
theorem Ke {xs:List Int} {k:Nat} {i:Int} (h:k < xs.length) (e:i = (k:Int)):Q8 (xs.map V.int) i = some (.int (xs.getD k 0)):=by
 rw [e]
 exact Uo h
theorem Vx {ws ls:List Int} {who i:Nat} {lost:Bool} (hi:i < ls.length):(Bb ws ls who lost)[i]? = some (if i = who /\ lost = false then ws.getD who 0 else ls.getD i 0 - 1):=by
 have e:(ls.map fun x=>x - 1)[i]? = some (ls.getD i 0 - 1):=by
  rw [List.getElem?_map,List.getElem?_eq_getElem hi,List.getD_eq_getElem?_getD,List.getElem?_eq_getElem hi]
  rfl
 unfold Bb
 cases lost with
 | true =>
  rw [if_pos rfl,if_neg (fun z=>nomatch z.2)]
  exact e
 | false =>
  rw [if_neg Bool.false_ne_true,List.getElem?_set]
  by_cases z:i = who
  ·subst z
   rw [if_pos rfl,if_pos (by rw [List.length_map]; exact hi),if_pos ⟨rfl,rfl⟩]
  ·rw [if_neg (fun y=>z y.symm),if_neg (fun y=>z y.1)]
   exact e
def Qw (cm:Option Int) (q:Int):List Bool:=if Kz cm q = true then [false,true] else [false]
theorem Q9 (ws ls:List Int) (cm:Option Int) (q:Int) (who:Nat):B7 ws ls cm q who = (Qw cm q).map fun lost=>Dv ws ls cm q who lost:=by
 unfold B7 Qw
 split <;> rfl
theorem Kp {xs:List Int} {i:Nat} (h:i < xs.length):xs[i]? = some (xs.getD i 0):=by
 rw [List.getD_eq_getElem?_getD,List.getElem?_eq_getElem h]
 rfl
theorem Uw:∀ (ws:List Int) (rows:List (List Int)) (r0 ext:List Int),r0 ∈ rows -> ext.length = ws.length -> (∀ i,i < ws.length -> 1 <= ext.getD i 0 /\ ext.getD i 0 <= ws.getD i 0) -> r0 ++ ext ∈ ws.foldl C8 rows
 | [],rows,r0,ext,h,hl,_=>by
  have e:ext = []:=List.length_eq_zero_iff.mp hl
  rw [e,List.append_nil]
  exact h
 | w :: ws,rows,r0,[],h,hl,_=>by simp at hl
 | w :: ws,rows,r0,x :: ext,h,hl,hb=>by
  have h0:=hb 0 (by simp)
  have hx:1 <= x /\ x <= w:=h0
  have cD:r0 ++ [x] ∈ C8 rows w:=by
   refine List.mem_flatMap.mpr ⟨r0,h,List.mem_map.mpr ⟨(x - 1).toNat,List.mem_range.mpr (by omega),?_⟩⟩
   have e:1 + (((x - 1).toNat:Nat):Int) = x:=by omega
   rw [e]
  have ih:=Uw ws (C8 rows w) (r0 ++ [x]) ext cD (by simpa using hl) fun i hi=>hb (i + 1) (by simp; omega)
  rw [List.append_assoc] at ih
  exact ih
theorem Rh {ws:List Int} {q:Int} {z:List Int × Int} (h1:z.1.length = ws.length) (h2:∀ i,i < ws.length -> 1 <= z.1.getD i 0 /\ z.1.getD i 0 <= ws.getD i 0) (h3:0 <= z.2) (h4:z.2 < q):z ∈ Bk ws q:=by
 refine List.mem_flatMap.mpr ⟨z.1,?_,List.mem_map.mpr ⟨z.2.toNat,List.mem_range.mpr (by omega),?_⟩⟩
 ·have:=Uw ws [[]] [] z.1 (by simp) h1 h2
  exact this
 ·have e:0 + ((z.2.toNat:Nat):Int) = z.2:=by omega
  rw [e]
theorem F9 {ws:List Int} {q:Int} {z:List Int × Int} (h:z ∈ Bk ws q):z.1.length = ws.length /\ (∀ i,i < ws.length -> 1 <= z.1.getD i 0 /\ z.1.getD i 0 <= ws.getD i 0) /\ 0 <= z.2 /\ z.2 < q:=by
 obtain ⟨m1,m2,m3,m4⟩ := Oa h
 exact ⟨m1,fun i hi=>m2 i _ _ (Kp (by omega)) (Kp hi),m3,m4⟩
theorem Ou {ws ls:List Int} {who i:Nat} {lost:Bool} (hi:i < ls.length):(Bb ws ls who lost).getD i 0 = if i = who /\ lost = false then ws.getD who 0 else ls.getD i 0 - 1:=by
 rw [List.getD_eq_getElem?_getD,Vx hi]
 rfl
theorem dk {ws ls:List Int} {cm:Option Int} {q:Int} {who:Nat} {o:Option (List Int × Int)}:o ∈ B7 ws ls cm q who ↔ ∃ lost,lost ∈ Qw cm q /\ Dv ws ls cm q who lost = o:=by
 rw [Q9,List.mem_map]
theorem Q6 {ws ls:List Int} {cm:Option Int} {q:Int} {who:Nat} {lost:Bool} {k:List Int × Int} (h:Dv ws ls cm q who lost = some k):(0:Int) ∉ Bb ws ls who lost /\ k = (Bb ws ls who lost,Dc cm q lost):=by
 unfold Dv at h
 by_cases z:(0:Int) ∈ Bb ws ls who lost
 ·rw [if_pos z] at h
  cases h
 ·rw [if_neg z] at h
  exact ⟨z,(Option.some.inj h).symm⟩
theorem dj {ws:List Int} {cm:Option Int} {k l:List Int × Int} {who:Nat} {lost:Bool} (dM:∀ w ∈ ws,1 <= w) (hk:k ∈ Bk ws (qv cm)) (we:who < ws.length) (hlo:lost ∈ Qw cm k.2) (h:Dv ws k.1 cm k.2 who lost = some l):l ∈ Bk ws (qv cm):=by
 obtain ⟨g1,g2,g3,g4⟩ := F9 hk
 obtain ⟨hz,rfl⟩ := Q6 h
 have hwp:1 <= ws.getD who 0:=dM _ (Vn we)
 have hlen:(Bb ws k.1 who lost).length = k.1.length:=Ff _ _ _ _
 refine Rh (by rw [hlen]; exact g1) (fun i hi=>?_) ?_ ?_
 ·have b:=g2 i hi
  have fA:(Bb ws k.1 who lost).getD i 0 ≠ 0:=fun e=>by
   have:=Kp (xs:=Bb ws k.1 who lost) (i:=i) (by omega)
   rw [e] at this
   exact hz (List.mem_of_getElem? this)
  show 1 <= (Bb ws k.1 who lost).getD i 0 /\ (Bb ws k.1 who lost).getD i 0 <= ws.getD i 0
  rw [Ou (by omega)] at fA ⊢
  by_cases y:i = who /\ lost = false
  ·rw [if_pos y,y.1]
   omega
  ·rw [if_neg y] at fA
   rw [if_neg y]
   omega
 ·show 0 <= Dc cm k.2 lost
  unfold Dc
  cases lost with
  | true =>
   rw [if_pos rfl]
   cases cm with
   | none=>exact Int.le_refl _
   | some c =>
    show 0 <= c
    have:k.2 < c + 1:=g4
    omega
  | false =>
   rw [if_neg Bool.false_ne_true]
   omega
 ·show Dc cm k.2 lost < qv cm
  unfold Dc
  cases lost with
  | true =>
   rw [if_pos rfl]
   cases cm with
   | none=>decide
   | some c =>
    show c < c + 1
    omega
  | false =>
   rw [if_neg Bool.false_ne_true]
   have:0 < qv cm:=by omega
   omega
def wd (x:Int × Int):PyData:=dP (.int x.1) (.int x.2)
def Gy (x y:Int × Int):Bool:=decide (y.1 < x.1 \/ (x.1 = y.1 /\ y.2 < x.2))
theorem Iy (a b:Int):PyData.eqv (.int a) (.int b) = decide (a = b):=rfl
theorem eg (x y:Int × Int):Vo (wd x) (wd y) = Gy x y:=by
 obtain ⟨a,b⟩ := x
 obtain ⟨c,d⟩ := y
 show (if PyData.eqv (.int a) (.int c) = true then (if PyData.eqv (.int b) (.int d) = true then bB [] [] else Vo (.int b) (.int d)) else Vo (.int a) (.int c)) = decide (c < a \/ (a = c /\ d < b))
 rw [Iy,Iy]
 show (if decide (a = c) = true then (if decide (b = d) = true then false else decide (b > d)) else decide (a > c)) = decide (c < a \/ (a = c /\ d < b))
 by_cases h1:a = c
 ·rw [if_pos (decide_eq_true h1)]
  by_cases h2:b = d
  ·rw [if_pos (decide_eq_true h2)]
   exact (decide_eq_false (by omega)).symm
  ·rw [if_neg (by simpa using h2)]
   exact decide_eq_decide.mpr (by omega)
 ·rw [if_neg (by simpa using h1)]
  exact decide_eq_decide.mpr (by omega)
theorem fg (x y:Int × Int):Hz (wd x) (wd y) = Gy y x:=by
 obtain ⟨a,b⟩ := x
 obtain ⟨c,d⟩ := y
 show (if PyData.eqv (.int a) (.int c) = true then (if PyData.eqv (.int b) (.int d) = true then aQ [] [] else Hz (.int b) (.int d)) else Hz (.int a) (.int c)) = decide (a < c \/ (c = a /\ b < d))
 rw [Iy,Iy]
 show (if decide (a = c) = true then (if decide (b = d) = true then false else decide (b < d)) else decide (a < c)) = decide (a < c \/ (c = a /\ b < d))
 by_cases h1:a = c
 ·rw [if_pos (decide_eq_true h1)]
  by_cases h2:b = d
  ·rw [if_pos (decide_eq_true h2)]
   exact (decide_eq_false (by omega)).symm
  ·rw [if_neg (by simpa using h2)]
   exact decide_eq_decide.mpr (by omega)
 ·rw [if_neg (by simpa using h1)]
  exact decide_eq_decide.mpr (by omega)
theorem dr (x y:Int × Int):Gr (wd x) (wd y):=by
 show Gr (.tuple [.int x.1,.int x.2]) (.tuple [.int y.1,.int y.2])
 simp [Gr,bH]
theorem Qg (x:Int × Int):(wd x).depth <= 50:=by
 show (dP _ _).depth <= 50
 rw [Qc]
 show max 0 0 + 1 <= 50
 decide
theorem cn {H:Hp} {p:Addr} {x:Int × Int} (h:H p = some (.tup [.int x.1,.int x.2])):Rp H (wd x) (.ref p):=Uy h (Pb _) (Pb _)
theorem X8 (x y:Int × Int):PyData.eqv (wd x) (wd y) = decide (x = y):=by
 obtain ⟨a,b⟩ := x
 obtain ⟨c,d⟩ := y
 show PyData.eqv (dP _ _) (dP _ _) = _
 rw [X6,Iy,Iy]
 by_cases h1:a = c <;> by_cases h2:b = d <;> simp [h1,h2]
theorem Ol (f:Nat -> Int × Int):∀ k,argBest (fun i j=>Gy (f i) (f j)) k <= k /\ ∀ j,j <= k -> Gy (f j) (f (argBest (fun i j=>Gy (f i) (f j)) k)) = false
 | 0=>⟨Nat.le_refl _,fun j hj=>by
  have e:j = 0:=by omega
  subst e
  show Gy (f 0) (f 0) = false
  unfold Gy
  exact decide_eq_false (by omega)⟩
 | k + 1=>by
  obtain ⟨h1,h2⟩ := Ol f k
  rw [Dz]
  generalize argBest (fun i j=>Gy (f i) (f j)) k = b at h1 h2 ⊢
  by_cases z:Gy (f (k + 1)) (f b) = true
  ·rw [if_pos z]
   refine ⟨Nat.le_refl _,fun j hj=>?_⟩
   unfold Gy at z h2 ⊢
   have z':=of_decide_eq_true z
   refine decide_eq_false ?_
   rcases Nat.lt_or_ge k j with y | y
   ·have e:j = k + 1:=by omega
    subst e
    omega
   ·have:=of_decide_eq_false (h2 j y)
    omega
  ·rw [if_neg z]
   refine ⟨by omega,fun j hj=>?_⟩
   rcases Nat.lt_or_ge k j with y | y
   ·have e:j = k + 1:=by omega
    subst e
    simpa using z
   ·exact h2 j y
def Jk:Option V -> Int × Int
 | some (.int m)=>(0,m)
 | _=>(1,0)
def told (tv:List ((List Int × Int) × V)):Option (List Int × Int) -> Int × Int
 | none=>(0,0)
 | some k=>Jk (Ad tv k)
def fi (x y:Int × Int):Int × Int:=if Gy x y = true then y else x
def Fs (tv:List ((List Int × Int) × V)) (ws ls:List Int) (cm:Option Int) (q:Int) (who:Nat):Int × Int :=
 if Kz cm q = true then fi (told tv (Dv ws ls cm q who false)) (told tv (Dv ws ls cm q who true)) else told tv (Dv ws ls cm q who false)
def Zh (tv:List ((List Int × Int) × V)):Prop := ∀ k v,Ad tv k = some v -> ∃ m:Int,v = .int m
theorem Pw {tv:List ((List Int × Int) × V)} {ws ls:List Int} {cm:Option Int} {q:Int} {who:Nat}:(∀ o ∈ B7 ws ls cm q who,Gy (Fs tv ws ls cm q who) (told tv o) = false) /\ ∃ o,o ∈ B7 ws ls cm q who /\ Fs tv ws ls cm q who = told tv o:=by
 rw [Q9]
 unfold Qw Fs
 by_cases z:Kz cm q = true
 ·rw [if_pos z,if_pos z]
  show (∀ o ∈ [Dv ws ls cm q who false,Dv ws ls cm q who true],_) /\ ∃ o,o ∈ [Dv ws ls cm q who false,Dv ws ls cm q who true] /\ _
  unfold fi
  by_cases y:Gy (told tv (Dv ws ls cm q who false)) (told tv (Dv ws ls cm q who true)) = true
  ·rw [if_pos y]
   refine ⟨fun o ho=>?_,_,by simp,rfl⟩
   have iX:o = Dv ws ls cm q who false \/ o = Dv ws ls cm q who true:=by simpa using ho
   unfold Gy at y ⊢
   have y':=of_decide_eq_true y
   refine decide_eq_false ?_
   rcases iX with e | e <;> subst e <;> omega
  ·rw [if_neg y]
   refine ⟨fun o ho=>?_,_,by simp,rfl⟩
   have iX:o = Dv ws ls cm q who false \/ o = Dv ws ls cm q who true:=by simpa using ho
   unfold Gy at y ⊢
   refine decide_eq_false ?_
   have y':=fun h=>y (decide_eq_true h)
   rcases iX with e | e <;> subst e <;> omega
 ·rw [if_neg z,if_neg z]
  refine ⟨fun o ho=>?_,Dv ws ls cm q who false,by simp,rfl⟩
  have e:o = Dv ws ls cm q who false:=by simpa using ho
  subst e
  unfold Gy
  exact decide_eq_false (by omega)
theorem Rf {H:Hp}:∀ {ds:List PyData} {us:List V},us.length = ds.length -> (∀ (i:Nat) (d:PyData) (u:V),ds[i]? = some d -> us[i]? = some u -> Rp H d u) -> aN H ds us
 | [],us,hl,_=>by
  unfold aN
  exact List.length_eq_zero_iff.mp hl
 | d :: ds,[],hl,_=>by simp at hl
 | d :: ds,u :: us,hl,h=>by
  unfold aN
  exact ⟨u,us,rfl,h 0 d u rfl rfl,Rf (by simpa using hl) fun i d' u' h1 h2=>h (i + 1) d' u' (by simpa using h1) (by simpa using h2)⟩
theorem Zl {f:Nat -> Int × Int} {n:Nat} (hn:0 < n):Di ((List.range n).map fun i=>wd (f i)) < n /\ ∀ j,j < n -> Gy (f j) (f (Di ((List.range n).map fun i=>wd (f i)))) = false:=by
 have e:Di ((List.range n).map fun i=>wd (f i)) = argBest (fun i j=>Gy (f i) (f j)) (n - 1):=by
  unfold Di
  rw [List.length_map,List.length_range]
  have key:∀ k,k <= n - 1 -> argBest (fun i j=>Vo (((List.range n).map fun i=>wd (f i)).getD i .none) (((List.range n).map fun i=>wd (f i)).getD j .none)) k = argBest (fun i j=>Gy (f i) (f j)) k:=fun k=>by
   induction k with
   | zero=>exact fun _=>rfl
   | succ k ih =>
    intro hk
    have b:=(Ol f k).1
    rw [Dz,Dz,ih (by omega)]
    generalize argBest (fun i j=>Gy (f i) (f j)) k = b0 at b ⊢
    have g:∀ i,i < n -> ((List.range n).map fun i=>wd (f i)).getD i .none = wd (f i):=fun i hi=>by
     rw [List.getD_eq_getElem?_getD,List.getElem?_map,List.getElem?_range hi]
     rfl
    show (if Vo (((List.range n).map fun i=>wd (f i)).getD (k + 1) .none) (((List.range n).map fun i=>wd (f i)).getD b0 .none) = true then _ else _) = _
    rw [g _ (by omega),g _ (by omega),eg]
  exact key (n - 1) (Nat.le_refl _)
 rw [e]
 obtain ⟨h1,h2⟩ := Ol f (n - 1)
 exact ⟨by omega,fun j hj=>h2 j (by omega)⟩
def Ds (f:Nat -> Int × Int) (n j:Nat):Prop:=j < n /\ (∀ i,i < n -> Gy (f i) (f j) = false) /\ ∀ m,m < j -> f m ≠ f j
theorem ki {Pr:Nat -> Prop}:∀ (b:Nat),Pr b -> ∃ j,j <= b /\ Pr j /\ ∀ m,m < j -> ¬ Pr m:=fun b=>by
 induction b using Nat.strongRecOn with
 | ind b ih =>
  intro hb
  by_cases z:∃ m,m < b /\ Pr m
  ·obtain ⟨m,h1,h2⟩ := z
   obtain ⟨j,j1,j2,j3⟩ := ih m h1 h2
   exact ⟨j,by omega,j2,j3⟩
  ·exact ⟨b,Nat.le_refl _,hb,fun m hm hp=>z ⟨m,hm,hp⟩⟩
theorem Xf {x y:Int × Int} (h1:Gy x y = false) (h2:Gy y x = false):x = y:=by
 obtain ⟨a,b⟩ := x
 obtain ⟨c,d⟩ := y
 unfold Gy at h1 h2
 have g1:=of_decide_eq_false h1
 have g2:=of_decide_eq_false h2
 have e1:a = c:=by
  simp only at g1 g2
  omega
 have e2:b = d:=by
  simp only at g1 g2
  omega
 rw [e1,e2]
theorem Ds.uniq {f:Nat -> Int × Int} {n j k:Nat} (h:Ds f n j) (g:Ds f n k):j = k:=by
 have e:f j = f k:=Xf (g.2.1 j h.1) (h.2.1 k g.1)
 rcases Nat.lt_trichotomy j k with z | z | z
 ·exact absurd e (g.2.2 j z)
 ·exact z
 ·exact absurd e.symm (h.2.2 k z)
theorem Ds.of {f:Nat -> Int × Int} {n j:Nat} (hn:0 < n) (hj:j <= Di ((List.range n).map fun i=>wd (f i))) (e:f j = f (Di ((List.range n).map fun i=>wd (f i)))) (h:∀ m,m < j -> ¬ f m = f (Di ((List.range n).map fun i=>wd (f i)))):Ds f n j:=by
 obtain ⟨b1,b2⟩ := Zl (f:=f) hn
 refine ⟨by omega,fun i hi=>by rw [e]; exact b2 i hi,fun m hm=>by rw [e]; exact h m hm⟩
def Rx (H:Hp) (f:Nat -> Int × Int) (ys:List V):Prop := ∀ (i:Nat) (u:V),ys[i]? = some u -> ∃ p,u = .ref p /\ H p = some (.tup [.int (f i).1,.int (f i).2])
theorem Rx.snoc {H H':Hp} {f:Nat -> Int × Int} {ys:List V} {p:Addr} {n:Nat} (h:Rx H f ys) (t:Ar H H') (hn:ys.length = n) (e:H' p = some (.tup [.int (f n).1,.int (f n).2])):Rx H' f (ys ++ [.ref p]):=fun i u hu=>by
 rcases Nat.lt_or_ge i ys.length with y | y
 ·rw [List.getElem?_append_left y] at hu
  obtain ⟨p3,e1,e2⟩ := h i u hu
  exact ⟨p3,e1,t _ _ e2⟩
 ·rw [List.getElem?_append_right y] at hu
  have hi0:i - ys.length = 0:=by
   have:=(List.getElem?_eq_some_iff.mp hu).1
   rw [List.length_singleton] at this
   omega
  rw [hi0] at hu
  cases hu
  have ei:i = n:=by omega
  subst ei
  exact ⟨p,rfl,e⟩
theorem Rx.rp {H:Hp} {f:Nat -> Int × Int} {ys:List V} {n:Nat} (h:Rx H f ys) (hn:ys.length = n):aN H ((List.range n).map fun i=>wd (f i)) ys:=by
 refine Rf (by rw [List.length_map,List.length_range]; exact hn) fun i d u h1 h2=>?_
 obtain ⟨p3,e1,e2⟩ := h i u h2
 subst e1
 rw [List.getElem?_map] at h1
 obtain ⟨i',fH,rfl⟩ := Option.map_eq_some_iff.mp h1
 have QG:i < n:=by
  have:=(List.getElem?_eq_some_iff.mp h2).1
  omega
 rw [List.getElem?_range QG] at fH
 cases fH
 exact cn e2
theorem Ua (f:Nat -> Int × Int) (n:Nat):∀ d ∈ (List.range n).map fun i=>wd (f i),∀ e ∈ (List.range n).map fun i=>wd (f i),Gr d e:=fun d hd e he=>by
 obtain ⟨i1,_,rfl⟩ := List.mem_map.mp hd
 obtain ⟨i2,_,rfl⟩ := List.mem_map.mp he
 exact dr _ _
theorem Ue (f:Nat -> Int × Int) (n:Nat):∀ d ∈ (List.range n).map fun i=>wd (f i),d.depth <= 50:=fun d hd=>by
 obtain ⟨i1,_,rfl⟩ := List.mem_map.mp hd
 exact Qg _
theorem Zx (f:Nat -> Int × Int) {n i:Nat} (h:i < n):((List.range n).map fun i=>wd (f i))[i]? = some (wd (f i)):=by
 rw [List.getElem?_map,List.getElem?_range h]
 rfl
theorem Xd {f:Nat -> Int × Int} {n i:Nat} {e:PyData} (h:((List.range n).map fun i=>wd (f i))[i]? = some e):e = wd (f i):=by
 rw [List.getElem?_map] at h
 obtain ⟨i',fH,rfl⟩ := Option.map_eq_some_iff.mp h
 have QG:i < n:=by
  have:=(List.getElem?_eq_some_iff.mp fH).1
  rwa [List.length_range] at this
 rw [List.getElem?_range QG] at fH
 cases fH
 rfl
theorem Gp {tv:List ((List Int × Int) × V)} {k:List Int × Int} {m:Int} (h:Ad tv k = some (.int m)):told tv (some k) = (0,m):=by
 show Jk (Ad tv k) = _
 rw [h]
 rfl
theorem Hh {ws:List Int} {cm:Option Int} {tv:List ((List Int × Int) × V)} (h:C0 ws cm tv) (o:Option (List Int × Int)):(o = none /\ told tv o = (0,0)) \/ (∃ k m,o = some k /\ Ad tv k = some (.int m) /\ 1 <= m /\ told tv o = (0,m)) \/ told tv o = (1,0):=by
 cases o with
 | none=>exact .inl ⟨rfl,rfl⟩
 | some k =>
  cases hv:Ad tv k with
  | none =>
   refine .inr (.inr ?_)
   show Jk (Ad tv k) = _
   rw [hv]
   rfl
  | some v =>
   obtain ⟨m,e1,h1,_⟩ := h.1 k v hv
   subst e1
   exact .inr (.inl ⟨k,m,rfl,hv,h1,Gp hv⟩)
theorem V8 {ws : List Int} {cm : Option Int} {tv : List ((List Int × Int) × V)} {k : List Int × Int} {m : Int} {b : Nat} (h : C0 ws cm tv) (hv : Ad tv k = some (.int m)) (hn : 0 < ws.length) (hb : b < ws.length)
  (dI:∀ j,j < ws.length -> Gy (Fs tv ws k.1 cm k.2 j) (Fs tv ws k.1 cm k.2 b) = false):Fs tv ws k.1 cm k.2 b = (0,m - 1):=by
 obtain ⟨m0,e0,h1,_,p1,p2⟩ := h.1 k _ hv
 cases e0
 have up:∀ j,j < ws.length -> (Fs tv ws k.1 cm k.2 j).1 = 0 /\ 0 <= (Fs tv ws k.1 cm k.2 j).2 /\ (Fs tv ws k.1 cm k.2 j).2 <= m - 1:=fun j hj=>by
  obtain ⟨w1,o,w2,w3⟩ := Pw (tv:=tv) (ws:=ws) (ls:=k.1) (cm:=cm) (q:=k.2) (who:=j)
  rw [w3] at w1 ⊢
  have key:∃ c:Int,Gy (told tv o) (0,c) = false /\ c <= m - 1:=by
   rcases p1 j hj with z | ⟨later,m',z1,z2,z3⟩
   ·exact ⟨0,w1 none z,by omega⟩
   ·have:=w1 _ z1
    rw [Gp z2] at this
    exact ⟨m',this,z3⟩
  obtain ⟨c,c1,c2⟩ := key
  unfold Gy at c1
  have c3:=of_decide_eq_false c1
  rcases Hh h o with ⟨_,e⟩ | ⟨_,m',_,_,e1,e⟩ | e
  ·rw [e]
   exact ⟨rfl,Int.le_refl _,by show (0:Int) <= m - 1; omega⟩
  ·rw [e] at c3 ⊢
   have c4:¬ ((0:Int) < 0 \/ ((0:Int) = 0 /\ c < m')):=c3
   exact ⟨rfl,by show (0:Int) <= m'; omega,by show m' <= m - 1; omega⟩
  ·rw [e] at c3
   have c4:¬ ((0:Int) < 1 \/ ((1:Int) = 0 /\ c < 0)):=c3
   omega
 have low:∃ j,j < ws.length /\ m - 1 <= (Fs tv ws k.1 cm k.2 j).2:=by
  rcases p2 with z | ⟨who,z1,z2,z3⟩
  ·exact ⟨0,hn,by have:=up 0 hn; omega⟩
  ·refine ⟨who,z1,?_⟩
   have u:=up who z1
   obtain ⟨_,o,w2,w3⟩ := Pw (tv:=tv) (ws:=ws) (ls:=k.1) (cm:=cm) (q:=k.2) (who:=who)
   rw [w3] at u ⊢
   rcases Hh h o with ⟨e0,e⟩ | ⟨l,m',e0,e2,e1,e⟩ | e
   ·rw [e0] at w2
    exact absurd w2 z2
   ·rw [e0] at w2
    have:=z3 l m' w2 e2
    rw [e]
    exact this
   ·rw [e] at u
    simp only at u
    omega
 obtain ⟨j,j1,j2⟩ := low
 have u:=up j j1
 have ub:=up b hb
 have g:=dI j j1
 unfold Gy at g
 have g':=of_decide_eq_false g
 refine Prod.ext ub.1 ?_
 show (Fs tv ws k.1 cm k.2 b).2 = m - 1
 omega
def cy (tv:List ((List Int × Int) × V)) (k:List Int × Int) (o:Option (List Int × Int)):Prop:=(Ad tv k = none -> ∃ b,o = some b /\ Ad tv b = none) /\ ∀ m:Int,Ad tv k = some (.int m) -> (o = none -> m = 1) /\ ∀ (b:List Int × Int) (m':Int),o = some b -> Ad tv b = some (.int m') -> m - 1 <= m'
theorem Yv {ws:List Int} {cm:Option Int} {tv:List ((List Int × Int) × V)} (h:C0 ws cm tv) {o:Option (List Int × Int)} (e:told tv o = (1,0)):∃ b,o = some b /\ Ad tv b = none:=by
 cases o with
 | none=>cases e
 | some b =>
  refine ⟨b,rfl,?_⟩
  cases hv:Ad tv b with
  | none=>rfl
  | some v =>
   obtain ⟨m,e1,_⟩ := h.1 b v hv
   subst e1
   rw [Gp hv] at e
   cases e
theorem Zy {ws:List Int} {cm:Option Int} {tv:List ((List Int × Int) × V)} {k:List Int × Int} {j:Nat} {o:Option (List Int × Int)} (h:C0 ws cm tv) (hk:k ∈ Bk ws (qv cm)) (hn:0 < ws.length) (hb:Ds (fun i=>Fs tv ws k.1 cm k.2 i) ws.length j) (ho:o ∈ B7 ws k.1 cm k.2 j):cy tv k o:=by
 obtain ⟨w1,o1,w2,w3⟩ := Pw (tv:=tv) (ws:=ws) (ls:=k.1) (cm:=cm) (q:=k.2) (who:=j)
 have wo:=w1 o ho
 refine ⟨fun hv=>?_,fun m hv=>?_⟩
 ·obtain ⟨who,y1,y2,y3⟩ := h.2 k hk hv
  obtain ⟨v1,o2,v2,v3⟩ := Pw (tv:=tv) (ws:=ws) (ls:=k.1) (cm:=cm) (q:=k.2) (who:=who)
  have e2:told tv o2 = (1,0):=by
   cases o2 with
   | none=>exact absurd v2 y2
   | some b =>
    show Jk (Ad tv b) = _
    rw [y3 b v2]
    rfl
  have dI:=hb.2.1 who y1
  simp only at dI
  rw [v3,e2] at dI
  refine Yv h ?_
  unfold Gy at dI wo
  have g1:=of_decide_eq_false dI
  have g2:=of_decide_eq_false wo
  rcases Hh h o with ⟨_,e⟩ | ⟨_,m',_,_,e1,e⟩ | e
  ·rw [e] at g2
   simp only at g1 g2
   omega
  ·rw [e] at g2
   simp only at g1 g2
   omega
  ·exact e
 ·obtain ⟨m0,e0,h1,_⟩ := h.1 k _ hv
  cases e0
  have hbr:=V8 h hv hn hb.1 hb.2.1
  rw [hbr] at wo
  unfold Gy at wo
  have g2:=of_decide_eq_false wo
  refine ⟨fun e=>?_,fun b m' e uo=>?_⟩
  ·subst e
   have e3:told tv none = (0,0):=rfl
   rw [e3] at g2
   have g3:¬ ((0:Int) < 0 \/ ((0:Int) = 0 /\ (0:Int) < m - 1)):=g2
   omega
  ·subst e
   rw [Gp uo] at g2
   have g3:¬ ((0:Int) < 0 \/ ((0:Int) = 0 /\ m' < m - 1)):=g2
   omega
theorem S8 (a b:List Int × Int):PyData.eqv (dS a) (dS b) = decide (a = b):=by
 show (PyData.eqvAll (a.1.map PyData.int) (b.1.map PyData.int) && (PyData.eqv (.int a.2) (.int b.2) && true)) = _
 rw [Dj]
 have e:PyData.eqv (.int a.2) (.int b.2) = decide (a.2 = b.2):=by
  show (a.2 == b.2) = _
  rw [Bool.eq_iff_iff]
  simp
 rw [e,Bool.and_true,Bool.eq_iff_iff]
 simp [Prod.ext_iff]
def Ov (o:Option HO):Nat:=match o with
 | some (.lst vs)=>vs.length
 | _=>0
def Nd (o:Option HO):Nat:=match o with
 | some (.dT wv)=>wv.length
 | _=>0
theorem af {α:Type} {xs:List α} (h:0 < xs.length):∃ y,xs[xs.length - 1]? = some y:=⟨xs[xs.length - 1],List.getElem?_eq_getElem (by omega)⟩
theorem An.take {α:Type} {P:α -> V -> Prop} {rs:List α} {vs:List V} (h:An P rs vs) (n:Nat):An P (rs.take n) (vs.take n):=by
 refine ⟨by rw [List.length_take,List.length_take,h.1],fun i r v e1 e2=>?_⟩
 rcases Nat.lt_or_ge i n with z | z
 ·rw [List.getElem?_take_of_lt z] at e1 e2
  exact h.2 i r v e1 e2
 ·rw [List.getElem?_take_eq_none z] at e1
  cases e1
def Du (ws:List Int) (cm:Option Int):Prop:=(∀ x ∈ ws,1 <= x /\ x <= 3000) /\ (∀ d,cm = some d -> 1 <= d /\ d < 3000) /\ 0 < ws.length /\ ws.length <= 8 /\ Am (qv cm) ws <= 3000
theorem Du.qv {ws:List Int} {cm:Option Int} (h:Du ws cm):1 <= qv cm /\ qv cm <= 3000:=by
 cases cm with
 | none=>exact ⟨by decide,by decide⟩
 | some d =>
  have:=h.2.1 d rfl
  exact ⟨show 1 <= d + 1 by omega,show d + 1 <= 3000 by omega⟩
inductive Z6 (ws:List Int) (cm:Option Int) (tv:List ((List Int × Int) × V)):(List Int × Int) -> Prop
 | base:Z6 ws cm tv (ws,0)
 | step {k k':List Int × Int} {j:Nat}:Z6 ws cm tv k -> Ds (fun i=>Fs tv ws k.1 cm k.2 i) ws.length j -> some k' ∈ B7 ws k.1 cm k.2 j -> Z6 ws cm tv k'
def Sf (ws:List Int) (cm:Option Int) (tv:List ((List Int × Int) × V)) (k:List Int × Int):Prop:=k ∈ Bk ws (qv cm) /\ Ad tv k = none /\ Z6 ws cm tv k
structure Of (ws:List Int) (cm:Option Int) (tv cv:List ((List Int × Int) × V)) (E:List (List Int × Int)):Prop where
 nd:(cv.map (·.1)).Nodup
 sf:∀ k ∈ E,Sf ws cm tv k
 ent:∀ kv ∈ cv,Sf ws cm tv kv.1 /\ ∃ j:Nat,kv.2 = .int (j:Int) /\ Ds (fun i=>Fs tv ws kv.1.1 cm kv.1.2 i) ws.length j /\ ∀ o ∈ B7 ws kv.1.1 cm kv.1.2 j,∃ k',o = some k' /\ (k' ∈ cv.map (·.1) \/ k' ∈ E)
 CM:(ws,0) ∈ cv.map (·.1) \/ (ws,0) ∈ E
theorem Of.len {ws:List Int} {cm:Option Int} {tv cv:List ((List Int × Int) × V)} {E:List (List Int × Int)} (h:Of ws cm tv cv E) (aP:Du ws cm):cv.length <= 3000:=by
 have h1:=List.Nodup.length_le_of_subset h.nd (show cv.map (·.1) ⊆ Bk ws (qv cm) from fun k hk=>by
  obtain ⟨kv,aS,rfl⟩ := List.mem_map.mp hk
  exact (h.ent kv aS).1.1)
 have h2:=Jb (ws:=ws) (q:=qv cm) (fun w hw=>(aP.1 w hw).1) (by have:=aP.qv.1; omega)
 have h3:=aP.2.2.2.2
 rw [List.length_map] at h1
 omega
theorem Of.start {ws:List Int} {cm:Option Int} {tv:List ((List Int × Int) × V)} (h:Sf ws cm tv (ws,0)):Of ws cm tv [] [(ws,0)]:=⟨List.nodup_nil,fun k hk=>by cases List.mem_singleton.mp hk; exact h,(fun kv aS=>by cases aS),.inr (List.mem_singleton.mpr rfl)⟩
theorem Of.skip {ws:List Int} {cm:Option Int} {tv cv:List ((List Int × Int) × V)} {E:List (List Int × Int)} {k:List Int × Int} (h:Of ws cm tv cv (E ++ [k])) (hk:k ∈ cv.map (·.1)):Of ws cm tv cv E:=by
 have key:∀ x,x ∈ cv.map (·.1) \/ x ∈ E ++ [k] -> x ∈ cv.map (·.1) \/ x ∈ E:=fun x hx=>by
  rcases hx with z | z
  ·exact .inl z
  ·rcases List.mem_append.mp z with y | y
   ·exact .inr y
   ·rw [List.mem_singleton.mp y]
    exact .inl hk
 refine ⟨h.nd,fun x hx=>h.sf x (List.mem_append_left _ hx),fun kv aS=>?_,key _ h.CM⟩
 obtain ⟨h1,j,h2,h3,h4⟩ := h.ent kv aS
 refine ⟨h1,j,h2,h3,fun o ho=>?_⟩
 obtain ⟨k',e,z⟩ := h4 o ho
 exact ⟨k',e,key _ z⟩
theorem Of.put {ws:List Int} {cm:Option Int} {tv cv:List ((List Int × Int) × V)} {E Eb:List (List Int × Int)} {k:List Int × Int} {j:Nat} (h:Of ws cm tv cv (E ++ [k])) (hk:Ad cv k = none) (hb:Ds (fun i=>Fs tv ws k.1 cm k.2 i) ws.length j) (he:B7 ws k.1 cm k.2 j = Eb.map some) (hs:∀ x ∈ Eb,Sf ws cm tv x):Of ws cm tv (Bl cv k (.int (j:Int))) (E ++ Eb):=by
 have ep:=Dp (kvs:=cv) (k:=k) (.int (j:Int)) hk
 have key:∀ x,x ∈ cv.map (·.1) \/ x ∈ E ++ [k] -> x ∈ (Bl cv k (.int (j:Int))).map (·.1) \/ x ∈ E ++ Eb:=fun x hx=>by
  rw [ep,List.map_append]
  rcases hx with z | z
  ·exact .inl (List.mem_append_left _ z)
  ·rcases List.mem_append.mp z with y | y
   ·exact .inr (List.mem_append_left _ y)
   ·rw [List.mem_singleton.mp y]
    exact .inl (List.mem_append_right _ (by simp))
 refine ⟨ah _ h.nd hk,fun x hx=>?_,fun kv aS=>?_,key _ h.CM⟩
 ·rcases List.mem_append.mp hx with y | y
  ·exact h.sf x (List.mem_append_left _ y)
  ·exact hs x y
 ·have FI:=aS
  rw [ep] at FI
  rcases List.mem_append.mp FI with z | z
  ·obtain ⟨h1,i,h2,h3,h4⟩ := h.ent kv z
   refine ⟨h1,i,h2,h3,fun o ho=>?_⟩
   obtain ⟨k',e,y⟩ := h4 o ho
   exact ⟨k',e,key _ y⟩
  ·rw [List.mem_singleton.mp z]
   refine ⟨h.sf k (by simp),j,rfl,hb,fun o ho=>?_⟩
   rw [he] at ho
   obtain ⟨x,hx,rfl⟩ := List.mem_map.mp ho
   exact ⟨x,rfl,.inr (List.mem_append_right _ hx)⟩
def Jn (ws:List Int) (cm:Option Int) (tv ps:List ((List Int × Int) × V)):Prop:=Of ws cm tv ps [] /\ ps.Pairwise fun x y=>Hz (dS x.1) (dS y.1) = true
theorem Of.perm {ws:List Int} {cm:Option Int} {tv cv ps:List ((List Int × Int) × V)} (h:Of ws cm tv cv []) (hp:ps.Perm cv):Of ws cm tv ps []:=by
 have hm:=hp.map (·.1)
 refine ⟨hm.nodup_iff.mpr h.nd,h.sf,fun kv aS=>?_,?_⟩
 ·obtain ⟨h1,j,h2,h3,h4⟩ := h.ent kv (hp.mem_iff.mp aS)
  refine ⟨h1,j,h2,h3,fun o ho=>?_⟩
  obtain ⟨k',e,z⟩ := h4 o ho
  exact ⟨k',e,z.imp (fun y=>hm.mem_iff.mpr y) id⟩
 ·exact h.CM.imp (fun y=>hm.mem_iff.mpr y) id
theorem Zk {ws:List Int} {cm:Option Int} {tv:List ((List Int × Int) × V)} {k:List Int × Int} {j:Nat} (nN:C0 ws cm tv) (aP:Du ws cm) (h:Sf ws cm tv k) (hb:Ds (fun i=>Fs tv ws k.1 cm k.2 i) ws.length j):∃ Eb:List (List Int × Int),B7 ws k.1 cm k.2 j = Eb.map some /\ (∀ x ∈ Eb,Sf ws cm tv x) /\ Eb.length <= 2:=by
 have all:∀ o ∈ B7 ws k.1 cm k.2 j,∃ b,o = some b /\ Sf ws cm tv b:=fun o ho=>by
  obtain ⟨b,e,hv⟩ := (Zy nN h.1 aP.2.2.1 hb ho).1 h.2.1
  subst e
  obtain ⟨lost,hl,e2⟩ := dk.mp ho
  exact ⟨b,rfl,dj (fun w hw=>(aP.1 w hw).1) h.1 hb.1 hl e2,hv,.step h.2.2 hb ho⟩
 have key:∀ l:List (Option (List Int × Int)),(∀ o ∈ l,∃ b,o = some b /\ Sf ws cm tv b) -> ∃ Eb:List (List Int × Int),l = Eb.map some /\ (∀ x ∈ Eb,Sf ws cm tv x):=by
  intro l
  induction l with
  | nil=>exact fun _=>⟨[],rfl,fun x hx=>by cases hx⟩
  | cons o l ih =>
   intro hl
   obtain ⟨Eb,e1,e2⟩ := ih fun o ho=>hl o (List.mem_cons_of_mem _ ho)
   obtain ⟨b,e3,e4⟩ := hl o List.mem_cons_self
   refine ⟨b :: Eb,by rw [e3,e1]; rfl,fun x hx=>?_⟩
   rcases List.mem_cons.mp hx with y | y
   ·rw [y]
    exact e4
   ·exact e2 x y
 obtain ⟨Eb,e1,e2⟩ := key _ all
 refine ⟨Eb,e1,e2,?_⟩
 have hl:Eb.length = (B7 ws k.1 cm k.2 j).length:=by rw [e1,List.length_map]
 rw [hl]
 unfold B7
 split <;> simp
theorem Wt {H:Hp} {Eb:List (List Int × Int)} {us:List V} (h:An (Hn H) (Eb.map some) us):An (Fr H) Eb us:=by
 refine ⟨by rw [h.1,List.length_map],fun i r v e1 e2=>?_⟩
 obtain ⟨b,e3,u,e4,e5⟩ := h.2 i (some r) v (by rw [List.getElem?_map,e1]; rfl) e2
 exact ⟨b,u,e3,e4,e5⟩
theorem Er:∀ xs ys:List Int,aQ (xs.map PyData.int) (ys.map PyData.int) = true -> aQ (ys.map PyData.int) (xs.map PyData.int) = false
 | [],[],_=>rfl
 | [],y :: ys,h=>rfl
 | x :: xs,[],h=>by simp [aQ] at h
 | x :: xs,y :: ys,h=>by
  have e:∀ a b:Int,PyData.eqv (.int a) (.int b) = decide (a = b):=fun a b=>by
   show (a == b) = _
   rw [Bool.eq_iff_iff]
   simp
  rw [List.map_cons,List.map_cons,aQ,e] at h ⊢
  by_cases z:x = y
  ·subst z
   rw [if_pos (by simp)] at h ⊢
   exact Er xs ys h
  ·rw [if_neg (by simp; exact z)] at h
   rw [if_neg (by simp; exact fun y=>z y.symm)]
   have h1:x < y:=of_decide_eq_true h
   exact decide_eq_false (by omega)
theorem Je {a b:List Int × Int} (h:Hz (dS a) (dS b) = true):Hz (dS b) (dS a) = false:=by
 have h':aQ [dT a.1,.int a.2] [dT b.1,.int b.2] = true:=h
 show aQ [dT b.1,.int b.2] [dT a.1,.int a.2] = false
 rw [aQ,X7] at h' ⊢
 by_cases z:a.1 = b.1
 ·rw [if_pos (by simp [z])] at h' ⊢
  exact Er [a.2] [b.2] h'
 ·rw [if_neg (by simp [z])] at h'
  rw [if_neg (by simp; exact fun y=>z y.symm)]
  exact Er a.1 b.1 h'
theorem N7 {L:List (List Int × Int)} (hs:L.Pairwise fun a b=>Hz (dS a) (dS b) = true) {a b:List Int × Int} (ha:a ∈ L) (hb:b ∈ L):Hz (dS a) (dS b) = decide (L.idxOf a < L.idxOf b):=by
 have la:=List.idxOf_lt_length_of_mem ha
 have lb:=List.idxOf_lt_length_of_mem hb
 have ea:L[L.idxOf a] = a:=List.getElem_idxOf la
 have eb:L[L.idxOf b] = b:=List.getElem_idxOf lb
 have hp:=List.pairwise_iff_getElem.mp hs
 rcases Nat.lt_trichotomy (L.idxOf a) (L.idxOf b) with z | z | z
 ·have:=hp _ _ la lb z
  rw [ea,eb] at this
  rw [this,decide_eq_true z]
 ·have e : a = b := by
   rw [<- ea,<- eb]
   congr 1
  subst e
  rw [decide_eq_false (Nat.lt_irrefl _)]
  exact P0 a
 ·have:=hp _ _ lb la z
  rw [ea,eb] at this
  rw [Je this,decide_eq_false (by omega)]
theorem Oz (j:Int):aQ [PyData.int j] [PyData.int j] = false:=by
 rw [aQ,if_pos (show PyData.eqv (.int j) (.int j) = true from PySem.SeqAt.eqv_refl _ rfl)]
 rfl
def Hi (kv:(List Int × Int) × V):PyData:=match kv.2 with
 | .int i=>.int i
 | _=>.none
theorem Sd {ws:List Int} {cm:Option Int} {tv cv:List ((List Int × Int) × V)} (h:Of ws cm tv cv []):∀ a ∈ cv,∀ b ∈ cv,Zb (Gx Hi a) (Gx Hi b) /\ Hz (Gx Hi a) (Gx Hi b) = decide ((Bk ws (qv cm)).idxOf a.1 < (Bk ws (qv cm)).idxOf b.1):=fun a ha b hb=>by
 obtain ⟨⟨a1,_⟩,i,ei,_⟩ := h.ent a ha
 obtain ⟨⟨b1,_⟩,j,ej,_⟩ := h.ent b hb
 have wa:Hi a = .int i:=by unfold Hi; rw [ei]
 have wb:Hi b = .int j:=by unfold Hi; rw [ej]
 have cs:∀ x y:List Int,bH (x.map PyData.int) (y.map PyData.int):=by
  intro x
  induction x with
  | nil=>intro y; unfold bH; trivial
  | cons u x ih =>
   intro y
   cases y with
   | nil=>unfold bH; trivial
   | cons v y=>exact ⟨trivial,ih y⟩
 refine ⟨?_,?_⟩
 ·show Mb [dS a.1,Hi a] [dS b.1,Hi b]
  rw [wa,wb]
  exact U9 ⟨⟨cs _ _,trivial,trivial⟩,trivial,trivial⟩
 ·show aQ [dS a.1,Hi a] [dS b.1,Hi b] = _
  rw [aQ,S8,wa,wb]
  by_cases z:a.1 = b.1
  ·rw [if_pos (by simp [z])]
   have e:a = b:=by
    obtain ⟨ka,va⟩ := a
    obtain ⟨kb,vb⟩ := b
    have z':ka = kb:=z
    subst z'
    have h1:=Cf h.nd ha
    have h2:=Cf h.nd hb
    rw [h1] at h2
    rw [Option.some.inj h2]
   subst e
   have eij:(i:Int) = j:=by
    rw [ei] at ej
    injection ej
   rw [eij,decide_eq_false (Nat.lt_irrefl _)]
   exact Oz j
  ·rw [if_neg (by simp [z])]
   exact N7 (Fk ws (qv cm)) a1 b1
theorem ae {ws:List Int} {cm:Option Int} {tv cv ps:List ((List Int × Int) × V)} (h:Of ws cm tv cv []) (hp:ps.Perm cv) (hs:ps.Pairwise fun x y=>(Bk ws (qv cm)).idxOf x.1 <= (Bk ws (qv cm)).idxOf y.1):Jn ws cm tv ps:=by
 have h':=h.perm hp
 refine ⟨h',?_⟩
 have hn:=List.pairwise_map.mp h'.nd
 refine List.Pairwise.imp_of_mem (fun {x y} hx hy z=>?_) (hs.and hn)
 have cA:=(h'.ent x hx).1.1
 have eA:=(h'.ent y hy).1.1
 rw [N7 (Fk ws (qv cm)) cA eA]
 refine decide_eq_true (Nat.lt_of_le_of_ne z.1 fun e=>z.2 ?_)
 have lx:=List.idxOf_lt_length_of_mem cA
 have ly:=List.idxOf_lt_length_of_mem eA
 rw [<- List.getElem_idxOf lx,<- List.getElem_idxOf ly]
 congr 1
theorem La {H:Hp}:∀ {ps:List ((List Int × Int) × V)} {us:List V},Paired (Z5 H) ps us -> An (Z5 H) ps us
 | _,_,.nil=>An.nil
 | _,_,.cons r t=>An.cons r (La t)
theorem k9 {i:Nat} {v:V} {σ:L2.St} {H:Hp} {Q:L2.St -> Hp -> Prop} (h:Q (List.set σ i (some v)) H):Fw i v σ H Q:=h
theorem ni {c:TT} {tb u:TS} {D:Ha} {σ:L2.St} {H:Hp} (h:Ps c tb { D with nx:=u D } σ H):n8 (Ps c tb) u D σ H:=h
theorem Ww (xs:List Int) (m n:Nat):(Gu xs (some (m:Int)) (some (n:Int))).length = min n xs.length - min m xs.length:=by
 unfold Gu
 rw [List.length_take,List.length_drop,HT.cP,HT.cP]
 omega
theorem Nf {w:Int} {tv:List ((List Int × Int) × V)} (h:C0 [w] none tv):∀ (n:Nat) (k:List Int × Int) (m:Int),m <= n -> Ad tv k = some (.int m) -> False
 | 0,k,m,hm,hv=>by
  obtain ⟨m0,e,h1,_⟩ := h.1 k _ hv
  cases e
  omega
 | n + 1,k,m,hm,hv=>by
  obtain ⟨m0,e,h1,gB,p1,_⟩ := h.1 k _ hv
  cases e
  obtain ⟨g1,g2,g3,g4⟩ := F9 gB
  obtain ⟨l,q⟩ := k
  match l,g1 with
  | [x],_ =>
   have hx:1 <= x /\ x <= w:=g2 0 (by simp)
   have eb:B7 [w] [x] none q 0 = [some ([w],max (q - 1) 0)]:=by
    have hw:¬ (0:Int) ∈ [w]:=by
     intro z
     have:=List.mem_singleton.mp z
     omega
    show [Dv [w] [x] none q 0 false] = _
    unfold Dv
    rw [show Bb [w] [x] 0 false = [w] from rfl,if_neg hw]
    rfl
   rcases p1 0 (by simp) with z | ⟨later,m',z1,z2,z3⟩
   ·have z':none ∈ B7 [w] [x] none q 0:=z
    rw [eb] at z'
    simp at z'
   ·exact Nf h n later m' (by omega) z2
theorem Qv {w c:Int} {tv:List ((List Int × Int) × V)} (hw:2 <= w) (hc:1 <= c) (h:C0 [w] (some c) tv):∀ (n:Nat) (k:List Int × Int) (m:Int),m <= n -> Ad tv k = some (.int m) -> k = ([1],0)
 | 0,k,m,hm,hv=>by
  obtain ⟨m0,e,h1,_⟩ := h.1 k _ hv
  cases e
  omega
 | n + 1,k,m,hm,hv=>by
  obtain ⟨m0,e,h1,gB,p1,_⟩ := h.1 k _ hv
  cases e
  obtain ⟨g1,g2,g3,g4⟩ := F9 gB
  obtain ⟨l,q⟩ := k
  match l,g1 with
  | [x],_ =>
   have hx:1 <= x /\ x <= w:=g2 0 (by simp)
   have MD:0 <= q:=g3
   have e1:Dv [w] [x] (some c) q 0 false = some ([w],max (q - 1) 0):=by
    have MM:¬ (0:Int) ∈ [w]:=by
     intro z
     have:=List.mem_singleton.mp z
     omega
    unfold Dv
    rw [show Bb [w] [x] 0 false = [w] from rfl,if_neg MM]
    rfl
   have e2:Dv [w] [x] (some c) q 0 true = if x = 1 then none else some ([x - 1],c):=by
    unfold Dv
    rw [show Bb [w] [x] 0 true = [x - 1] from rfl]
    by_cases z:x = 1
    ·rw [if_pos z,if_pos (by rw [z]; simp)]
    ·rw [if_neg z,if_neg (by intro y; have:=List.mem_singleton.mp y; omega)]
     rfl
   have eb:∀ o,o ∈ B7 [w] [x] (some c) q 0 -> o = some ([w],max (q - 1) 0) \/ (q = 0 /\ o = if x = 1 then none else some ([x - 1],c)):=fun o ho=>by
    unfold B7 at ho
    rw [e1,e2] at ho
    by_cases z:Kz (some c) q = true
    ·rw [if_pos z] at ho
     have hq:q = 0:=by
      unfold Kz at z
      simp at z
      exact z
     rcases List.mem_cons.mp ho with y | y
     ·exact .inl y
     ·exact .inr ⟨hq,List.mem_singleton.mp y⟩
    ·rw [if_neg z] at ho
     exact .inl (List.mem_singleton.mp ho)
   rcases p1 0 (by simp) with z | ⟨later,m',z1,z2,z3⟩
   ·rcases eb _ z with y | ⟨y1,y2⟩
    ·cases y
    ·by_cases y3:x = 1
     ·rw [y1,y3]
     ·rw [if_neg y3] at y2
      cases y2
   ·have ih:=Qv hw hc h n later m' (by omega) z2
    rcases eb _ z1 with y | ⟨y1,y2⟩
    ·rw [ih] at y
     injection y with y
     injection y with y4 y5
     injection y4 with y6
     omega
    ·by_cases y3:x = 1
     ·rw [if_pos y3] at y2
      cases y2
     ·rw [if_neg y3,ih] at y2
      injection y2 with y2
      injection y2 with y4 y5
      omega
theorem ak:1 <= sizeLine:=by decide
theorem Jn.keys {ws:List Int} {cm:Option Int} {tv ps:List ((List Int × Int) × V)} (h:Jn ws cm tv ps) (k:List Int × Int):k ∈ ps.map (·.1) ↔ Z6 ws cm tv k:=by
 constructor
 ·intro hk
  obtain ⟨kv,aS,rfl⟩ := List.mem_map.mp hk
  exact (h.1.ent kv aS).1.2.2
 ·intro r
  induction r with
  | base=>exact h.1.CM.resolve_right fun y=>by cases y
  | step _ hb hm ih =>
   obtain ⟨kv,aS,e⟩ := List.mem_map.mp ih
   obtain ⟨_,j,_,jG,hc⟩ := h.1.ent kv aS
   subst e
   have ej:=Ds.uniq hb jG
   subst ej
   obtain ⟨k',e1,z⟩ := hc _ hm
   cases e1
   exact z.resolve_right fun y=>by cases y
theorem Ji:∀ {l l':List (List Int × Int)},l.Pairwise (fun a b=>Hz (dS a) (dS b) = true) -> l'.Pairwise (fun a b=>Hz (dS a) (dS b) = true) -> (∀ a,a ∈ l ↔ a ∈ l') -> l = l'
 | [],[],_,_,_=>rfl
 | [],b :: t',_,_,h=>by have:=(h b).mpr List.mem_cons_self; cases this
 | a :: t,[],_,_,h=>by have:=(h a).mp List.mem_cons_self; cases this
 | a :: t,b :: t',h1,h2,h=>by
  obtain ⟨a1,a2⟩ := List.pairwise_cons.mp h1
  obtain ⟨b1,b2⟩ := List.pairwise_cons.mp h2
  have e:a = b:=by
   rcases List.mem_cons.mp ((h a).mp List.mem_cons_self) with z | z
   ·exact z
   ·rcases List.mem_cons.mp ((h b).mpr List.mem_cons_self) with y | y
    ·exact y.symm
    ·have u1:=b1 a z
     have u2:=a1 b y
     rw [Je u1] at u2
     cases u2
  subst e
  have na:∀ {s:List (List Int × Int)},(∀ x ∈ s,Hz (dS a) (dS x) = true) -> a ∉ s:=fun hs z=>by
   have:=hs a z
   rw [P0] at this
   cases this
  congr 1
  refine Ji a2 b2 fun x=>?_
  constructor
  ·intro hx
   rcases List.mem_cons.mp ((h x).mp (List.mem_cons_of_mem _ hx)) with z | z
   ·rw [z] at hx
    exact absurd hx (na a1)
   ·exact z
  ·intro hx
   rcases List.mem_cons.mp ((h x).mpr (List.mem_cons_of_mem _ hx)) with z | z
   ·rw [z] at hx
    exact absurd hx (na b1)
   ·exact z
theorem Z5.up {H H':Hp} {kv:(List Int × Int) × V} {u:V} (s:Ar H H') (h:Z5 H kv u):Z5 H' kv u:=by
 obtain ⟨a,b,e,h1,h2⟩ := h
 exact ⟨a,b,e,s _ _ h1,h2.up s⟩
theorem Vz {w:Int} {cm:Option Int} {tv:List ((List Int × Int) × V)} (hw:2 <= w) (hc:∀ c,cm = some c -> 1 <= c) (hr:C0 [w] cm tv):Ad tv ([w],0) = none:=by
 cases e:Ad tv ([w],0) with
 | none=>rfl
 | some v =>
  obtain ⟨m,e1,_⟩ := hr.1 _ _ e
  subst e1
  cases cm with
  | none=>exact (Nf hr m.toNat _ m (by omega) e).elim
  | some c =>
   have:=Qv hw (hc c rfl) hr m.toNat _ m (by omega) e
   injection this with t1 t2
   injection t1 with t3
   omega
theorem Yy {kvs:List ((List Int × Int) × V)} {k:List Int × Int} {v:V} (h:Ad kvs k = some v):k ∈ kvs.map (·.1):=by
 unfold Ad at h
 obtain ⟨p,hp,_⟩ := Option.map_eq_some_iff.mp h
 have h1:=List.find?_some hp
 have h2:=List.mem_of_find?_eq_some hp
 have h3:p.1 = k:=by simpa using h1
 rw [<- h3]
 exact List.mem_map_of_mem h2
theorem J5:∀ (qs kvs:List ((List Int × Int) × V)),((kvs ++ qs).map (·.1)).Nodup -> Df kvs qs = kvs ++ qs
 | [],kvs,_=>(List.append_nil _).symm
 | p :: qs,kvs,h=>by
  have fJ:p.1 ∉ kvs.map (·.1):=fun z=>by
   rw [List.map_append,List.map_cons] at h
   exact (List.nodup_append.mp h).2.2 _ z _ List.mem_cons_self rfl
  have hv:Ad kvs p.1 = none:=by
   cases e:Ad kvs p.1 with
   | none=>rfl
   | some v=>exact absurd (Yy e) fJ
  show Df (Bl kvs p.1 p.2) qs = _
  rw [Dp p.2 hv,J5 qs _ (by rw [List.append_assoc]; exact h),List.append_assoc]
  rfl
theorem Ij {α:Type} {xs:List α} {i:Nat} {x:α} (h:xs[i]? = some x):xs.take (i + 1) = xs.take i ++ [x]:=by
 rw [List.take_add_one,h]
 rfl
theorem Nm {ws:List Int} {cm:Option Int} {tv bQ:List ((List Int × Int) × V)} (h:C0 ws cm tv) (h':C0 ws cm bQ):∀ (n:Nat) (k:List Int × Int) (m:Int),m <= n -> Ad tv k = some (.int m) -> (Ad bQ k).isSome = true
 | 0,k,m,hm,hk=>by
  obtain ⟨m0,e,h1,_⟩ := h.1 k _ hk
  cases e
  omega
 | n + 1,k,m,hm,hk=>by
  obtain ⟨m0,e,h1,gB,p1,_⟩ := h.1 k _ hk
  cases e
  cases hv:Ad bQ k with
  | some v=>rfl
  | none =>
   obtain ⟨who,y1,y2,y3⟩ := h'.2 k gB hv
   rcases p1 who y1 with z | ⟨later,m',z1,z2,z3⟩
   ·exact absurd z y2
   ·have:=Nm h h' n later m' (by omega) z2
    rw [y3 later z1] at this
    cases this
theorem Gk {ws:List Int} {cm:Option Int}:∀ (n:Nat) {tv bQ:List ((List Int × Int) × V)},C0 ws cm tv -> C0 ws cm bQ -> ∀ (k:List Int × Int) (m:Int),m <= n -> Ad tv k = some (.int m) -> Ad bQ k = some (.int m)
 | 0,tv,bQ,h,h',k,m,hm,hv=>by
  obtain ⟨m0,e,h1,_⟩ := h.1 k _ hv
  cases e
  omega
 | n + 1,tv,bQ,h,h',k,m,hm,hv=>by
  have ih1:=@Gk ws cm n tv bQ h h'
  have ih2:=@Gk ws cm n bQ tv h' h
  obtain ⟨m0,e,h1,gB,p1,p2⟩ := h.1 k _ hv
  cases e
  have hs:(Ad bQ k).isSome = true:=Nm h h' m.toNat k m (by omega) hv
  obtain ⟨v',uo⟩ := Option.isSome_iff_exists.mp hs
  obtain ⟨m',e',g1,_,q1,q2⟩ := h'.1 k _ uo
  subst e'
  have hle:m' <= m:=by
   rcases q2 with e | ⟨who,y1,y2,y3⟩
   ·omega
   ·rcases p1 who y1 with z | ⟨later,ml,z1,z2,z3⟩
    ·exact absurd z y2
    ·have:=y3 later ml z1 (ih1 later ml (by omega) z2)
     omega
  rcases Int.lt_or_eq_of_le hle with z | z
  ·have:=ih2 k m' (by omega) uo
   rw [hv] at this
   cases this
   omega
  ·rw [uo,z]
theorem V2 {ws:List Int} {cm:Option Int} {tv bQ:List ((List Int × Int) × V)} (h:C0 ws cm tv) (h':C0 ws cm bQ) (k:List Int × Int):Ad tv k = Ad bQ k:=by
 cases e:Ad tv k with
 | some v =>
  obtain ⟨m,e1,h1,_⟩ := h.1 k v e
  subst e1
  exact (Gk m.toNat h h' k m (by omega) e).symm
 | none =>
  cases e2:Ad bQ k with
  | none=>rfl
  | some v =>
   obtain ⟨m,e1,h1,_⟩ := h'.1 k v e2
   subst e1
   have:=Gk m.toNat h' h k m (by omega) e2
   rw [e] at this
   cases this
theorem bo {tv bQ:List ((List Int × Int) × V)} (h:∀ k,Ad tv k = Ad bQ k):told tv = told bQ:=by
 funext o
 cases o with
 | none=>rfl
 | some b =>
  show Jk (Ad tv b) = Jk (Ad bQ b)
  rw [h b]
theorem Z2 {tv bQ:List ((List Int × Int) × V)} (h:∀ k,Ad tv k = Ad bQ k) (ws ls:List Int) (cm:Option Int) (q:Int) (who:Nat):Fs tv ws ls cm q who = Fs bQ ws ls cm q who:=by
 unfold Fs
 rw [bo h]
theorem Z6.to {ws:List Int} {cm:Option Int} {tv bQ:List ((List Int × Int) × V)} (h:∀ k,Ad tv k = Ad bQ k) {k:List Int × Int} (r:Z6 ws cm tv k):Z6 ws cm bQ k:=by
 induction r with
 | base=>exact .base
 | step _ hb hm ih =>
  refine .step ih ?_ hm
  rw [show (fun i=>Fs bQ ws _ cm _ i) = (fun i=>Fs tv ws _ cm _ i) from funext fun i=>(Z2 h ws _ cm _ i).symm]
  exact hb
theorem Jn.uniq {ws:List Int} {cm:Option Int} {tv bQ ps FJ:List ((List Int × Int) × V)} (hr:C0 ws cm tv) (hr':C0 ws cm bQ) (h:Jn ws cm tv ps) (h':Jn ws cm bQ FJ):ps = FJ:=by
 have hv:=V2 hr hr'
 have hk:ps.map (·.1) = FJ.map (·.1):=Ji (List.pairwise_map.mpr h.2) (List.pairwise_map.mpr h'.2) fun a=>by
  rw [h.keys,h'.keys]
  exact ⟨Z6.to hv,Z6.to fun k=>(hv k).symm⟩
 apply List.ext_getElem?
 intro i
 have hi:=congrArg (fun l=>l[i]?) hk
 simp only [List.getElem?_map] at hi
 cases e:ps[i]? with
 | none =>
  rw [e] at hi
  cases e2:FJ[i]? with
  | none=>rfl
  | some _=>rw [e2] at hi; cases hi
 | some kv =>
  rw [e] at hi
  cases e2:FJ[i]? with
  | none=>rw [e2] at hi; cases hi
  | some kv' =>
   rw [e2] at hi
   obtain ⟨k1,v1⟩ := kv
   obtain ⟨k2,v2⟩ := kv'
   have ek:k1 = k2:=by injection hi
   subst ek
   obtain ⟨_,j,ej,hb,_⟩ := h.1.ent _ (List.mem_of_getElem? e)
   obtain ⟨_,j',ej',gP,_⟩ := h'.1.ent _ (List.mem_of_getElem? e2)
   have jG:Ds (fun i=>Fs tv ws k1.1 cm k1.2 i) ws.length j':=by
    rw [show (fun i=>Fs tv ws k1.1 cm k1.2 i) = (fun i=>Fs bQ ws k1.1 cm k1.2 i) from funext fun i=>Z2 hv ws _ cm _ i]
    exact gP
   have e3:=Ds.uniq hb jG
   have FK:v1 = .int (j:Int):=ej
   have ej3:v2 = .int (j':Int):=ej'
   rw [FK,ej3,e3]
theorem Y8 {α:Type} {H:Hp} {P:α -> V -> Prop} {d:α -> PyData} (hd:∀ r v,P r v -> Rp H (d r) v):∀ {rs:List α} {us:List V},An P rs us -> aN H (rs.map d) us
 | [],us,h=>by
  have:us = []:=List.length_eq_zero_iff.mp h.1
  rw [this]
  unfold aN
  rfl
 | r :: rs,[],h=>by have:=h.1; simp at this
 | r :: rs,u :: us,h=>by
  show aN H (d r :: rs.map d) (u :: us)
  unfold aN
  refine ⟨u,us,rfl,hd r u (h.2 0 r u rfl rfl),Y8 hd ⟨by simpa using h.1,fun i r' v' e1 e2=>h.2 (i + 1) r' v' (by simpa using e1) (by simpa using e2)⟩⟩
theorem Tx {ws:List Int} {cm:Option Int} {tv bQ:List ((List Int × Int) × V)} (h:C0 ws cm tv) (h':C0 ws cm bQ) (e:(Ad tv (ws,0)).isSome = true) (e':Ad bQ (ws,0) = none):False:=by
 rw [V2 h h',e'] at e
 cases e
theorem Y6 {H:Hp} {b:Addr} {k:List Int × Int} (h:E9 H b k):Rp H (dS k) (.ref b):=by
 obtain ⟨u,h1,h2⟩ := h
 exact Uy h1 (cj h2) (by unfold Rp; rfl)
def Cm (ws:List Int) (cm:Option Int) (js:List Nat):List Int × Int:=js.foldl (fun st j=>(Bb ws st.1 j false,Dc cm st.2 false)) (ws,0)
theorem G9 {ws:List Int} {cm:Option Int} {js:List Nat} {j:Nat}:Cm ws cm (js ++ [j]) = (Bb ws (Cm ws cm js).1 j false,Dc cm (Cm ws cm js).2 false):=by
 unfold Cm
 rw [List.foldl_append]
 rfl
theorem N3 {ws:List Int} {cm:Option Int}:∀ (js:List Nat) (st:List Int × Int),st.2 = 0 -> (js.foldl (fun st j=>(Bb ws st.1 j false,Dc cm st.2 false)) st).2 = 0
 | [],_,h=>h
 | j :: js,st,h=>N3 js _ (by
  show max (st.2 - 1) 0 = 0
  rw [h]
  decide)
theorem Yr {ws:List Int} {cm:Option Int} (js:List Nat):(Cm ws cm js).2 = 0:=N3 js _ rfl
structure Rv (ws:List Int) (cm:Option Int) (ps:List ((List Int × Int) × V)) (js:List Nat):Prop where
 wg:∀ i j,js[i]? = some j -> Ad ps (Cm ws cm (js.take i)) = some (.int (j:Nat))
 CN:∀ i i',i < i' -> i' < js.length -> Cm ws cm (js.take i) ≠ Cm ws cm (js.take i')
def Z7 (ws:List Int) (cm:Option Int) (ps:List ((List Int × Int) × V)) (lead row:List Nat):Prop:=Rv ws cm ps (lead ++ row) /\ 0 < row.length /\ Cm ws cm (lead ++ row) = Cm ws cm lead
theorem Rv.pre {ws:List Int} {cm:Option Int} {ps:List ((List Int × Int) × V)} {js ks:List Nat} (h:Rv ws cm ps js) (g:Rv ws cm ps ks):∀ n,n <= js.length -> n <= ks.length -> js.take n = ks.take n:=fun n=>by
 induction n with
 | zero=>intro _ _; rfl
 | succ n ih =>
  intro h1 h2
  have e:=ih (by omega) (by omega)
  have a1:js[n]? = some (js[n]'(by omega)):=List.getElem?_eq_getElem _
  have a2:ks[n]? = some (ks[n]'(by omega)):=List.getElem?_eq_getElem _
  have b1:=h.wg n _ a1
  have b2:=g.wg n _ a2
  rw [e,b2] at b1
  injection b1 with z
  injection z with z
  have z':ks[n]'(by omega) = js[n]'(by omega):=by omega
  rw [List.take_add_one,List.take_add_one,a1,a2,e,z']
theorem Z7.le {ws:List Int} {cm:Option Int} {ps:List ((List Int × Int) × V)} {lead row bM gL:List Nat} (h:Z7 ws cm ps lead row) (g:Z7 ws cm ps bM gL):(bM ++ gL).length <= (lead ++ row).length:=by
 apply Classical.byContradiction
 intro hn
 obtain ⟨h1,h2,h3⟩ := h
 obtain ⟨g1,_,_⟩ := g
 have hl:(lead ++ row).length = lead.length + row.length:=List.length_append
 have e1:=h1.pre g1 (lead ++ row).length (Nat.le_refl _) (by omega)
 have e2:=h1.pre g1 lead.length (by omega) (by omega)
 rw [List.take_length] at e1
 rw [List.take_left' rfl] at e2
 have a:=congrArg (Cm ws cm) e1
 have b:=congrArg (Cm ws cm) e2
 exact g1.CN lead.length (lead ++ row).length (by omega) (by omega) (b.symm.trans (h3.symm.trans a))
theorem Z7.uniq {ws:List Int} {cm:Option Int} {ps:List ((List Int × Int) × V)} {lead row bM gL:List Nat} (h:Z7 ws cm ps lead row) (g:Z7 ws cm ps bM gL):lead = bM /\ row = gL:=by
 have hl:(lead ++ row).length = (bM ++ gL).length:=Nat.le_antisymm (g.le h) (h.le g)
 have e:lead ++ row = bM ++ gL:=by
  have:=h.1.pre g.1 (lead ++ row).length (Nat.le_refl _) (by omega)
  rw [List.take_length,hl,List.take_length] at this
  exact this
 obtain ⟨h1,h2,h3⟩ := h
 obtain ⟨g1,g2,g3⟩ := g
 have a1:(lead ++ row).take lead.length = lead:=List.take_left' rfl
 have a2:(bM ++ gL).take bM.length = bM:=List.take_left' rfl
 have b1:(lead ++ row).length = lead.length + row.length:=List.length_append
 have b2:(bM ++ gL).length = bM.length + gL.length:=List.length_append
 have s:Cm ws cm ((lead ++ row).take lead.length) = Cm ws cm ((lead ++ row).take bM.length):=by
  rw [a1,e,a2,<- g3,<- e,h3]
 have hk:lead.length = bM.length:=by
  rcases Nat.lt_trichotomy lead.length bM.length with z | z | z
  ·exact absurd s (h1.CN _ _ z (by omega))
  ·exact z
  ·exact absurd s.symm (h1.CN _ _ z (by omega))
 exact List.append_inj e hk
def Za (ws:List Int) (cm:Option Int) (ps:List ((List Int × Int) × V)):Prop:=(Ad ps (ws,0)).isSome = true /\ ∀ st v,Ad ps st = some v -> st.1.length = ws.length /\ (∀ i,i < ws.length -> 1 <= st.1.getD i 0 /\ st.1.getD i 0 <= ws.getD i 0) /\ ∃ j:Nat,v = .int (j:Nat) /\ j < ws.length /\ (0:Int) ∉ Bb ws st.1 j false /\ (Ad ps (Bb ws st.1 j false,Dc cm st.2 false)).isSome = true
theorem Na {ws:List Int} {cm:Option Int} {tv ps:List ((List Int × Int) × V)} (h:Jn ws cm tv ps):Za ws cm ps:=by
 have iU:∀ k,k ∈ ps.map (·.1) -> (Ad ps k).isSome = true:=fun k hk=>by
  cases e:Ad ps k with
  | some v=>rfl
  | none=>exact absurd hk (Ik e)
 refine ⟨iU _ (h.1.CM.resolve_right fun y=>by cases y),fun st v hv=>?_⟩
 obtain ⟨kv,aS,e⟩ := List.mem_map.mp (Pt hv)
 subst e
 have h2:=Cf h.1.nd (show (kv.1,kv.2) ∈ ps from aS)
 rw [h2] at hv
 have ev:=Option.some.inj hv
 obtain ⟨⟨gB,_,_⟩,j,ej,hb,hc⟩ := h.1.ent kv aS
 obtain ⟨g1,g2,g3,g4⟩ := F9 gB
 obtain ⟨k',e1,z⟩ := hc _ (show Dv ws kv.1.1 cm kv.1.2 j false ∈ B7 ws kv.1.1 cm kv.1.2 j from List.mem_cons_self)
 obtain ⟨a1,a2⟩ := Q6 e1
 refine ⟨g1,g2,j,by rw [<- ev]; exact ej,hb.1,a1,?_⟩
 rw [<- a2]
 exact iU _ (z.resolve_right fun y=>by cases y)
theorem Rv.in' {ws:List Int} {cm:Option Int} {ps:List ((List Int × Int) × V)} {js:List Nat} (h:Rv ws cm ps js) (hc:Za ws cm ps):∀ n,n <= js.length -> (Ad ps (Cm ws cm (js.take n))).isSome = true:=fun n=>by
 induction n with
 | zero=>intro _; exact hc.1
 | succ n ih =>
  intro hn
  have a1:js[n]? = some (js[n]'(by omega)):=List.getElem?_eq_getElem _
  have b1:=h.wg n _ a1
  obtain ⟨_,_,j,ej,hj,hz,hs⟩ := hc.2 _ _ b1
  have e:j = js[n]'(by omega):=by
   injection ej with z
   omega
  rw [List.take_add_one,a1]
  show (Ad ps (Cm ws cm (js.take n ++ [js[n]'(by omega)]))).isSome = true
  rw [G9,<- e]
  exact hs
theorem Rv.CF {ws:List Int} {cm:Option Int} {ps:List ((List Int × Int) × V)} {js:List Nat} (h:Rv ws cm ps js):js.length <= ps.length:=by
 have hn:((List.range js.length).map fun i=>Cm ws cm (js.take i)).Nodup:=by
  rw [List.nodup_iff_pairwise_ne,List.pairwise_map]
  refine List.Pairwise.imp_of_mem (fun {a b} ha hb vD=>?_) (List.pairwise_lt_range (n:=js.length))
  exact h.CN a b vD (List.mem_range.mp hb)
 have h1:=List.Nodup.length_le_of_subset hn (show _ ⊆ ps.map (·.1) from fun k hk=>by
  obtain ⟨i,hi,rfl⟩ := List.mem_map.mp hk
  have fH:=List.mem_range.mp hi
  exact Pt (h.wg i _ (List.getElem?_eq_getElem fH)))
 rw [List.length_map,List.length_map,List.length_range] at h1
 exact h1
theorem Rv.nil {ws:List Int} {cm:Option Int} {ps:List ((List Int × Int) × V)}:Rv ws cm ps []:=⟨fun i j h=>by simp at h,fun i i' _ h=>absurd h (Nat.not_lt_zero _)⟩
theorem Rv.snoc {ws:List Int} {cm:Option Int} {ps:List ((List Int × Int) × V)} {js:List Nat} {j:Nat} (h:Rv ws cm ps js) (hv:Ad ps (Cm ws cm js) = some (.int (j:Nat))) (hd:∀ i,i < js.length -> Cm ws cm (js.take i) ≠ Cm ws cm js):Rv ws cm ps (js ++ [j]):=by
 have tk:∀ i,i <= js.length -> (js ++ [j]).take i = js.take i:=fun i hi=>List.take_append_of_le_length hi
 refine ⟨fun i j' e=>?_,fun i i' hi fH=>?_⟩
 ·rcases Nat.lt_or_ge i js.length with z | z
  ·rw [List.getElem?_append_left z] at e
   rw [tk i (by omega)]
   exact h.wg i j' e
  ·rw [List.getElem?_append_right z] at e
   have hz:i - js.length = 0:=by
    rcases Nat.eq_zero_or_pos (i - js.length) with y | y
    ·exact y
    ·rw [List.getElem?_eq_none (show 1 <= i - js.length from y)] at e
     cases e
   rw [hz] at e
   have ej:j' = j:=(Option.some.inj e).symm
   have hi:i = js.length:=by omega
   subst hi
   rw [tk _ (Nat.le_refl _),List.take_length,ej]
   exact hv
 ·rw [List.length_append,List.length_singleton] at fH
  rw [tk i (by omega),tk i' (by omega)]
  rcases Nat.lt_or_ge i' js.length with z | z
  ·exact h.CN i i' hi z
  ·have e:i' = js.length:=by omega
   rw [e,List.take_length]
   exact hd i (by omega)
def Ho (ws:List Int) (cm:Option Int) (js:List Nat) (kvs:List ((List Int × Int) × V)):Prop:=(∀ i,i < js.length -> Ad kvs (Cm ws cm (js.take i)) = some (.int (i:Nat))) /\ ∀ k v,Ad kvs k = some v -> ∃ i:Nat,i < js.length /\ k = Cm ws cm (js.take i) /\ v = .int (i:Nat)
theorem Ho.nil {ws:List Int} {cm:Option Int}:Ho ws cm [] []:=⟨fun i h=>absurd h (Nat.not_lt_zero _),fun k v h=>by rw [Yz] at h; cases h⟩
theorem Ho.put {ws:List Int} {cm:Option Int} {js:List Nat} {j:Nat} {kvs:List ((List Int × Int) × V)} (h:Ho ws cm js kvs) (hn:Ad kvs (Cm ws cm js) = none):Ho ws cm (js ++ [j]) (Bl kvs (Cm ws cm js) (.int (js.length:Nat))):=by
 have tk:∀ i,i <= js.length -> (js ++ [j]).take i = js.take i:=fun i hi=>List.take_append_of_le_length hi
 have hl:(js ++ [j]).length = js.length + 1:=by rw [List.length_append]; rfl
 refine ⟨fun i hi=>?_,fun k v hv=>?_⟩
 ·rw [tk i (by omega),E8]
  rcases Nat.lt_or_ge i js.length with z | z
  ·have h1:=h.1 i z
   rw [if_neg (fun e=>by rw [e,hn] at h1; cases h1)]
   exact h1
  ·have e:i = js.length:=by omega
   rw [e,List.take_length,if_pos rfl]
 ·rw [E8] at hv
  by_cases z:k = Cm ws cm js
  ·rw [if_pos z] at hv
   refine ⟨js.length,by omega,?_,(Option.some.inj hv).symm⟩
   rw [tk _ (Nat.le_refl _),List.take_length]
   exact z
  ·rw [if_neg z] at hv
   obtain ⟨i,h1,h2,h3⟩ := h.2 k v hv
   exact ⟨i,by omega,by rw [tk i (by omega)]; exact h2,h3⟩
theorem Ho.new {ws:List Int} {cm:Option Int} {js:List Nat} {kvs:List ((List Int × Int) × V)} (h:Ho ws cm js kvs) (hn:Ad kvs (Cm ws cm js) = none):∀ i,i < js.length -> Cm ws cm (js.take i) ≠ Cm ws cm js:=fun i hi e=>by
 have:=h.1 i hi
 rw [e,hn] at this
 cases this
def B6 (js:List Nat):List V:=js.map fun (j:Nat)=>V.int (j:Int)
theorem Gi (js:List Nat):B6 js = (js.map fun (j:Nat)=>(j:Int)).map V.int:=by
 unfold B6
 rw [List.map_map]
 rfl
theorem Vy {ws:List Int} {cm:Option Int} {js:List Nat} {k:Nat} (hk:k < ws.length):∀ n m,n + m <= js.length -> (Cm ws cm (js.take n)).1.length = ws.length -> (∀ i,i < m -> js[n + i]? ≠ some k) -> (Cm ws cm (js.take (n + m))).1.length = ws.length /\ (Cm ws cm (js.take (n + m))).1.getD k 0 = (Cm ws cm (js.take n)).1.getD k 0 - (m:Int):=fun n m=>by
 induction m with
 | zero =>
  intro _ hl _
  exact ⟨hl,by show _ = _ - (0:Int); rw [Int.sub_zero]; rfl⟩
 | succ m ih =>
  intro h1 hl h2
  obtain ⟨a,b⟩ := ih (by omega) hl fun i hi=>h2 i (by omega)
  have a1:js[n + m]? = some (js[n + m]'(by omega)):=List.getElem?_eq_getElem _
  have ne:js[n + m]'(by omega) ≠ k:=fun e=>h2 m (by omega) (by rw [a1,e])
  rw [<- Nat.add_assoc,List.take_add_one,a1]
  show (Cm ws cm (js.take (n + m) ++ [js[n + m]'(by omega)])).1.length = ws.length /\ (Cm ws cm (js.take (n + m) ++ [js[n + m]'(by omega)])).1.getD k 0 = _
  rw [G9]
  refine ⟨(show (Bb ws (Cm ws cm (js.take (n + m))).1 (js[n + m]'(by omega)) false).length = ws.length from (Ff _ _ _ _).trans a),?_⟩
  show (Bb ws (Cm ws cm (js.take (n + m))).1 (js[n + m]'(by omega)) false).getD k 0 = _
  rw [Ou (by omega),if_neg (fun z=>ne z.1.symm),b]
  omega
def jh (ws:List Int):Prop:=0 < ws.length /\ ws.length <= 3 /\ (∀ x ∈ ws,1 <= x /\ x <= 128) /\ Am 1 ws <= 128
theorem ng {x:Int} (h:1 <= x /\ x <= 128):jh [x]:=⟨by simp,by simp,(fun y hy=>by cases List.mem_singleton.mp hy; exact h),by show 1 * x <= 128; omega⟩
theorem nh {x y a b:Int} (h1:1 <= x /\ x <= a) (h2:1 <= y /\ y <= b) (ha:a <= 128) (hb:b <= 128) (h:a * b <= 128):jh [x,y]:=by
 refine ⟨by simp,by simp,fun z hz=>?_,?_⟩
 ·have:z = x \/ z = y:=by simpa using hz
  rcases this with e | e <;> subst e <;> omega
 ·show 1 * x * y <= 128
  have:=Int.mul_le_mul h1.2 h2.2 (by omega) (by omega)
  rw [Int.one_mul]
  omega
theorem Wn {x y z a b c:Int} (h1:1 <= x /\ x <= a) (h2:1 <= y /\ y <= b) (h3:1 <= z /\ z <= c) (ha:a <= 128) (hb:b <= 128) (hc:c <= 128) (h:a * b * c <= 128):jh [x,y,z]:=by
 refine ⟨by simp,by simp,fun u hu=>?_,?_⟩
 ·have:u = x \/ u = y \/ u = z:=by simpa using hu
  rcases this with e | e | e <;> subst e <;> omega
 ·show 1 * x * y * z <= 128
  have e1:=Int.mul_le_mul h1.2 h2.2 (by omega) (by omega)
  have e2:=Int.mul_le_mul e1 h3.2 (by omega) (Int.mul_nonneg (by omega) (by omega))
  rw [Int.one_mul]
  omega
theorem jh.eU {ws:List Int} (h:jh ws):Du ws none /\ ∀ d R:Int,1 <= d -> d + 1 <= R -> R <= 128 -> R * Am 1 ws <= 128 -> 0 <= Am 1 ws -> Du ws (some d):=by
 obtain ⟨h1,h2,h3,h4⟩ := h
 refine ⟨⟨fun w hw=>by have:=h3 w hw; omega,(fun c e=>by cases e),h1,by omega,?_⟩,fun d R hd hr hR hp h0=>⟨fun w hw=>by have:=h3 w hw; omega,(fun c e=>by cases e; omega),h1,by omega,?_⟩⟩
 ·show Am 1 ws <= 3000
  omega
 ·show Am (d + 1) ws <= 3000
  have e:=Le (d + 1) ws 1
  rw [Int.mul_one] at e
  rw [e]
  have:=Int.mul_le_mul_of_nonneg_right hr h0
  omega
theorem Lk {n P:Int} (hP:1 <= P):n / P * P <= n:=Int.ediv_mul_le n (by omega)
theorem R9 (q x:Int) (xs:List Int) (i:Nat):Am q (xs.take i ++ x :: xs.drop i) = Am q xs * x:=by
 have e:Am q (xs.take i ++ x :: xs.drop i) = Am (Am q (xs.take i) * x) (xs.drop i):=by
  unfold Am
  rw [List.foldl_append]
  rfl
 have e2:Am q xs = Am (Am q (xs.take i)) (xs.drop i):=by
  unfold Am
  rw [<- List.foldl_append,List.take_append_drop]
 rw [e,e2,Int.mul_comm (Am q (xs.take i)) x,Le,Int.mul_comm]
theorem Bv {a b c d A B C D:Int} (h1:1 <= a /\ a <= A) (h2:1 <= b /\ b <= B) (h3:1 <= c /\ c <= C) (h4:1 <= d /\ d <= D) (hA:A <= 8) (hB:B <= 8) (hC:C <= 8) (hD:D <= 8) (h:A * B * C * D <= 3000):Du [a,b,c,d] none:=by
 refine ⟨fun u hu=>?_,(fun c e=>by cases e),by simp,by simp,?_⟩
 ·have:u = a \/ u = b \/ u = c \/ u = d:=by simpa using hu
  rcases this with e | e | e | e <;> subst e <;> omega
 ·show 1 * a * b * c * d <= 3000
  have e1:=Int.mul_le_mul h1.2 h2.2 (by omega) (by omega)
  have n1:0 <= A * B:=Int.mul_nonneg (by omega) (by omega)
  have e2:=Int.mul_le_mul e1 h3.2 (by omega) n1
  have n2:0 <= A * B * C:=Int.mul_nonneg n1 (by omega)
  have e3:=Int.mul_le_mul e2 h4.2 (by omega) n2
  rw [Int.one_mul]
  omega
theorem V1 {ws:List Int} {cm:Option Int} {a b c:List Nat} (e:Cm ws cm a = Cm ws cm b):Cm ws cm (a ++ c) = Cm ws cm (b ++ c):=by
 unfold Cm at e ⊢
 rw [List.foldl_append,List.foldl_append,e]
theorem Zz {ws:List Int} {cm:Option Int} {ps:List ((List Int × Int) × V)} {lead row:List Nat} (h:Z7 ws cm ps lead row) (hc:Za ws cm ps) {k place:Nat} (hk:k < ws.length) (hw:1 <= ws.getD k 0) (hp:place < row.length):k ∈ ((row ++ row).drop place).take (min (ws.getD k 0).toNat row.length):=by
 apply Classical.byContradiction
 intro hn
 have qV:∀ i,i < min (ws.getD k 0).toNat row.length -> (row ++ row)[place + i]? ≠ some k:=fun i hi e=>by
  refine hn (List.mem_of_getElem? (i:=i) ?_)
  rw [List.getElem?_take,if_pos hi,List.getElem?_drop]
  exact e
 obtain ⟨h1,h2,h3⟩ := h
 have hlr:(row ++ row).length = row.length + row.length:=List.length_append
 have iU:∀ t,t <= lead.length + (row.length + row.length) -> (Ad ps (Cm ws cm ((lead ++ (row ++ row)).take t))).isSome = true:=fun t ht=>by
  have hl:(lead ++ row).length = lead.length + row.length:=List.length_append
  rcases Nat.le_total t (lead ++ row).length with z | z
  ·rw [<- List.append_assoc,List.take_append_of_le_length z]
   exact h1.in' hc t z
  ·have e : (lead ++ (row ++ row)).take t = (lead ++ row) ++ row.take (t - (lead ++ row).length) := by
    rw [<- List.append_assoc,List.take_append,List.take_of_length_le z]
   have e2:lead ++ row.take (t - (lead ++ row).length) = (lead ++ row).take (lead.length + (t - (lead ++ row).length)):=by
    rw [List.take_append,List.take_of_length_le (Nat.le_add_right _ _),Nat.add_sub_cancel_left]
   rw [e,V1 h3,e2]
   exact h1.in' hc _ (by omega)
 have pos:∀ t,t <= lead.length + (row.length + row.length) -> (Cm ws cm ((lead ++ (row ++ row)).take t)).1.length = ws.length /\ 1 <= (Cm ws cm ((lead ++ (row ++ row)).take t)).1.getD k 0 /\ (Cm ws cm ((lead ++ (row ++ row)).take t)).1.getD k 0 <= ws.getD k 0:=fun t ht=>by
  obtain ⟨v,hv⟩ := Option.isSome_iff_exists.mp (iU t ht)
  obtain ⟨g1,g2,_⟩ := hc.2 _ _ hv
  exact ⟨g1,g2 k hk⟩
 have FL:(lead ++ (row ++ row)).length = lead.length + (row.length + row.length):=by rw [List.length_append,hlr]
 have jD:∀ i,(lead ++ (row ++ row))[lead.length + place + i]? = (row ++ row)[place + i]?:=fun i=>by
  rw [List.getElem?_append_right (by omega)]
  congr 1
  omega
 obtain ⟨_,d2⟩ := Vy (js:=lead ++ (row ++ row)) hk (cm:=cm) (lead.length + place) (min (ws.getD k 0).toNat row.length) (by omega) (pos _ (by omega)).1 (fun i hi=>by rw [jD i]; exact qV i hi)
 have p1:=pos (lead.length + place) (by omega)
 have p2:=pos (lead.length + place + min (ws.getD k 0).toNat row.length) (by omega)
 rcases Nat.le_total (ws.getD k 0).toNat row.length with z | z
 ·rw [Nat.min_eq_left z] at d2 p2
  omega
 ·rw [Nat.min_eq_right z] at d2
  have e:Cm ws cm ((lead ++ (row ++ row)).take (lead.length + place + row.length)) = Cm ws cm ((lead ++ (row ++ row)).take (lead.length + place)):=by
   have a1:(lead ++ (row ++ row)).take (lead.length + place + row.length) = (lead ++ row) ++ row.take place:=by
    rw [<- List.append_assoc,List.take_append,List.take_of_length_le (by rw [List.length_append]; omega),List.length_append]
    congr 2
    omega
   have a2:(lead ++ (row ++ row)).take (lead.length + place) = lead ++ row.take place:=by
    rw [List.take_append,List.take_of_length_le (Nat.le_add_right _ _),Nat.add_sub_cancel_left,List.take_append_of_le_length (by omega)]
   rw [a1,a2,V1 h3]
  rw [e] at d2
  omega
theorem Xb {i:Nat} (hi:i < 4) {x:Int} (hx:4 <= x /\ x <= 8):∃ a b c d:Int,([4,4,4,4]:List Int).set i x = [a,b,c,d] /\ Du (([4,4,4,4]:List Int).set i x) none:=by
 have h4:(1:Int) <= 4 /\ (4:Int) <= 4:=by decide
 have cA:1 <= x /\ x <= 8:=by omega
 rcases (show i = 0 \/ i = 1 \/ i = 2 \/ i = 3 by omega) with e | e | e | e <;> subst e
 ·exact ⟨x,4,4,4,rfl,Bv cA h4 h4 h4 (by decide) (by decide) (by decide) (by decide) (by decide)⟩
 ·exact ⟨4,x,4,4,rfl,Bv h4 cA h4 h4 (by decide) (by decide) (by decide) (by decide) (by decide)⟩
 ·exact ⟨4,4,x,4,rfl,Bv h4 h4 cA h4 (by decide) (by decide) (by decide) (by decide) (by decide)⟩
 ·exact ⟨4,4,4,x,rfl,Bv h4 h4 h4 cA (by decide) (by decide) (by decide) (by decide) (by decide)⟩
theorem Vm {i k:Nat} (hi:i < 4) (hk:k < 4) {x y:Int} (hx:4 <= x /\ x <= 5) (hy:4 <= y /\ y <= 5):Du ((([4,4,4,4]:List Int).set i x).set k y) none:=by
 have h4:(1:Int) <= 4 /\ (4:Int) <= 5:=by decide
 have cA:1 <= x /\ x <= 5:=by omega
 have eA:1 <= y /\ y <= 5:=by omega
 rcases (show i = 0 \/ i = 1 \/ i = 2 \/ i = 3 by omega) with e | e | e | e <;> subst e <;> rcases (show k = 0 \/ k = 1 \/ k = 2 \/ k = 3 by omega) with e | e | e | e <;> subst e <;>
  first
   | exact Bv eA h4 h4 h4 (by decide) (by decide) (by decide) (by decide) (by decide)
   | exact Bv h4 eA h4 h4 (by decide) (by decide) (by decide) (by decide) (by decide)
   | exact Bv h4 h4 eA h4 (by decide) (by decide) (by decide) (by decide) (by decide)
   | exact Bv h4 h4 h4 eA (by decide) (by decide) (by decide) (by decide) (by decide)
   | exact Bv cA eA h4 h4 (by decide) (by decide) (by decide) (by decide) (by decide)
   | exact Bv cA h4 eA h4 (by decide) (by decide) (by decide) (by decide) (by decide)
   | exact Bv cA h4 h4 eA (by decide) (by decide) (by decide) (by decide) (by decide)
   | exact Bv eA cA h4 h4 (by decide) (by decide) (by decide) (by decide) (by decide)
   | exact Bv h4 cA eA h4 (by decide) (by decide) (by decide) (by decide) (by decide)
   | exact Bv h4 cA h4 eA (by decide) (by decide) (by decide) (by decide) (by decide)
   | exact Bv eA h4 cA h4 (by decide) (by decide) (by decide) (by decide) (by decide)
   | exact Bv h4 eA cA h4 (by decide) (by decide) (by decide) (by decide) (by decide)
   | exact Bv h4 h4 cA eA (by decide) (by decide) (by decide) (by decide) (by decide)
   | exact Bv eA h4 h4 cA (by decide) (by decide) (by decide) (by decide) (by decide)
   | exact Bv h4 eA h4 cA (by decide) (by decide) (by decide) (by decide) (by decide)
   | exact Bv h4 h4 eA cA (by decide) (by decide) (by decide) (by decide) (by decide)
theorem Yg {xs:List Int} {i:Nat} {x:Int} (h:i < xs.length):(xs.set i x).getD i 0 = x:=by
 rw [List.getD_eq_getElem?_getD,List.getElem?_set_self h]
 rfl
theorem Ez (js:List Nat):(B6 js).length = js.length:=by unfold B6; rw [List.length_map]
theorem R7 (a b:List Nat):B6 a ++ B6 b = B6 (a ++ b):=by unfold B6; rw [List.map_append]
theorem W5 (js:List Nat):(B6 js).all Fm = true:=by
 rw [Gi]
 exact Gh _
theorem Xi {js:List Nat} {k:Nat}:kg (V.int (k:Int)) (B6 js) = decide (k ∈ js):=by
 rw [Gi,Hx]
 by_cases h:k ∈ js
 ·rw [decide_eq_true h,decide_eq_true (List.mem_map.mpr ⟨k,h,rfl⟩)]
 ·rw [decide_eq_false h,decide_eq_false]
  intro z
  obtain ⟨x,hx,e⟩ := List.mem_map.mp z
  have:x = k:=by omega
  exact h (this ▸ hx)
theorem Wx {xs:List V} {a b:Nat} (h:b <= xs.length):Iv xs (some (a:Int)) (some (b:Int)) = (xs.drop a).take (b - a):=by
 unfold Iv
 rw [HT.cP,HT.cP,Nat.min_eq_left h]
 rcases Nat.le_total a xs.length with z | z
 ·rw [Nat.min_eq_left z]
 ·rw [Nat.min_eq_right z,List.drop_of_length_le (Nat.le_refl _),List.drop_of_length_le z]
  simp
theorem Yt {H:Hp} {k:List Int × Int} {v:V} (h:Fr H k v):Rp H (dS k) v:=by
 obtain ⟨b,u,rfl,h1,h2⟩ := h
 exact Y6 ⟨u,h1,h2⟩
theorem Sh {w:Int} {cm:Option Int} {tv ps:List ((List Int × Int) × V)} (h:Jn [w] cm tv ps):Z7 [w] cm ps [] [0]:=by
 obtain ⟨kv,aS,e⟩ := List.mem_map.mp (h.1.CM.resolve_right fun y=>by cases y)
 obtain ⟨_,j,ej,hb,_⟩ := h.1.ent kv aS
 have hj:j < 1:=hb.1
 have e0:j = 0:=by omega
 subst e0
 have hv:Ad ps ([w],0) = some (.int ((0:Nat):Int)):=by
  rw [<- e,<- ej]
  exact Cf h.1.nd (show (kv.1,kv.2) ∈ ps from aS)
 refine ⟨⟨fun i j hi=>?_,fun i i' h1 h2=>?_⟩,by simp,rfl⟩
 ·match i,hi with
  | 0,hi =>
   have:j = 0:=(Option.some.inj hi).symm
   subst this
   exact hv
  | i + 1,hi=>cases hi
 ·have h3:i' < 1:=h2
  omega
theorem Pd {H:Hp} {p l r:Addr} {lead row:List Nat} (ep:H p = some (.tup [.ref l,.ref r])) (el:H l = some (.lst (B6 lead))) (er:H r = some (.lst (B6 row))):Rp H (dP (dL (lead.map fun (j:Nat)=>(j:Int))) (dL (row.map fun (j:Nat)=>(j:Int)))) (.ref p):=by
 rw [Gi] at el er
 exact Uy ep (Ux el) (Ux er)
theorem N0 (a b:List Int):(dP (dL a) (dL b)).depth <= 60:=by
 have h1:=Kl a
 have h2:=Kl b
 show max (dL a).depth (max (dL b).depth 0) + 1 <= 60
 omega
theorem Uh (a b:List Int):PyData.eqv (dP (dL a) (dL b)) (dP (dL a) (dL b)) = true:=by
 rw [X6,S7,S7]
 simp
def tf (D:Addr) (H H':Hp):Prop := ∀ b ob,b ≠ D -> H b = some ob -> H' b = some ob
def jo (D c:Addr) (H H':Hp):Prop := ∀ b ob,b ≠ D -> b ≠ c -> H b = some ob -> H' b = some ob
def di (ws:List Int) (cm:Option Int) (H:Hp) (kvs:List ((List Int × Int) × V)) (i:Nat) (H':Hp) (wv:List ((List Int × Int) × V)):Prop := ∀ k who later,(∃ v,(k,v) ∈ kvs.take i) -> Ap H kvs k who -> some later ∈ B7 ws k.1 cm k.2 who -> Cq H' wv later k who
def jx (ws:List Int) (cm:Option Int) (cs:List (Dh × V)) (j:Nat) (kk:List Int × Int) (H':Hp) (wv:List ((List Int × Int) × V)):Prop := ∀ who later,(∃ e ∈ cs.take j,e.1 = .inl ((who:Nat):Int)) -> some later ∈ B7 ws kk.1 cm kk.2 who -> Cq H' wv later kk who
def Ze (kvs:List ((List Int × Int) × V)) (H' H:Hp):Prop := ∀ k who,Ap H' kvs k who -> Ap H kvs k who
def d7 (ws:List Int) (cm:Option Int) (kvs:List ((List Int × Int) × V)) (bK:List (List Int × Int)) (i:Nat) (H H':Hp):Prop := ∀ k who,Ap H kvs k who -> (∀ later ∈ bK.take i,some later ∉ B7 ws k.1 cm k.2 who) -> Ap H' kvs k who
def d8 (ws:List Int) (cm:Option Int) (kvs:List ((List Int × Int) × V)) (bK:List (List Int × Int)) (i:Nat) (H':Hp):Prop := ∀ later ∈ bK.take i,∀ k who,some later ∈ B7 ws k.1 cm k.2 who -> ¬ Ap H' kvs k who
def jp (kvs:List ((List Int × Int) × V)) (H H':Hp) (beta:List (List Int × Int)):Prop := ∀ k,k ∈ beta ↔ ((∃ who,Ap H kvs k who) /\ ∀ who,¬ Ap H' kvs k who)
def tm (H7:Hp) (gS:List V) (j:Nat) (H8:Hp) (kvs:List ((List Int × Int) × V)):Prop := ∀ t b who k,V.ref t ∈ gS.take j -> H7 t = some (.tup [.ref b,.int ((who:Nat):Int)]) -> E9 H7 b k -> ¬ Ap H8 kvs k who
def tj (T:Addr) (kvs:List ((List Int × Int) × V)) (H4 H':Hp):Prop := ∀ b ob,b ≠ T -> H4 b = some ob -> (∀ kv ∈ kvs,kv.2 ≠ .ref b) -> H' b = some ob
theorem Il:Az [V.bl false] [Value.bool false] := .cons rfl .nil
theorem qr {us:List Value} (h:us.length = 0):us = []:=List.length_eq_zero_iff.mp h
theorem Gb {us:List Value} (h:us.length = 1):∃ a0,us = [a0]:=by
 cases us with
 | nil=>cases h
 | cons a us =>
  obtain rfl:=qr (Nat.succ.inj h)
  exact ⟨a,rfl⟩
theorem Ty {us:List Value} (h:us.length = 2):∃ a0 a1,us = [a0,a1]:=by
 cases us with
 | nil=>cases h
 | cons a us =>
  obtain ⟨a1,rfl⟩ := Gb (Nat.succ.inj h)
  exact ⟨a,a1,rfl⟩
theorem Rk {us:List Value} (h:us.length = 3):∃ a0 a1 a2,us = [a0,a1,a2]:=by
 cases us with
 | nil=>cases h
 | cons a us =>
  obtain ⟨a1,a2,rfl⟩ := Ty (Nat.succ.inj h)
  exact ⟨a,a1,a2,rfl⟩
theorem Yx {us:List Value} (h:us.length = 4):∃ a0 a1 a2 a3,us = [a0,a1,a2,a3]:=by
 cases us with
 | nil=>cases h
 | cons a us =>
  obtain ⟨a1,a2,a3,rfl⟩ := Rk (Nat.succ.inj h)
  exact ⟨a,a1,a2,a3,rfl⟩
section
variable {P:Program} {w:World} {K:PySem.W.Frag} {mg:Str -> Option Value} {base:Heap} {ad:qt} {aA aH aB aI aD aE aF aJ aK aM aG aC:Addr}
def Pm (K:PySem.W.Frag):Sp:=fun vs H Q _=>Ma fun (a:Addr) (ws:List Int) (cm:Option Int)=>V3 (vs = [.ref a]) (B8 H a ws cm) (∀ (p:Addr) (H':Hp),Aa H H' -> Ec H' p ws 0 -> Q (.ref p) H')
theorem g8 {fd  : FuncData} (T:Txt K mg ad aA aH aB aI aD aE aF aJ aK aM aG aC) (F:Fb K "beginning" "beginning" Ny ad.cF fd):Ai P w K mg base (Bi P w) 1 ad.cF fd ["hall"] (Pm K):=by
 refine F.okN ip (fun vs H Q E h=>?_) (fun aV A outer s H vs Q E hr h=>?_)
 ·rcases h with ⟨a,ws,cm,rfl,⟨t,ha,ht⟩,q⟩ <;> rfl
 ·obtain ⟨a,ws,cm,rfl,⟨t,ha,ht⟩,q⟩ := h
  refine ⟨_,(Ab (Ak (Bt (A0 (Bg (Be K) (pv 0) A8 (fun _ _=>rfl)) (A0 A8 A7))))),?_⟩
  refine ⟨_,rfl,a,_,_,_,rfl,rfl,.inr (Cj.of ha),rfl,?_⟩
  exact ⟨Bf,fun p hp=>q p _ (Aa.upd hp) ⟨t,A5,Aa.upd hp _ _ ht⟩⟩
def Pn (K:PySem.W.Frag):Sp:=fun vs H Q _=>jm fun (a b:Addr) (ws ls:List Int) (calm:Option Int) (q:Int)=>Jm (vs = [.ref a,.ref b]) (B8 H a ws calm) (Ec H b ls q) (Q (.bl (!decide (calm = none) && decide (q = 0))) H)
theorem gd {fd  : FuncData} (T:Txt K mg ad aA aH aB aI aD aE aF aJ aK aM aG aC) (F:Fb K "may_lose" "may_lose" Nz ad.cH fd):Ai P w K mg base (Bi P w) 1 ad.cH fd ["hall","standing"] (Pn K):=by
 refine F.okN iq (fun vs H Q E h=>?_) (fun aV A outer s H vs Q E hr h=>?_)
 ·rcases h with ⟨a,b,ws,ls,calm,n,rfl,⟨t,ha,_⟩,⟨u,hb,_⟩,q⟩ <;> rfl
 ·obtain ⟨a,b,ws,ls,calm,n,rfl,⟨t,ha,_⟩,⟨u,hb,_⟩,q⟩ := h
  refine ⟨_,(Ab (Ak (P6 (Db ao (Bg (Be K) (pv 0) A8 (fun _ _=>rfl)) Cy (Bh _)) (Lb (Db Gz (Bg (Be K) (pv 1) A8 (fun _ _=>rfl)) A8 (Bh _)))))),?_⟩
  refine ⟨_,rfl,a,_,_,_,rfl,rfl,.inr (Cj.of ha),rfl,rfl,_,decide (V.int n = V.int 0),rfl,fun _ Q' z=>⟨_,rfl,b,_,_,_,rfl,rfl,.inr (Cj.of hb),rfl,rfl,z⟩,?_⟩
  have e2:decide (V.int n = V.int 0) = decide (n = 0):=by simp
  rw [jc,e2]
  exact q
def Yp (K:PySem.W.Frag):Sp:=fun vs H Q _=>cw fun (a:Addr) (ws:List Int) (calm:Option Int) (who:Int)=>V3 (vs = [.ref a,.int who]) (B8 H a ws calm) (Q (.bl (decide (0 <= who /\ who < ws.length))) H)
theorem l0 {fd  : FuncData} (T:Txt K mg ad aA aH aB aI aD aE aF aJ aK aM aG aC) (F:Fb K "is_listener" "is_listener" Wk ad.gC fd):Ai P w K mg base (Bi P w) 1 ad.gC fd ["hall","who"] (Yp K):=by
 refine F.okN ma (fun vs H Q E h=>?_) (fun aV A outer s H vs Q E hr h=>?_)
 ·rcases h with ⟨a,ws,calm,who,rfl,⟨t,bU,bZ⟩,q⟩ <;> rfl
 ·obtain ⟨a,ws,calm,who,rfl,⟨t,bU,bZ⟩,q⟩ := h
  refine ⟨_,(Ab (Ak (P6 (Db cf (pv 1) A8 (Bh _)) (Lb (Db L9 (pv 1) (Ba (C5 K) (by rfl) T.bS PySem.boot_len (A0 (Bg (Be K) (pv 0) A8 (fun _ _=>rfl)) A7)) (Bh _)))))),?_⟩
  refine ⟨_,rfl,_,_,rfl,rfl,_,decide (who < (ws.length:Int)),rfl,fun _ Q' z=>⟨_,rfl,_,rfl,a,_,_,_,rfl,rfl,.inr (Cj.of bU),rfl,t,_,rfl,.inr (Cj.of bZ),_,_,rfl,rfl,?_⟩,?_⟩
  ·rw [List.length_map]
   exact z
  ·rw [show (decide (who >= 0) && decide (who < (ws.length:Int))) = decide (0 <= who /\ who < (ws.length:Int)) by rw [Bool.decide_and]]
   exact q
def Yk (K:PySem.W.Frag):Sp:=fun vs H Q _=>cx fun (a b:Addr) (ws ls:List Int) (calm:Option Int) (q:Int) (who:Nat) (lost:Bool)=>Py (vs = [.ref a,.ref b,.int who,.bl lost]) (B8 H a ws calm) (Ec H b ls q) (who < ws.length) (Wq calm q lost) (Q .aW H)
theorem ko {fd uq fO:FuncData} (T:Txt K mg ad aA aH aB aI aD aE aF aJ aK aM aG aC) (F:Fb K "refuse_wrong_turn" "refuse_wrong_turn" Wf ad.gD fd) (wj:Ai P w K mg base (Bi P w) 1 ad.gC uq ["hall","who"] (Yp K)) (wk:Ay K uq ["hall","who"] []) (gT:Ai P w K mg base (Bi P w) 1 ad.cH fO ["hall","standing"] (Pn K)) (gU:Ay K fO ["hall","standing"] []):Ai P w K mg base (Bi P w) 2 ad.gD fd ["hall","standing","who","lost"] (Yk K):=by
 refine F.okN m7 (fun vs H Q E h=>?_) (fun aV A outer s H vs Q E hr h=>?_)
 ·rcases h with ⟨a,b,ws,ls,calm,n,who,lost,rfl,ha,hb,hw,hm,q⟩ <;> rfl
 ·obtain ⟨a,b,ws,ls,calm,n,who,lost,rfl,ha,hb,hw,hm,q⟩ := h
  refine ⟨_,(A6 (Cg (Dr (D4 (Af wj (hr.mono (by decide)) rfl T.PR T.k_x8 wk .nil B0 (A0 (pv 0) (A0 (pv 2) A7))))) (Ab Ra) As) (Ab (Cg (PW.pt (az (D4 (pv 3)) (aw (Dr (D4 (Af gT (hr.mono (by decide)) rfl T.tU T.k_x21 gU .nil B0 (A0 (pv 0) (A0 (pv 1) A7)))))))) (Ab Ra) As))),?_⟩
  obtain ⟨t,bU,bZ⟩ := id ha
  refine ⟨_,rfl,_,rfl,a,ws,calm,(who:Int),rfl,ha,_,rfl,Dk ?_ ?_⟩
  ·rw [decide_eq_true (show (0:Int) <= (who:Int) /\ (who:Int) < (ws.length:Int) by omega)]
   rfl
  refine ⟨_,rfl,_,rfl,!(!decide (calm = none) && decide (n = 0)),fun _ Q' z=>⟨_,rfl,_,rfl,a,b,ws,ls,calm,n,rfl,ha,hb,_,rfl,z⟩,Dk ?_ q⟩
  cases lost with
  | false=>rfl
  | true =>
   obtain ⟨h1,h2⟩ := hm rfl
   simp [h1,h2]
def Yq (K:PySem.W.Frag):Sp:=fun vs H Q _=>cx fun (a b:Addr) (ws ls:List Int) (calm:Option Int) (q:Int) (who:Nat) (lost:Bool)=>Z9 (vs = [.ref a,.ref b,.int who,.bl lost]) (B8 H a ws calm) (Ec H b ls q) (who < ws.length) (ls.length = ws.length) (ws.length <= 8) (Wq calm q lost) (∀ (l:Addr) (H':Hp),H l = none -> Aa H H' -> H' l = some (.lst ((Bb ws ls who lost).map V.int)) -> Q (.ref l) H')
theorem l5 {fd uu:FuncData} (T:Txt K mg ad aA aH aB aI aD aE aF aJ aK aM aG aC) (F:Fb K "left_behind" "left_behind" Sx ad.gE fd) (wm:Ai P w K mg base (Bi P w) 2 ad.gD uu ["hall","standing","who","lost"] (Yk K)) (wq:Ay K uu ["hall","standing","who","lost"] []):Ai P w K mg base (Bi P w) 3 ad.gE fd ["hall","standing","who","lost"] (Yq K):=by
 refine F.okN cp (fun vs H Q E h=>?_) (fun aV A outer s H vs Q E hr h=>?_)
 ·rcases h with ⟨a,b,ws,ls,calm,n,who,lost,rfl,ha,hb,hw,hl,h8,hm,q⟩ <;> rfl
 ·obtain ⟨a,b,ws,ls,calm,n,who,lost,rfl,ha,hb,hw,hl,h8,hm,q⟩ := h
  refine ⟨_,(A6 (Ce (Af wm (hr.mono (by decide)) rfl T.PU T.k_x2 wq .nil B0 (A0 (pv 0) (A0 (pv 1) (A0 (pv 2) (A0 (pv 3) A7)))))) (A6 (De (i:=4) cp.nd rfl (Dm (w':=Px K _) (Dn (Bg (Be K) (pv 1) A8 (fun _ _=>rfl)))) _ rfl Iu rfl rfl (fun _ _ _ _=>(Ax (i:=0) J0 rfl (Or.inl rfl))) (fun _ _ _ _=>Dy) (fun _ _ _ _=>(Al P5 (pv 0) A8)) rfl rfl) (A6 (E6 (Dr (D4 (pv 3))) (Ab (Ss (Bg (Be K) (Bg (Be K) (pv 0) A8 (fun _ _=>rfl)) (pv 2) (fun _ _=>rfl)) (Sr (pv 4) (pv 2) Ls))) As) (Ab (Ak (pv 4)))))),?_⟩
  obtain ⟨t,bU,bZ⟩ := id ha
  obtain ⟨u,kA,jG⟩ := id hb
  refine ⟨_,rfl,_,rfl,_,rfl,_,rfl,a,b,ws,ls,calm,n,who,lost,rfl,ha,hb,hw,hm,?_⟩
  refine ⟨_,rfl,b,_,_,_,rfl,rfl,.inr (Cj.of kA),rfl,u,rfl,.inr ⟨⟨_,Cj.of jG⟩,fun D hD=>?_⟩⟩
  refine Wv (K:=K) (a:=u) (xs:=ls.map V.int) (fun i ys H'=>ys = ((ls.take i).map (fun x=>x - 1)).map V.int /\ H' D = some (.lst ys) /\ Aa H H') ⟨rfl,A5,Aa.upd hD⟩ (by rintro i ys H' _ ⟨_,_,s⟩; exact Cj.of (s _ _ jG)) ?_ ?_
  ·rintro i x ys H' hx ⟨rfl,kB,s'⟩ Qe hQ
   rw [List.getElem?_map] at hx
   obtain ⟨y,hy,rfl⟩ := Option.map_eq_some_iff.mp hx
   have hi:=(List.getElem?_eq_some_iff.mp hy).1
   refine ⟨_,rfl,_,_,rfl,rfl,hQ _ _ kB (Bx (by simp; omega)) ⟨?_,A5,s'.new hD⟩⟩
   rw [List.take_add_one,hy]
   simp
  rintro ys H2 ⟨rfl,QH,s2⟩
  rw [List.length_map,List.take_length] at QH
  refine ⟨_,rfl,_,rfl,(fun σ' H'=>σ' = [some (.ref a),some (.ref b),some (.int (who:Nat)),some (.bl lost),some (.ref D)] /\ Aa H H' /\ H' D = some (.lst ((Bb ws ls who lost).map V.int))),fun e=>?_,fun e=>?_,?_⟩
  ·have e':lost = false:=by simpa using e
   subst e'
   refine ⟨_,rfl,a,_,_,_,rfl,rfl,.inr (Cj.of (s2 _ _ bU)),rfl,_,rfl,t,_,_,_,rfl,rfl,.inr (Cj.of (s2 _ _ bZ)),Uo hw,?_⟩
   refine ⟨_,rfl,_,rfl,D,_,_,_,rfl,rfl,QH,Os (by simp; omega),rfl,s2.new hD,?_⟩
   rw [A5]
   unfold Bb
   simp
  ·have e':lost = true:=by simpa using e
   subst e'
   exact ⟨rfl,s2,QH⟩
  ·rintro σ' H' ⟨rfl,s3,e3⟩
   exact ⟨_,rfl,q D H' hD s3 e3⟩
def Yn (K:PySem.W.Frag):Sp:=fun vs H Q _=>qw fun (a b:Addr) (ws ls:List Int) (calm:Option Int) (q:Int) (lost:Bool)=>Hl (vs = [.ref a,.ref b,.bl lost]) (B8 H a ws calm) (Ec H b ls q) (Wq calm q lost) (Q (.int (Dc calm q lost)) H)
theorem kx {fd  : FuncData} (T:Txt K mg ad aA aH aB aI aD aE aF aJ aK aM aG aC) (F:Fb K "quiet_behind" "quiet_behind" Wi ad.gF fd):Ai P w K mg base (Bi P w) 1 ad.gF fd ["hall","standing","lost"] (Yn K):=by
 refine F.okN m8 (fun vs H Q E h=>?_) (fun aV A outer s H vs Q E hr h=>?_)
 ·rcases h with ⟨a,b,ws,ls,calm,n,lost,rfl,⟨t,ha,_⟩,⟨u,hb,_⟩,hm,q⟩ <;> rfl
 ·obtain ⟨a,b,ws,ls,calm,n,lost,rfl,⟨t,ha,_⟩,⟨u,hb,_⟩,hm,q⟩ := h
  refine ⟨_,(A6 (Cg (D4 (pv 2)) (Ab (Ak (Bg (Be K) (pv 0) A8 (fun _ _=>rfl)))) As) (Ab (Ak (Ba (Va rfl) (by rfl) T.tY boot_max (A0 (Al P5 (Bg (Be K) (pv 1) A8 (fun _ _=>rfl)) A8) (A0 A8 A7)))))),?_⟩
  refine ⟨_,rfl,_,rfl,?_⟩
  cases lost with
  | true =>
   refine N8 rfl ?_
   refine ⟨_,rfl,a,_,_,_,rfl,rfl,.inr (Cj.of ha),rfl,?_⟩
   cases calm with
   | none=>exact absurd rfl (hm rfl).1
   | some c=>exact q
  | false =>
   refine Dk rfl ?_
   refine ⟨_,rfl,b,_,_,_,rfl,rfl,.inr (Cj.of hb),rfl,_,_,rfl,rfl,_,_,rfl,?_⟩
   have e:(if (0:Int) > n - 1 then (0:Int) else n - 1) = Dc calm n false:=by
    unfold Dc
    rw [if_neg Bool.false_ne_true]
    omega
   show Q (.int (if (0:Int) > n - 1 then (0:Int) else n - 1)) H
   rw [e]
   exact q
def Pp (K:PySem.W.Frag):Sp:=fun vs H Q _=>cx fun (a b:Addr) (ws ls:List Int) (calm:Option Int) (q:Int) (who:Nat) (lost:Bool)=>Rs (vs = [.ref a,.ref b,.int who,.bl lost]) (B8 H a ws calm) (Ec H b ls q) (who < ws.length) (ls.length = ws.length) (ws.length <= 8) (Wq calm q lost) (((0:Int) ∈ Bb ws ls who lost -> ∀ H',Aa H H' -> Q .aW H')) (((0:Int) ∉ Bb ws ls who lost -> ∀ (p:Addr) (H':Hp),Aa H H' -> Ec H' p (Bb ws ls who lost) (Dc calm q lost) -> Q (.ref p) H'))
theorem gn {fd uv uw:FuncData} (T:Txt K mg ad aA aH aB aI aD aE aF aJ aK aM aG aC) (F:Q0 K "after" "after" Fq ad.bV fd) (wu:Ai P w K mg base (Bi P w) 3 ad.gE uv ["hall","standing","who","lost"] (Yq K)) (wx:Ay K uv ["hall","standing","who","lost"] []) (wy:Ai P w K mg base (Bi P w) 1 ad.gF uw ["hall","standing","lost"] (Yn K)) (wA:Ay K uw ["hall","standing","lost"] []):Ai P w K mg base (Bi P w) 4 ad.bV fd ["hall","standing","who","lost"] (Pp K):=by
 refine F.okN Ye (fun vs H Q E h=>?_) (fun aV A outer s H vs Q E hr h=>?_)
 ·rcases h with ⟨a,b,ws,ls,calm,n,who,lost,rfl,ha,hb,hw,hl,h8,hm,q1,q2⟩ <;> rfl
 ·obtain ⟨a,b,ws,ls,calm,n,who,lost,rfl,ha,hb,hw,hl,h8,hm,q1,q2⟩ := h
  refine ⟨_,(A6 (Ah (i:=4) Ye.nd rfl (Or.inl rfl) (Af wu (hr.mono (by decide)) rfl T.PV T.k_x9 wx .nil B0 (A0 (pv 0) (A0 (pv 1) (A0 (pv 2) (A0 (pv 3) A7)))))) (A6 (Cg (Bc (Xv K) A8 (pv 4) rfl) (Ab (Ak Cy)) As) (Ab (Ak (Bt (A0 (Cc (D6 K) (by rfl) T.bI boot_tuple (A0 (pv 4) A7)) (A0 (Af wy (hr.mono (by decide)) rfl T.PX T.k_x5 wA .nil B0 (A0 (pv 0) (A0 (pv 1) (A0 (pv 3) A7)))) A7))))))),?_⟩
  refine ⟨_,rfl,_,rfl,_,rfl,_,rfl,a,b,ws,ls,calm,n,who,lost,rfl,ha,hb,hw,hl,h8,hm,fun l H1 FN s1 CJ=>?_⟩
  refine ⟨_,rfl,l,_,rfl,.inl (B9.of CJ),rfl,Gh _,_,rfl,?_⟩
  rw [Hx]
  refine Gv (fun h0=>?_) (fun h0=>?_)
  ·exact q1 (by simpa using h0) H1 s1
  ·refine ⟨_,rfl,l,_,rfl,.inl ⟨B9.of CJ,fun t ht=>?_⟩⟩
   have s2:Aa H (upd H1 t (.tup ((Bb ws ls who lost).map V.int))):=s1.new (s1.free ht)
   refine ⟨_,rfl,_,rfl,_,rfl,a,b,ws,ls,calm,n,lost,rfl,ha.same s2,hb.same s2,hm,Bf,fun p hp=>?_⟩
   refine q2 (by simpa using h0) p _ (s2.new (s2.free hp)) ⟨t,A5,?_⟩
   rw [Ac (fun e=>by rw [<- e,A5] at hp; cases hp),A5]
def Lv (K:PySem.W.Frag):Sp:=fun vs H Q _=>cx fun (a b:Addr) (ws ls:List Int) (cm:Option Int) (q w:Int) (who:Nat)=>Z9 (vs = [.ref a,.ref b,.int w]) (w = (who:Int)) (B8 H a ws cm) (Ec H b ls q) (who < ws.length) (ls.length = ws.length) (ws.length <= 8) (∀ (l:Addr) (us:List V) (H':Hp),H l = none -> Aa H H' -> H' l = some (.lst us) -> An (Hn H') (B7 ws ls cm q who) us -> Q (.ref l) H')
theorem fw {fd fO dN:FuncData} (T:Txt K mg ad aA aH aB aI aD aE aF aJ aK aM aG aC) (F:Fb K "all_behind" "all_behind" Nv ad.bW fd) (gT:Ai P w K mg base (Bi P w) 1 ad.cH fO ["hall","standing"] (Pn K)) (gU:Ay K fO ["hall","standing"] []) (fP:Ai P w K mg base (Bi P w) 4 ad.bV dN ["hall","standing","who","lost"] (Pp K)) (jH:Ay K dN ["hall","standing","who","lost"] []) (bL:Ay K dN ["hall","standing","who","lost"] [Value.bool false]):Ai P w K mg base (Bi P w) 5 ad.bW fd ["hall","standing","who"] (Lv K):=by
 refine F.okN Yb (fun vs H Q E h=>?_) (fun aV A outer s H vs Q E hr h=>?_)
 ·rcases h with ⟨a,b,ws,ls,cm,n,w0,who,rfl,rfl,ha,hb,hw,hl,h8,q⟩ <;> rfl
 ·obtain ⟨a,b,ws,ls,cm,n,w0,who,rfl,rfl,ha,hb,hw,hl,h8,q⟩ := h
  refine ⟨_,(A6 (Ah (i:=3) Yb.nd rfl (Or.inl rfl) (Cw (A0 (ap (Af fP (hr.mono (by decide)) rfl T.nB T.k_x30 bL (Il) B0 (A0 (pv 0) (A0 (pv 1) (A0 (pv 2) A7))))) A7))) (A6 (E6 (D4 (Af gT (hr.mono (by decide)) rfl T.tU T.k_x21 gU .nil B0 (A0 (pv 0) (A0 (pv 1) A7)))) (Ab (Ce (Dx (u':=Ts K _ _ _ _) (Eh PySem.F.plainAttrs_list PySem.F.slot_list_append PySem.F.type_list_append D0 (pv 3) (A0 (ap (Af fP (hr.mono (by decide)) rfl T.nB T.k_x30 jH .nil B0 (A0 (pv 0) (A0 (pv 1) (A0 (pv 2) (A0 Fo A7)))))) A7))))) As) (Ab (Ak (pv 3))))),?_⟩
  refine ⟨(fun v H9=>Hn H9 (Dv ws ls cm n who false) v /\ Aa H H9),⟨_,rfl,_,rfl,_,rfl,a,b,ws,ls,cm,n,who,false,rfl,ha,hb,hw,hl,h8,(fun z=>nomatch z),(fun hz H2 s2=>⟨by unfold Dv; rw [if_pos hz]; rfl,s2⟩),fun hz p H2 s2 dQ=>⟨by unfold Dv; rw [if_neg hz]; exact ⟨p,rfl,dQ⟩,s2⟩⟩,?_⟩
  rintro v H1 ⟨hv,s1⟩
  refine ⟨Bf,fun L hL=>?_⟩
  have s2:Aa H1 (upd H1 L (.lst [v])):=Aa.upd hL
  have e2:(upd H1 L (.lst [v])) L = some (.lst [v]):=A5
  generalize upd H1 L (.lst [v]) = H2 at s2 e2 ⊢
  have gM:=s1.trans s2
  refine ⟨_,rfl,_,rfl,a,b,ws,ls,cm,n,rfl,ha.same gM,hb.same gM,_,rfl,(fun σ' H'=>∃ (us:List V),Jm (σ' = [some (.ref a),some (.ref b),some (.int who),some (.ref L)]) (H' L = some (.lst us)) (An (Hn H') (B7 ws ls cm n who) us) (Aa H H')),fun hm=>?_,fun hm=>?_,?_⟩
  ·have kT:Kz cm n = true:=hm
   have QI:Wq cm n true:=fun _=>by
    unfold Kz at kT
    simp only [Bool.and_eq_true,Bool.not_eq_true',decide_eq_false_iff_not,decide_eq_true_eq] at kT
    exact kT
   refine ⟨_,rfl,.inl ⟨rfl,_,B9.of e2⟩,(fun v H9=>Hn H9 (Dv ws ls cm n who true) v /\ Aa H2 H9),⟨_,rfl,_,rfl,_,rfl,a,b,ws,ls,cm,n,who,true,rfl,ha.same gM,hb.same gM,hw,hl,h8,QI,(fun hz H2 s2=>⟨by unfold Dv; rw [if_pos hz]; rfl,s2⟩),fun hz p H2 s2 dQ=>⟨by unfold Dv; rw [if_neg hz]; exact ⟨p,rfl,dQ⟩,s2⟩⟩,?_⟩
   rintro v2 H3 ⟨FG,s3⟩
   have e3:=s3 _ _ e2
   have tt:Ar H3 (upd H3 L (.lst ([v] ++ [v2]))):=Ar.lst e3
   refine ⟨L,_,_,rfl,rfl,e3,Bx (by simp),[v] ++ [v2],rfl,A5,?_,(gM.trans s3).new (s1.free hL)⟩
   unfold B7
   rw [if_pos kT]
   exact An.cons (hv.up (((Ar.of s2).trans (Ar.of s3)).trans tt)) (An.one (FG.up tt))
  ·have kT : ¬ Kz cm n = true := by
    rw [show Kz cm n = false from hm]
    exact Bool.false_ne_true
   refine ⟨[v],rfl,e2,?_,gM⟩
   unfold B7
   rw [if_neg kT]
   exact An.one (hv.up (Ar.of s2))
  rintro σ' H' ⟨us,rfl,eL,hall,s'⟩
  exact ⟨_,rfl,q L us H' (s1.free hL) s' eL hall⟩
def V0 (K:PySem.W.Frag):Sp:=fun vs H Q _=>Ma fun (a:Addr) (ws:List Int) (cm:Option Int)=>V3 (vs = [.ref a]) (B8 H a ws cm) (Q (.int (qv cm)) H)
theorem ky {fd  : FuncData} (T:Txt K mg ad aA aH aB aI aD aE aF aJ aK aM aG aC) (F:Fb K "quiet_values" "quiet_values" Wj ad.fN fd):Ai P w K mg base (Bi P w) 1 ad.fN fd ["hall"] (V0 K):=by
 refine F.okN m9 (fun vs H Q E h=>?_) (fun aV A outer s H vs Q E hr h=>?_)
 ·rcases h with ⟨a,ws,cm,rfl,⟨t,bU,bZ⟩,q⟩ <;> rfl
 ·obtain ⟨a,ws,cm,rfl,⟨t,bU,bZ⟩,q⟩ := h
  refine ⟨_,(Ab (Ak (Y2 (Bc L8 (Bg (Be K) (pv 0) A8 (fun _ _=>rfl)) Cy (Bh _)) A8 (Al C7 (Bg (Be K) (pv 0) A8 (fun _ _=>rfl)) A8)))),?_⟩
  cases cm with
  | none=>exact ⟨_,rfl,a,_,_,_,rfl,rfl,.inr (Cj.of bU),rfl,rfl,_,rfl,N8 rfl q⟩
  | some c=>exact ⟨_,rfl,a,_,_,_,rfl,rfl,.inr (Cj.of bU),rfl,rfl,_,rfl,Dk rfl ⟨_,rfl,a,_,_,_,rfl,rfl,.inr (Cj.of bU),rfl,_,_,rfl,rfl,q⟩⟩
def Ti (K:PySem.W.Frag):Sp:=fun vs H Q _=>Ma fun (a:Addr) (ws:List Int) (cm:Option Int)=>Py (vs = [.ref a]) (B8 H a ws cm) ((∀ w ∈ ws,intBits w <= 256)) (intBits (qv cm) <= 256) (ws.length <= 8) (Q (.int (Am (qv cm) ws)) H)
theorem ge {fd jI:FuncData} (T:Txt K mg ad aA aH aB aI aD aE aF aJ aK aM aG aC) (F:Fb K "how_many" "how_many" O0 ad.cS fd) (lP:Ai P w K mg base (Bi P w) 1 ad.fN jI ["hall"] (V0 K)) (lQ:Ay K jI ["hall"] []):Ai P w K mg base (Bi P w) 2 ad.cS fd ["hall"] (Ti K):=by
 refine F.okN Pf (fun vs H Q E h=>?_) (fun aV A outer s H vs Q E hr h=>?_)
 ·rcases h with ⟨a,ws,cm,rfl,⟨t,bU,bZ⟩,hb,fL,hl,q⟩ <;> rfl
 ·obtain ⟨a,ws,cm,rfl,⟨t,bU,bZ⟩,hb,fL,hl,q⟩ := h
  refine ⟨_,(A6 (Ah (i:=1) Pf.nd rfl (Or.inl rfl) (Af lP (hr.mono (by decide)) rfl T.EI T.k_x6 lQ .nil B0 (A0 (pv 0) A7))) (A6 (Co PassesOwn.never rfl (Dm (w':=Px K _) (Dn (Bg (Be K) (pv 0) A8 (fun _ _=>rfl)))) (Ax (i:=2) Pf.nd rfl (Or.inl rfl)) (Ab (Ah (i:=1) Pf.nd rfl (Or.inl rfl) (Al Gj (pv 1) (pv 2))))) (Ab (Ak (pv 1))))),?_⟩
  refine ⟨_,rfl,a,ws,cm,rfl,⟨t,bU,bZ⟩,?_⟩
  refine ⟨_,rfl,a,_,_,_,rfl,rfl,.inr (Cj.of bU),rfl,t,rfl,.inr ⟨⟨_,Cj.of bZ⟩,?_⟩⟩
  refine Um (K:=K) (a:=t) (xs:=ws.map V.int) (fun i σ H'=>∃ (v2:Option V),σ = [some (.ref a),some (.int (Am (qv cm) (ws.take i))),v2] /\ H' = H) ⟨none,rfl,rfl⟩ (by rintro i σ H' _ ⟨_,_,e⟩; exact (by rw [e]; exact Cj.of bZ)) ?_ ?_
  ·rintro i y σ H' hy ⟨v2,rfl,eH⟩
   subst eH
   rw [List.getElem?_map] at hy
   obtain ⟨x,hx,rfl⟩ := Option.map_eq_some_iff.mp hy
   have hi:=(List.getElem?_eq_some_iff.mp hx).1
   have b1:=Nl fL hb i (by omega)
   refine ⟨_,rfl,_,rfl,_,_,rfl,rfl,cc b1 (hb x (List.mem_of_getElem? hx)) (by omega),?_⟩
   refine ⟨some (.int x),?_,rfl⟩
   have e:Am (qv cm) (ws.take (i + 1)) = Am (qv cm) (ws.take i) * x:=Ex _ _ _ hx
   rw [e]
   rfl
  ·rintro σ H' ⟨v2,rfl,eH⟩
   subst eH
   rw [List.length_map,List.take_length]
   exact ⟨_,rfl,q⟩
def Tj (K:PySem.W.Frag):Sp:=fun vs H Q _=>U4 fun (t:Addr) (ws:List Int)=>Py (vs = [.ref t]) (H t = some (.tup (ws.map V.int))) ((∀ w ∈ ws,1 <= w)) (Am 1 ws <= 3000) (ws.length <= 8) (∀ (l:Addr) (us:List V) (H':Hp),H l = none -> Aa H H' -> H' l = some (.lst us) -> An (Ed H') (Cb ws) us -> Q (.ref l) H')
theorem gf {fd  : FuncData} (T:Txt K mg ad aA aH aB aI aD aE aF aJ aK aM aG aC) (F:Fb K "all_left" "all_left" Lp ad.cT fd):Ai P w K mg base (Bi P w) 1 ad.cT fd ["waits"] (Tj K):=by
 refine F.okN Ja (fun vs H Q E h=>?_) (fun aV A outer s H vs Q E hr h=>?_)
 ·rcases h with ⟨t,ws,rfl,ht,dM,hp,eJ,q⟩ <;> rfl
 ·obtain ⟨t,ws,rfl,ht,dM,hp,eJ,q⟩ := h
  refine ⟨_,(A6 (Ah (i:=1) Ja.nd rfl (Or.inl rfl) (Cw (A0 (Bt A7) A7))) (A6 (Co PassesOwn.never rfl (Dm (w':=Px K _) (Dn (pv 0))) (Ax (i:=2) Ja.nd rfl (Or.inl rfl)) (A6 (Ah (i:=3) Ja.nd rfl (Or.inl rfl) (Cw A7)) (A6 (Co PassesOwn.never rfl (Dm (w':=Px K _) (Dn (pv 1))) (Ax (i:=4) Ja.nd rfl (Or.inr rfl)) (Ab (Ce (Dx (u':=Ts K _ _ _ _) (Eh PySem.F.plainAttrs_list PySem.F.slot_list_extend PySem.F.type_list_extend Iz (pv 3) (A0 (K1 (Wb (by rfl) T.bJ (A0 A8 (A0 (Al C7 (pv 2) A8) A7))) _ rfl Me rfl rfl (fun _ _ _ _=>(Ax (i:=0) Mm rfl (Or.inl rfl))) (fun _ _ _ _=>Dy) (fun _ _ _ _=>(Al (al K) (pv 1) (Bt (A0 (pv 0) A7))))) A7)))))) (Ab (Ah (i:=1) Ja.nd rfl (Or.inl rfl) (pv 3)))))) (Ab (Ak (pv 1))))),?_⟩
  refine ⟨Bf,fun E0 hE0=>⟨Bf,fun L0 QJ=>?_⟩⟩
  have s0:Aa H (upd H E0 (.tup [])):=Aa.upd hE0
  have e0:(upd H E0 (.tup [])) E0 = some (.tup (([]:List Int).map V.int)):=A5
  generalize upd H E0 (.tup []) = H0 at s0 e0 QJ ⊢
  have s1:Aa H0 (upd H0 L0 (.lst [.ref E0])):=Aa.upd QJ
  have e1:(upd H0 L0 (.lst [.ref E0])) L0 = some (.lst [.ref E0]):=A5
  have r1:An (Ed (upd H0 L0 (.lst [.ref E0]))) (Cb (ws.take 0)) [.ref E0]:=An.one ⟨E0,rfl,s1 _ _ e0⟩
  generalize upd H0 L0 (.lst [.ref E0]) = H1 at s1 e1 r1 ⊢
  have s01:=s0.trans s1
  refine ⟨_,rfl,t,rfl,.inr ⟨⟨_,Cj.of (s01 _ _ ht)⟩,?_⟩⟩
  refine Um (K:=K) (a:=t) (xs:=ws.map V.int) (fun i σ H'=>jl fun (L:Addr) (us:List V) (v2 v3 v4:Option V)=>Hl (σ = [some (.ref t),some (.ref L),v2,v3,v4]) (H' L = some (.lst us)) (Aa H H') (An (Ed H') (Cb (ws.take i)) us) (H L = none))
   ⟨L0,_,none,none,none,rfl,e1,s01,r1,s0.free QJ⟩ (by rintro i σ H' _ ⟨_,_,_,_,_,_,_,s,_,_⟩; exact Cj.of (s _ _ ht)) ?_ ?_
  ·rintro i y σ H2 hy ⟨L,us,v2,v3,v4,rfl,f1,s2,f2,hL⟩
   rw [List.getElem?_map] at hy
   obtain ⟨w,hw,rfl⟩ := Option.map_eq_some_iff.mp hy
   have QK:=dM w (List.mem_of_getElem? hw)
   have FO:=Nn dM hp i
   have kX:=Nn dM hp (i + 1)
   have wB:Cb (ws.take (i + 1)) = C8 (Cb (ws.take i)) w:=Ex _ _ _ hw
   rw [wB,Lw] at kX
   have hiw:=(List.getElem?_eq_some_iff.mp hw).1
   have MN:∀ r ∈ Cb (ws.take i),r.length <= 8:=fun r hr=>by
    have:=(Ig ws i (by omega) r hr).1
    omega
   generalize Cb (ws.take i) = rows at f2 FO kX wB MN
   refine ⟨Bf,fun D hD=>?_⟩
   have s3:Aa H2 (upd H2 D (.lst [])):=Aa.upd hD
   have e3:(upd H2 D (.lst [])) D = some (.lst []):=A5
   have f3:=s3 _ _ f1
   have g3:=f2.imp fun r v z=>Ed.up (Ar.of s3) z
   have QL:L ≠ D:=Ae f1 hD
   generalize upd H2 D (.lst []) = H3 at s3 e3 f3 g3 ⊢
   refine ⟨_,rfl,L,rfl,.inl ⟨⟨_,B9.of f3⟩,?_⟩⟩
   refine D3 (K:=K) (a:=L) (xs:=us) (fun j σ H'=>U4 fun (zs:List V) (v4:Option V)=>Hl (σ = [some (.ref t),some (.ref L),some (.int w),some (.ref D),v4]) (H' D = some (.lst zs)) (H' L = some (.lst us)) (Aa H2 H') (An (Ed H') (C8 (rows.take j) w) zs))
    ⟨[],v4,rfl,e3,f3,s3,An.nil⟩ (by rintro j σ H' _ ⟨_,_,_,_,e,_⟩; exact B9.of e) ?_ ?_
   ·rintro j y σ H4 hy ⟨zs,v4',rfl,h1,h2,s4,h3⟩
    have g4:=f2.imp fun r v z=>Ed.up (Ar.of s4) z
    obtain ⟨r,qX,p,rfl,QM⟩ := g4.get hy
    have hj:=(List.getElem?_eq_some_iff.mp qX).1
    have hr8:=MN r (List.mem_of_getElem? qX)
    have ezl:zs.length = (rows.take j).length * w.toNat:=by rw [h3.1,Lw]
    have rT:zs.length <= 3000:=by
     rw [ezl]
     refine Nat.le_trans (Nat.mul_le_mul_right _ ?_) kX
     rw [List.length_take]
     omega
    have hw3:w.toNat <= 3000:=Nat.le_trans (Nat.le_mul_of_pos_left _ (by omega)) kX
    refine ⟨_,rfl,.inl ⟨rfl,_,B9.of h1⟩,_,rfl,_,_,rfl,rfl,1,w + 1,rfl,by omega,fun B hB=>?_⟩
    refine Fe (fun m ys H'=>H' B = some (.lst ys) /\ Aa H4 H' /\ An (Ed H') ((List.range m).map fun t=>r ++ [1 + ((t:Nat):Int)]) ys) ⟨A5,Aa.upd hB,An.nil⟩ ?_ ?_
    ·rintro m ys H5 hm ⟨k1,s5,k2⟩ Qe hQ
     refine ⟨_,rfl,_,rfl,Bf,fun P hP=>?_⟩
     have s6:Aa H5 (upd H5 P (.tup [.int (1 + (m:Int))])):=Aa.upd hP
     refine ⟨p,P,_,_,rfl,rfl,Cj.of (s6 _ _ (s5 _ _ QM)),A5,by simp,Nat.le_of_lt (F8 (by simp; omega)),fun p' H6 s7 e7=>?_⟩
     generalize upd H5 P (.tup [.int (1 + (m:Int))]) = H5' at s6 s7
     have QN:=s6.trans s7
     have jO:=QN _ _ k1
     have kl:ys.length = m:=by rw [k2.1]; simp
     refine hQ _ _ jO (F8 (by omega)) ⟨A5,(s5.trans QN).new hB,?_⟩
     have tu:Ar H5 (upd H6 B (.lst (ys ++ [.ref p']))):=(Ar.of QN).trans (Ar.lst jO)
     rw [List.range_succ,List.map_append]
     refine (k2.imp fun r v z=>Ed.up tu z).append (An.one ⟨p',rfl,?_⟩)
     refine Ar.lst jO _ _ ?_
     rw [e7,List.map_append]
     rfl
    ·rintro ys H5 ⟨k1,s5,k2⟩
     have eB:((List.range (w + 1 - 1).toNat).map fun t=>r ++ [1 + ((t:Nat):Int)]) = Ox r w:=by
      rw [show w + 1 - 1 = w by omega]
      rfl
     rw [eB] at k2
     have fG:=s5 _ _ h1
     have kl:ys.length = w.toNat:=by rw [k2.1,Qu]
     refine ⟨D,B,_,_,rfl,rfl,fG,k1,Nat.le_of_lt (F8 (by omega)),?_⟩
     have tu:Ar H5 (upd H5 D (.lst (zs ++ ys))):=Ar.lst fG
     refine ⟨zs ++ ys,_,rfl,A5,by rw [Ac QL]; exact s5 _ _ h2,(s4.trans s5).new hD,?_⟩
     have e:C8 (rows.take (j + 1)) w = C8 (rows.take j) w ++ Ox r w:=N2 _ _ qX
     rw [e]
     exact (h3.imp fun r v z=>Ed.up ((Ar.of s5).trans tu) z).append (k2.imp fun r v z=>Ed.up tu z)
   ·rintro σ H4 ⟨zs,v4',rfl,h1,h2,s4,h3⟩
    rw [f2.1,List.take_length] at h3
    refine ⟨_,rfl,D,zs,_,_,_,rfl,h1,s2.trans s4,?_,s2.free hD⟩
    rw [wB]
    exact h3
  ·rintro σ H2 ⟨L,us,v2,v3,v4,rfl,f1,s2,f2,hL⟩
   rw [List.length_map,List.take_length] at f2
   exact ⟨_,rfl,q L us H2 hL s2 f1 f2⟩
def Tg (K:PySem.W.Frag) (aA:Addr):Sp:=fun vs H Q E=>(Ma fun (a:Addr) (ws:List Int) (cm:Option Int)=>Rs (vs = [.ref a]) (B8 H a ws cm) ((∀ w ∈ ws,1 <= w)) (1 <= qv cm) ((∀ w ∈ ws,intBits w <= 256)) (intBits (qv cm) <= 256) (ws.length <= 8) (Am (qv cm) ws <= 3000) (∀ (l:Addr) (us:List V) (H':Hp),H l = none -> Aa H H' -> H' l = some (.lst us) -> An (Fr H') (Bk ws (qv cm)) us -> Q (.ref l) H')) \/ (Ma fun (a:Addr) (ws:List Int) (cm:Option Int)=>K8 (vs = [.ref a]) (B8 H a ws cm) ((∀ w ∈ ws,intBits w <= 256)) (intBits (qv cm) <= 256) (ws.length <= 8) (3000 < Am (qv cm) ws) (∀ H2,Aa H H2 -> E (.ref aA) none H2))
theorem g9 {fd nO nP jI:FuncData} (T:Txt K mg ad aA aH aB aI aD aE aF aJ aK aM aG aC) (F:Fb K "standings" "standings" Ln ad.cU fd) (nQ:Ai P w K mg base (Bi P w) 1 ad.cT nO ["waits"] (Tj K)) (nR:Ay K nO ["waits"] []) (nS:Ai P w K mg base (Bi P w) 2 ad.cS nP ["hall"] (Ti K)) (nU:Ay K nP ["hall"] []) (lP:Ai P w K mg base (Bi P w) 1 ad.fN jI ["hall"] (V0 K)) (lQ:Ay K jI ["hall"] []):Ai P w K mg base (Bi P w) 3 ad.cU fd ["hall"] (Tg K aA):=by
 refine F.tE Sz (fun vs H Q E h=>?_) (fun aV A outer s H vs Q E hr h=>?_)
 ·rcases h with ⟨a,ws,cm,rfl,⟨t,bU,bZ⟩,dM,qY,hb,fL,eJ,hp,q⟩ | ⟨a,ws,cm,rfl,_,_,_,_,_,_⟩ <;> rfl
 ·obtain h:=h
  refine ⟨_,(A6 (Cg (Bc cg (Af nS (hr.mono (by decide)) rfl T.EJ T.k_x22 nU .nil B0 (A0 (pv 0) A7)) (Uu (v := .int 3000) (by rfl) T.eP.choose_spec ⟨_,rfl⟩) (Bh _)) (Ab (Y4 ig rfl (by rfl) T.gR T.e_TooMany (A0 gy A7))) As) (A6 (Ah (i:=1) Sz.nd rfl (Or.inl rfl) (Cw A7)) (A6 (Co Sl rfl (Dm (w':=Px K _) (Dn (Af nQ (hr.mono (by decide)) rfl T.EK T.k_x23 nR .nil B0 (A0 (Bg (Be K) (pv 0) A8 (fun _ _=>rfl)) A7)))) (Ax (i:=2) Sz.nd rfl (Or.inr rfl)) (Ab (Ce (Dx (u':=Ts K _ _ _ _) (Eh PySem.F.plainAttrs_list PySem.F.slot_list_extend PySem.F.type_list_extend Iz (pv 1) (A0 (K1 (D7 (by rfl) T.bJ (A0 (Af lP (hr.mono (by decide)) rfl T.EI T.k_x6 lQ .nil B0 (A0 (pv 0) A7)) A7)) _ rfl Ki rfl rfl (fun _ _ _ _=>(Ax (i:=0) L6 rfl (Or.inl rfl))) (fun _ _ _ _=>Dy) (fun _ _ _ _=>(Bt (A0 (pv 1) (A0 (pv 0) A7))))) A7)))))) (Ab (Ak (pv 1)))))),?_⟩
  rcases h with ⟨a,ws,cm,rfl,⟨t,bU,bZ⟩,dM,qY,hb,fL,eJ,hp,q⟩ | ⟨a,ws,cm,rfl,⟨t,bU,bZ⟩,hb,fL,eJ,hp,he⟩
  ·have hp1 : Am 1 ws <= 3000 := by
    have e:=Le (qv cm) ws 1
    rw [Int.mul_one] at e
    have h1:1 <= Am 1 ws:=Id ws 1 (by decide) dM
    have h2:=Int.mul_le_mul_of_nonneg_right qY (show 0 <= Am 1 ws by omega)
    rw [Int.one_mul] at h2
    omega
   have hq3:qv cm <= 3000:=Int.le_trans (Id ws _ (by omega) dM) hp
   refine ⟨_,rfl,a,ws,cm,rfl,⟨t,bU,bZ⟩,hb,fL,eJ,_,_,rfl,rfl,_,rfl,Dk (decide_eq_false (by omega)) ?_⟩
   refine ⟨Bf,fun D hD=>?_⟩
   have s1:Aa H (upd H D (.lst [])):=Aa.upd hD
   have e1:(upd H D (.lst [])) D = some (.lst []):=A5
   generalize upd H D (.lst []) = H1 at s1 e1 ⊢
   refine ⟨_,rfl,a,_,_,_,rfl,rfl,.inr (Cj.of (s1 _ _ bU)),rfl,t,ws,rfl,s1 _ _ bZ,dM,hp1,eJ,fun L us H2 hL s2 f1 f2=>⟨L,rfl,.inl ⟨⟨_,B9.of f1⟩,?_⟩⟩⟩
   have FP:=s1.trans s2
   have e2:=s2 _ _ e1
   have QL:L ≠ D:=(Ae e1 hL).symm
   refine D3 (K:=K) (a:=L) (xs:=us) (fun j σ H'=>U4 fun (zs:List V) (v2:Option V)=>Py (σ = [some (.ref a),some (.ref D),v2]) (H' D = some (.lst zs)) (H' L = some (.lst us)) (Aa H H') (Ar H2 H') (An (Fr H') (((Cb ws).take j).flatMap fun r=>Fa r (qv cm)) zs))
    ⟨[],none,rfl,e2,f1,FP,Ar.of (Aa.refl _),An.nil⟩ (by rintro j σ H' _ ⟨_,_,_,_,e,_⟩; exact B9.of e) ?_ ?_
   ·rintro j y σ H4 hy ⟨zs,v2,rfl,h1,h2,s4,t4,h3⟩
    have g4:=f2.imp fun r v z=>Ed.up t4 z
    obtain ⟨r,qX,p,rfl,QM⟩ := g4.get hy
    have hj:=(List.getElem?_eq_some_iff.mp qX).1
    have rT:zs.length <= 3000:=by
     have e:=Jb (ws:=ws) (q:=qv cm) dM (by omega)
     rw [h3.1]
     have e2:Bk ws (qv cm) = (((Cb ws).take j).flatMap fun r=>Fa r (qv cm)) ++ (((Cb ws).drop j).flatMap fun r=>Fa r (qv cm)):=by
      rw [<- List.flatMap_append,List.take_append_drop]
      rfl
     rw [e2,List.length_append] at e
     omega
    refine ⟨_,rfl,.inl ⟨rfl,_,B9.of h1⟩,_,rfl,a,ws,cm,rfl,⟨t,s4 _ _ bU,s4 _ _ bZ⟩,qv cm,rfl,by omega,by omega,fun B hB=>?_⟩
    refine Fe (fun m ys H'=>H' B = some (.lst ys) /\ Aa H4 H' /\ An (Fr H') ((List.range m).map fun k=>(r,0 + ((k:Nat):Int))) ys) ⟨A5,Aa.upd hB,An.nil⟩ ?_ ?_
    ·rintro m ys H5 hm ⟨k1,s5,k2⟩ Qe hQ
     refine ⟨_,rfl,_,rfl,Bf,fun P hP=>?_⟩
     have s6:Aa H5 (upd H5 P (.tup [.ref p,.int (0 + (m:Int))])):=Aa.upd hP
     have e6:(upd H5 P (.tup [.ref p,.int (0 + (m:Int))])) P = some (.tup [.ref p,.int (0 + (m:Int))]):=A5
     generalize upd H5 P (.tup [.ref p,.int (0 + (m:Int))]) = H6 at s6 e6
     have jO:=s6 _ _ k1
     have kl:ys.length = m:=by rw [k2.1]; simp
     refine hQ _ _ jO (F8 (by omega)) ⟨A5,(s5.trans s6).new hB,?_⟩
     have tu:Ar H5 (upd H6 B (.lst (ys ++ [.ref P]))):=(Ar.of s6).trans (Ar.lst jO)
     rw [List.range_succ,List.map_append]
     refine (k2.imp fun r v z=>Fr.up tu z).append (An.one ⟨P,p,rfl,?_,?_⟩)
     ·exact Ar.lst jO _ _ e6
     ·exact Ar.lst jO _ _ (s6 _ _ (s5 _ _ QM))
    ·rintro ys H5 ⟨k1,s5,k2⟩
     have fG:=s5 _ _ h1
     have k3:An (Fr H5) (Fa r (qv cm)) ys:=k2
     have kl:ys.length = (qv cm).toNat:=by rw [k3.1,Oc]
     refine ⟨D,B,_,_,rfl,rfl,fG,k1,Nat.le_of_lt (F8 (by omega)),?_⟩
     have tu:Ar H5 (upd H5 D (.lst (zs ++ ys))):=Ar.lst fG
     refine ⟨zs ++ ys,_,rfl,A5,by rw [Ac QL]; exact s5 _ _ h2,(s4.trans s5).new hD,(t4.trans (Ar.of s5)).trans tu,?_⟩
     have e:(((Cb ws).take (j + 1)).flatMap fun r=>Fa r (qv cm)) = (((Cb ws).take j).flatMap fun r=>Fa r (qv cm)) ++ Fa r (qv cm):=N2 _ _ qX
     rw [e]
     exact (h3.imp fun r v z=>Fr.up ((Ar.of s5).trans tu) z).append (k3.imp fun r v z=>Fr.up tu z)
   ·rintro σ H4 ⟨zs,v2,rfl,h1,h2,s4,t4,h3⟩
    rw [f2.1,List.take_length] at h3
    exact ⟨_,rfl,q D zs H4 hD s4 h1 h3⟩
  ·refine ⟨_,rfl,a,ws,cm,rfl,⟨t,bU,bZ⟩,hb,fL,eJ,_,_,rfl,rfl,_,rfl,N8 (decide_eq_true (by omega)) ⟨ak,he⟩⟩
def Yl (K:PySem.W.Frag) (aA:Addr):Sp:=fun vs H Q E=>(Ma fun (a:Addr) (ws:List Int) (cm:Option Int)=>Rs (vs = [.ref a]) (B8 H a ws cm) ((∀ w ∈ ws,1 <= w)) (1 <= qv cm) ((∀ w ∈ ws,intBits w <= 256)) (intBits (qv cm) <= 256) (ws.length <= 8) (Am (qv cm) ws <= 3000) (∀ (D:Addr) (kvs:List ((List Int × Int) × V)) (H':Hp),H D = none -> Aa H H' -> H' D = some (.dT kvs) -> Cp ws cm H' kvs -> kvs.map (·.1) = Bk ws (qv cm) -> Kb ws cm H' kvs -> (∀ kv ∈ kvs,∀ c,kv.2 = .ref c -> H c = none) -> kvs.length <= 3000 -> Q (.ref D) H')) \/ (Ma fun (a:Addr) (ws:List Int) (cm:Option Int)=>K8 (vs = [.ref a]) (B8 H a ws cm) ((∀ w ∈ ws,intBits w <= 256)) (intBits (qv cm) <= 256) (ws.length <= 8) (3000 < Am (qv cm) ws) (∀ H2,Aa H H2 -> E (.ref aA) none H2))
theorem kq {fd nV cM:FuncData} (T:Txt K mg ad aA aH aB aI aD aE aF aJ aK aM aG aC) (F:Fb K "calls_by_standing" "calls_by_standing" Wg ad.gG fd) (nW:Ai P w K mg base (Bi P w) 3 ad.cU nV ["hall"] (Tg K aA)) (nX:Ay K nV ["hall"] []) (eC:Ai P w K mg base (Bi P w) 5 ad.bW cM ["hall","standing","who"] (Lv K)) (eF:Ay K cM ["hall","standing","who"] []):Ai P w K mg base (Bi P w) 6 ad.gG fd ["hall"] (Yl K aA):=by
 refine F.tE O8 (fun vs H Q E h=>?_) (fun aV A outer s H vs Q E hr h=>?_)
 ·rcases h with ⟨a,ws,cm,rfl,ha,dM,qY,kA,jG,CO,hp,q⟩ | ⟨a,ws,cm,rfl,_,_,_,_,_,_⟩ <;> rfl
 ·obtain h:=h
  refine ⟨_,(A6 (Ah (i:=1) O8.nd rfl (Or.inl rfl) Fz) (A6 (Co Sl rfl (Dm (w':=Px K _) (Dn (Fy nW (hr.mono (by decide)) rfl T.EL T.k_x19 nX .nil Ut (A0 (pv 0) A7)))) (Ax (i:=2) O8.nd rfl (Or.inl rfl)) (A6 (Ah (i:=3) O8.nd rfl (Or.inl rfl) Y0) (A6 (Co Sl rfl (D7 (by rfl) T.bJ (A0 (Ba (C5 K) (by rfl) T.bS PySem.boot_len (A0 (Bg (Be K) (pv 0) A8 (fun _ _=>rfl)) A7)) A7)) (Ax (i:=4) O8.nd rfl (Or.inl rfl)) (A6 (Ah (i:=5) O8.nd rfl (Or.inl rfl) (Af eC (hr.mono (by decide)) rfl T.nC T.k_x14 eF .nil B0 (A0 (pv 0) (A0 (pv 2) (A0 (pv 4) A7))))) (Ab (E6 (Bc (W8 K hr) Cy (pv 5) rfl) (Ab (Ie (Ep hr) (pv 3) (pv 4) (pv 5) rfl)) As)))) (Ab (Ie (Ep hr) (pv 1) (pv 2) (pv 3) rfl))))) (Ab (Ak (pv 1))))),?_⟩
  rcases h with ⟨a,ws,cm,rfl,ha,dM,qY,kA,jG,CO,hp,q⟩ | ⟨a,ws,cm,rfl,ha,hb,fL,eJ,hp,he⟩
  ·refine fun D hD=>?_
   have s1:Aa H (upd H D (.dT [])):=Aa.upd hD
   have e1:(upd H D (.dT [])) D = some (.dT []):=A5
   generalize upd H D (.dT []) = H1 at s1 e1 ⊢
   refine ⟨_,rfl,E,fun _ _ _ z=>z,.inl ⟨a,ws,cm,rfl,ha.same s1,dM,qY,kA,jG,CO,hp,fun l us H2 hl s2 el jN=>⟨l,rfl,.inl ⟨⟨_,B9.of el⟩,?_⟩⟩⟩⟩
   have hlen:us.length <= 3000:=by
    have h1:=jN.1
    have h2:=Jb dM (show 0 <= qv cm by omega)
    omega
   have gM:=s1.trans s2
   have eD2:=s2 _ _ e1
   refine D3 (K:=K) (a:=l) (xs:=us) (fun i σ H'=>jl fun (kvs:List ((List Int × Int) × V)) (v2 v3 v4 v5:Option V)=>Rs (σ = [some (.ref a),some (.ref D),v2,v3,v4,v5]) (Aa H H') (LT H2 H') (H' D = some (.dT kvs)) (Cp ws cm H' kvs) ((∀ kv ∈ kvs,∀ c,kv.2 = .ref c -> H c = none)) (kvs.length <= i) (kvs.map (·.1) = (Bk ws (qv cm)).take i) (Kb ws cm H' kvs))
    ⟨[],_,_,_,_,rfl,gM,⟨fun _ _ z=>z,fun _ _ z=>z⟩,eD2,⟨(fun kv z=>by cases z),List.Pairwise.nil,List.Pairwise.nil⟩,(fun kv z=>by cases z),Nat.le_refl _,rfl,(fun kv z=>by cases z)⟩ (by rintro i σ H' _ ⟨_,_,_,_,_,_,_,t,_⟩; exact B9.of (t.1 _ _ el)) ?_ ?_
   ·rintro i u σ H' hu ⟨kvs,v2,v3,v4,v5,rfl,s',t',kB,gW,eI,lR,eX,nY⟩
    have hi:=(List.getElem?_eq_some_iff.mp hu).1
    obtain ⟨z,hz,p,w,rfl,CP,hz2⟩ := jN.get hu
    obtain ⟨m1,m2,m3,m4⟩ := Oa (List.mem_of_getElem? hz)
    have FQ:Ec H' p z.1 z.2:=⟨w,t'.2 _ _ CP,t'.2 _ _ hz2⟩
    refine fun c hc=>?_
    have s3:Aa H' (upd H' c (.dK [])):=Aa.upd hc
    have e3:(upd H' c (.dK [])) c = some (.dK []):=A5
    generalize upd H' c (.dK []) = H3 at s3 e3 ⊢
    have MO:=s'.trans s3
    obtain ⟨wt,bU,bZ⟩ := id (ha.same MO)
    refine ⟨_,rfl,a,_,_,_,rfl,rfl,.inr (Cj.of bU),rfl,wt,_,rfl,.inr (Cj.of bZ),_,rfl,by omega,by rw [List.length_map]; omega,?_⟩
    refine Ey (n:=(ws.map V.int).length) (fun j σ H4=>Ma fun (cs:List (Dh × V)) (v4 v5:Option V)=>Py (σ = [some (.ref a),some (.ref D),some (.ref p),some (.ref c),v4,v5]) (Aa H' H4) (H4 c = some (.dK cs)) (Fu ws cm z H4 cs) (cs.length <= j) (∀ who:Nat,who < j -> none ∉ B7 ws z.1 cm z.2 who -> (Ad cs (.inl (who:Int))).isSome = true))
     ⟨[],_,_,rfl,s3,e3,(fun e z=>by cases z),Nat.le_refl _,(fun who z=>absurd z (Nat.not_lt_zero _))⟩ ?_ ?_
    ·rintro j σ H4 hj ⟨cs,v4,v5,rfl,s4,MP,rU,iE,MQ⟩
     rw [List.length_map] at hj
     have s04:=s'.trans s4
     refine ⟨_,rfl,_,rfl,_,rfl,a,p,ws,z.1,cm,z.2,_,j,rfl,by omega,ha.same s04,FQ.same s4,hj,m1,CO,fun L gS H5 hL s5 eL lD=>?_⟩
     refine ⟨_,rfl,L,gS,.none,(B7 ws z.1 cm z.2 j).map dt,rfl,B9.of eL,Y7,No lD,by decide,_,rfl,_,fun hb=>?_,fun hb=>?_,fun _ _ z=>z⟩
     ·rw [if_pos rfl,Oi] at hb
      have qV:none ∉ B7 ws z.1 cm z.2 j:=by simpa using hb
      have lS:=s5 _ _ MP
      refine ⟨_,rfl,_,rfl,_,rfl,c,_,rfl,.inl ⟨cs,.inl (j:Int),lS,congrArg V.int (Int.zero_add _),Bx (by omega),rfl⟩,?_⟩
      have t6:LT H5 (upd H5 c (.dK (Bl cs (.inl (j:Int)) (.ref L)))):=LT.dK lS
      refine ⟨Bl cs (.inl (j:Int)) (.ref L),_,_,rfl,(s4.trans s5).new hc,A5,?_,Nat.le_trans (Cv _ _ _) (by omega),fun who we hn=>Sc ?_⟩
      ·have hold:Fu ws cm z (upd H5 c (.dK (Bl cs (.inl (j:Int)) (.ref L)))) cs:=rU.up ((LT.of s5).trans t6)
       intro e he
       rcases Y5 he with y | y
       ·exact hold e y
       ·subst y
        exact ⟨j,L,gS,rfl,hj,qV,rfl,t6.1 _ _ eL,lD.imp fun _ _ y=>Hn.up t6.2 y⟩
      ·rcases Nat.lt_or_ge who j with y | y
       ·exact .inl (MQ who y hn)
       ·have e:who = j:=by omega
        rw [e]
        exact .inr rfl
     ·rw [if_pos rfl,Oi] at hb
      have QO:none ∈ B7 ws z.1 cm z.2 j:=by simpa using hb
      refine ⟨cs,_,_,rfl,s4.trans s5,s5 _ _ MP,rU.up (LT.of s5),by omega,fun who we hn=>?_⟩
      rcases Nat.lt_or_ge who j with y | y
      ·exact MQ who y hn
      ·have e:who = j:=by omega
       rw [e] at hn
       exact absurd QO hn
    rintro σ H4 ⟨cs,v4,v5,rfl,s4,MP,rU,iE,MQ⟩
    rw [List.length_map] at iE
    have QP:=s4 _ _ kB
    refine ⟨_,rfl,_,rfl,_,rfl,D,_,rfl,K9.t QP (show E9 H4 p z from FQ.same s4) (Bp (by omega)),?_⟩
    have t5:LT H4 (upd H4 D (.dT (Bl kvs z (.ref c)))):=LT.dT QP
    have k5:∀ c' iK,H4 c' = some (.dK iK) -> (upd H4 D (.dT (Bl kvs z (.ref c)))) c' = some (.dK iK):=fun c' iK e=>by
     rw [Ac (Bw e QP (by intro z; cases z))]
     exact e
    have s05:=s'.trans s4
    have hnz:Ad kvs z = none:=by
     cases hv:Ad kvs z with
     | none=>rfl
     | some v =>
      have:=List.mem_map_of_mem (f:=(·.1)) (Bo hv)
      rw [eX] at this
      exact absurd this (Nj (Jj _ _) hz)
    have ep:Bl kvs z (.ref c) = kvs ++ [(z,.ref c)]:=Dp _ hnz
    have kC:Cp ws cm (upd H4 D (.dT (Bl kvs z (.ref c)))) kvs:=(gW.keep (LT.of s4) (fun c cs e=>s4 _ _ e)).keep t5 k5
    have wC:Kb ws cm (upd H4 D (.dT (Bl kvs z (.ref c)))) kvs:=(nY.keep gW (fun c cs e=>s4 _ _ e)).keep (gW.keep (LT.of s4) (fun c cs e=>s4 _ _ e)) k5
    have lS:=k5 _ _ MP
    have wD:=rU.up t5
    have sN:Aa H (upd H4 D (.dT (Bl kvs z (.ref c)))):=s05.new hD
    have tN:LT H2 (upd H4 D (.dT (Bl kvs z (.ref c)))):=(t'.trans (LT.of s4)).trans t5
    have eN:(upd H4 D (.dT (Bl kvs z (.ref c)))) D = some (.dT (Bl kvs z (.ref c))):=A5
    rw [ep] at kC wC lS wD sN tN eN ⊢
    generalize upd H4 D (.dT (kvs ++ [(z,.ref c)])) = H6 at kC wC lS wD sN tN eN ⊢
    have fJ:∀ kv ∈ kvs,kv.2 ≠ .ref c:=fun kv aS e=>by
     obtain ⟨d,ds,e1,e2,_⟩ := gW.1 kv aS
     rw [e] at e1
     cases e1
     rw [hc] at e2
     cases e2
    refine ⟨kvs ++ [(z,.ref c)],_,_,_,_,rfl,sN,tN,eN,⟨L3 kC.1 ⟨c,cs,rfl,lS,by omega,wD⟩,?_,?_⟩,L3 eI (fun c' e=>by cases e; exact s'.free hc),by rw [List.length_append,List.length_singleton]; omega,?_,?_⟩
    ·rw [List.map_append]
     refine Eg kC.2.1 (fun y=>?_)
     rw [eX] at y
     exact Nj (Jj _ _) hz y
    ·rw [List.map_append]
     refine Eg kC.2.2 (fun y=>?_)
     obtain ⟨kv,aS,e⟩ := List.mem_map.mp y
     exact fJ kv aS e
    ·rw [List.map_append,eX,List.take_add_one,hz]
     rfl
    ·intro kv aS c' iK e1 e2
     rcases List.mem_append.mp aS with y | y
     ·exact wC kv y c' iK e1 e2
     ·cases List.mem_singleton.mp y
      cases e1
      rw [lS] at e2
      cases e2
      exact fun who hw hn=>MQ who (by rw [List.length_map]; exact hw) hn
   rintro σ H' ⟨kvs,v2,v3,v4,v5,rfl,s',t',kB,gW,eI,lR,eX,nY⟩
   rw [jN.1,List.take_length] at eX
   exact ⟨_,rfl,q D kvs H' hD s' kB gW eX nY eI (by omega)⟩
  ·refine fun D hD=>?_
   have s1:Aa H (upd H D (.dT [])):=Aa.upd hD
   generalize upd H D (.dT []) = H1 at s1 ⊢
   exact ⟨_,rfl,E,fun _ _ _ z=>z,.inr ⟨a,ws,cm,rfl,ha.same s1,hb,fL,eJ,hp,fun H2 s2=>he H2 (s1.trans s2)⟩⟩
def To (K:PySem.W.Frag):Sp:=fun vs H Q _=>cw fun (D:Addr) (kvs:List ((List Int × Int) × V)) (ws:List Int) (cm:Option Int)=>Hl (vs = [.ref D]) (H D = some (.dT kvs)) (Cp ws cm H kvs) (kvs.length <= 3000) (∀ (W:Addr) (wv:List ((List Int × Int) × V)) (H':Hp),H W = none -> Aa H H' -> H' W = some (.dT wv) -> Et ws cm H kvs 48000 H' wv -> (∀ k who later,Ap H kvs k who -> some later ∈ B7 ws k.1 cm k.2 who -> Cq H' wv later k who) -> wv.length <= 48000 -> Q (.ref W) H')
theorem gl {fd  : FuncData} (T:Txt K mg ad aA aH aB aI aD aE aF aJ aK aM aG aC) (F:Fb K "ways_to" "ways_to" O4 ad.cV fd):Ai P w K mg base (Bi P w) 1 ad.cV fd ["pending"] (To K):=by
 refine F.okN Hg (fun vs H Q E h=>?_) (fun aV A outer s H vs Q E hr h=>?_)
 ·rcases h with ⟨D,kvs,ws,cm,rfl,hD,iD,lR,q⟩ <;> rfl
 ·obtain ⟨D,kvs,ws,cm,rfl,hD,iD,lR,q⟩ := h
  refine ⟨_,(A6 (Ah (i:=1) Hg.nd rfl (Or.inl rfl) Fz) (A6 (P8 (Co PassesOwn.never rfl (Lc (pv 0)) (K2 K (n:=2) rfl (Dl (Ax (i:=2) Hg.nd rfl (Or.inl rfl)) (Dl (Ax (i:=3) Hg.nd rfl (Or.inl rfl)) K3))) (Ab (P8 (Co PassesOwn.never rfl (Lc (pv 3)) (K2 K (n:=2) rfl (Dl (Ax (i:=4) Hg.nd rfl (Or.inl rfl)) (Dl (Ax (i:=5) Hg.nd rfl (Or.inl rfl)) K3))) (Ab (Co PassesOwn.never rfl (Dm (w':=Px K _) (Dn (pv 5))) (Ax (i:=6) Hg.nd rfl (Or.inl rfl)) (Ab (Ce (Dx (u':=Ts K _ _ _ _) (Eh PySem.F.plainAttrs_list PySem.F.slot_list_append PySem.F.type_list_append D0 (ap (au (Ep hr) (pv 1) (pv 6) (Cw A7) ⟨rfl,rfl,rfl,rfl⟩)) (A0 (Bt (A0 (pv 2) (A0 (pv 4) A7))) A7)))))))))))) (Ab (Ak (pv 1))))),?_⟩
  have gW:=iD.ok
  refine fun W hW=>?_
  have s1:Aa H (upd H W (.dT [])):=Aa.upd hW
  have e1:(upd H W (.dT [])) W = some (.dT []):=A5
  generalize upd H W (.dT []) = H1 at s1 e1 ⊢
  have hD1:=s1 _ _ hD
  have QQ:W ≠ D:=(Ae hD hW).symm
  refine ⟨D,.dT kvs,trivial,hD1,_,rfl,D,.dT kvs,rfl,trivial,hD1,fun o=>?_⟩
  refine N4 (d:=D) (o:=o) (u := .dT kvs) (fun i σ H'=>jm fun (wv:List ((List Int × Int) × V)) (v2 v3 v4 v5 v6:Option V)=>K8 (σ = [some (.ref D),some (.ref W),v2,v3,v4,v5,v6]) (H' D = some (.bO o (.dT kvs))) ((tf D H H')) (H' W = some (.dT wv)) (Et ws cm H kvs (16 * i) H' wv) (wv.length <= 16 * i) (di ws cm H kvs i H' wv))
   ⟨[],_,_,_,_,_,rfl,A5,(fun b ob n e=>(Ac n).trans (s1 _ _ e)),(Ac QQ).trans e1,⟨(fun kv z=>by cases z),List.Pairwise.nil⟩,Nat.zero_le _,(fun k who later z=>by obtain ⟨v,z⟩ := z; rw [List.take_zero] at z; cases z)⟩ (by rintro i σ H' _ ⟨_,_,_,_,_,_,_,e,_⟩; exact e) ?_ ?_
  ·rintro i x y T σ H' hi hit ⟨wv,v2,v3,v4,v5,v6,rfl,kB,k',qZ,rV,qR,tS⟩ hT
   have QR:i < 3000:=Nat.lt_of_lt_of_le hi lR
   obtain ⟨kk,bb,aS,rfl,w5⟩ := hit
   have cD:(kk,y) ∈ kvs:=List.mem_of_getElem? aS
   obtain ⟨kw,hkw⟩ := Jl cD
   obtain ⟨c,cs,ey,hc,iE,rU⟩ := iD.1 _ cD
   have QS:y = .ref c:=ey
   subst QS
   have s2:Aa H' (upd H' T (.tup [.ref bb,.ref c])):=Aa.upd hT
   have e2:(upd H' T (.tup [.ref bb,.ref c])) T = some (.tup [.ref bb,.ref c]):=A5
   generalize upd H' T (.tup [.ref bb,.ref c]) = H2 at s2 e2 ⊢
   refine ⟨T,_,rfl,Cj.of e2,rfl,_,_,rfl,_,_,rfl,rfl,?_⟩
   have QT:c ≠ D:=Bw hc hD (by intro z; cases z)
   have QU:c ≠ W:=Ae hc hW
   have jS:=s2 _ _ (k' c _ QT hc)
   refine ⟨c,.dK cs,trivial,jS,_,rfl,c,.dK cs,rfl,trivial,jS,fun o2=>?_⟩
   have QV:LT H2 (upd H2 c (.bO o2 (.dK cs))):=LT.dK jS
   refine N4 (d:=c) (o:=o2) (u := .dK cs) (fun j σ H3=>cw fun (wv:List ((List Int × Int) × V)) (v4 v5 v6:Option V)=>K7 (σ = [some (.ref D),some (.ref W),some (.ref bb),some (.ref c),v4,v5,v6]) (H3 c = some (.bO o2 (.dK cs))) (H3 D = some (.bO o (.dT kvs))) ((jo D c H H3)) (Ar H2 H3) (H3 W = some (.dT wv)) (Et ws cm H kvs (16 * i + 2 * j) H3 wv) (wv.length <= 16 * i + 2 * j) ((di ws cm H kvs i H3 wv)) (jx ws cm cs j kk H3 wv))
    ⟨wv,_,_,_,rfl,A5,(Ac QT.symm).trans (s2 _ _ kB),(fun b ob n1 n2 e=>(Ac n2).trans (s2 _ _ (k' b ob n1 e))),QV.2,(Ac QU.symm).trans (s2 _ _ qZ),rV.up ((LT.of s2).trans QV) (by omega),by omega,(fun k who later z1 z2 z3=>(tS k who later z1 z2 z3).up ((LT.of s2).trans QV)),(fun who later z=>by obtain ⟨e,z,_⟩ := z; rw [List.take_zero] at z; cases z)⟩ (by rintro j σ H3 _ ⟨_,_,_,_,_,e,_⟩; exact e) ?_ ?_
   ·rintro j x2 y2 T2 σ H3 hj QW ⟨QX,v4,v5,v6,rfl,FR,QY,k3,t3,QZ,wF,FT,RA,wG⟩ RB
    have hj8:j < 8:=Nat.lt_of_lt_of_le hj iE
    obtain ⟨kk2,FU,rfl⟩ := QW
    obtain ⟨w2,l,gS,ei,hw2,RC,el,hl,wH⟩ := rU _ (List.mem_of_getElem? FU)
    have lY:gS.length <= 2:=by
     rw [wH.1]
     unfold B7
     split <;> simp
    have ei':kk2 = .inl (w2:Int):=ei
    subst ei'
    have el':y2 = .ref l:=el
    subst el'
    have s4:Aa H3 (upd H3 T2 (.tup [kV (.inl (w2:Int)),.ref l])):=Aa.upd RB
    have e4:(upd H3 T2 (.tup [kV (.inl (w2:Int)),.ref l])) T2 = some (.tup [kV (.inl (w2:Int)),.ref l]):=A5
    generalize upd H3 T2 (.tup [kV (.inl (w2:Int)),.ref l]) = H4 at s4 e4 ⊢
    refine ⟨T2,_,rfl,Cj.of e4,rfl,_,_,rfl,_,_,rfl,rfl,?_⟩
    have hlD:l ≠ D:=Bw hl hD (by intro z; cases z)
    have hlc:l ≠ c:=Bw hl hc (by intro z; cases z)
    refine ⟨_,rfl,l,rfl,.inl ⟨⟨_,B9.of (s4 _ _ (k3 l _ hlD hlc hl))⟩,?_⟩⟩
    refine D3 (K:=K) (a:=l) (xs:=gS) (fun m σ H5=>U4 fun (wv:List ((List Int × Int) × V)) (v6:Option V)=>U1 (σ = [some (.ref D),some (.ref W),some (.ref bb),some (.ref c),some (kV (.inl (w2:Int))),some (.ref l),v6]) (H5 c = some (.bO o2 (.dK cs))) (H5 D = some (.bO o (.dT kvs))) ((jo D c H H5)) (Ar H2 H5) (H5 W = some (.dT wv)) (Et ws cm H kvs (16 * i + 2 * j + m) H5 wv) (wv.length <= 16 * i + 2 * j + m) ((di ws cm H kvs i H5 wv)) ((jx ws cm cs j kk H5 wv)) (∀ later,some later ∈ (B7 ws kk.1 cm kk.2 w2).take m -> Cq H5 wv later kk w2))
     ⟨QX,_,rfl,s4 _ _ FR,s4 _ _ QY,(fun b ob n1 n2 e=>s4 _ _ (k3 b ob n1 n2 e)),t3.trans (Ar.of s4),s4 _ _ QZ,wF.up (LT.of s4) (Nat.le_refl _),FT,(fun k who later z1 z2 z3=>(RA k who later z1 z2 z3).up (LT.of s4)),(fun who later z1 z2=>(wG who later z1 z2).up (LT.of s4)),(fun later z=>by rw [List.take_zero] at z; cases z)⟩ (by rintro m σ H5 _ ⟨_,_,_,_,_,k5,_⟩; exact B9.of (k5 l _ hlD hlc hl)) ?_ ?_
    ·rintro m u σ H5 hu ⟨wI,v6,rfl,lS,nZ,k5,t5,MR,kD,RE,MS,rX,rY⟩
     have CG:m < 2:=Nat.lt_of_lt_of_le (List.getElem?_eq_some_iff.mp hu).1 lY
     obtain ⟨r0,rZ,qX⟩ := wH.get hu
     obtain ⟨lk,er⟩ : ∃ lk,r0 = some lk:=by
      cases r0 with
      | none=>exact absurd (List.mem_of_getElem? rZ) RC
      | some r=>exact ⟨r,rfl⟩
     subst er
     obtain ⟨lb,rfl,sA⟩ := qX
     have RF:E9 H lb lk:=sA
     have tH5:Ar H H5:=fun b xs e=>k5 b _ (Bw e hD (by intro z; cases z)) (Bw e hc (by intro z; cases z)) e
     have RG:=RF.up tH5
     have FV:∀ E,H5 E = none -> H E = none:=fun E hE=>by
      cases hHE:H E with
      | none=>rfl
      | some ob =>
       by_cases z1:E = D
       ·rw [z1,nZ] at hE
        cases hE
       by_cases z2:E = c
       ·rw [z2,lS] at hE
        cases hE
       rw [k5 E ob z1 z2 hHE] at hE
       cases hE
     refine ⟨(fun v H7=>Ma fun (sC:List ((List Int × Int) × V)) (l7:Addr) (wJ:List V)=>bv (v = .ref l7) (Ad sC lk = some (.ref l7)) (H l7 = none) (H7 l7 = some (.lst wJ)) (wJ.length <= 16 * i + 2 * j + m) ((∀ u ∈ wJ,Og ws cm kvs H7 lk u)) (H7 c = some (.bO o2 (.dK cs))) (H7 D = some (.bO o (.dT kvs))) ((∀ b ob,b ≠ D -> b ≠ c -> H b = some ob -> H7 b = some ob)) (Ar H5 H7) (H7 W = some (.dT sC)) (Et ws cm H kvs (16 * i + 2 * j + m) H7 sC) (sC.length <= 16 * i + 2 * j + m + 1) ((∀ k who later,(∃ v,(k,v) ∈ kvs.take i) -> Ap H kvs k who -> some later ∈ B7 ws k.1 cm k.2 who -> Cq H7 sC later k who)) ((∀ who later,(∃ e ∈ cs.take j,e.1 = .inl ((who:Nat):Int)) -> some later ∈ B7 ws kk.1 cm kk.2 who -> Cq H7 sC later kk who)) ((∀ later,some later ∈ (B7 ws kk.1 cm kk.2 w2).take m -> Cq H7 sC later kk w2))),⟨_,rfl,W,rfl,.inr ⟨wI,.inl MR⟩,_,rfl,Bf,fun E hE=>?_⟩,?_⟩
     ·have s6:Aa H5 (upd H5 E (.lst [])):=Aa.upd hE
      have e6:(upd H5 E (.lst [])) E = some (.lst []):=A5
      generalize upd H5 E (.lst []) = H6 at s6 e6 ⊢
      have RH:=s6 _ _ MR
      refine ⟨wI,lk,lb,rfl,RG.up (Ar.of s6),RH,Bp (by omega),fun v hv=>?_,fun hv=>?_⟩
      ·obtain ⟨l7,wJ,e7,h0,h1,h2,h3⟩ := kD.1 _ (Bo hv)
       have e7':v = .ref l7:=e7
       exact ⟨wI,l7,wJ,e7,by rw [hv,e7'],h0,s6 _ _ h1,h2,(fun u hu=>(h3 u hu).up (Ar.of s6)),s6 _ _ lS,s6 _ _ nZ,(fun b ob n1 n2 e=>s6 _ _ (k5 b ob n1 n2 e)),Ar.of s6,RH,kD.up (LT.of s6) (Nat.le_refl _),by omega,(fun k who later z1 z2 z3=>(MS k who later z1 z2 z3).up (LT.of s6)),(fun who later z1 z2=>(rX who later z1 z2).up (LT.of s6)),(fun later z=>(rY later z).up (LT.of s6))⟩
      ·have t7:LT H6 (upd H6 W (.dT (Bl wI lk (.ref E)))):=LT.dT RH
       have nE:=FV E hE
       have MT:=(LT.of s6).trans t7
       refine ⟨Bl wI lk (.ref E),E,[],rfl,by rw [E8,if_pos rfl],nE,t7.1 _ _ e6,Nat.zero_le _,(fun u hu=>by cases hu),(Ac QU).trans (s6 _ _ lS),(Ac QQ.symm).trans (s6 _ _ nZ),(fun b ob n1 n2 e=>(Ac (Ae e hW)).trans (s6 _ _ (k5 b ob n1 n2 e))),(Ar.of s6).trans t7.2,A5,?_,Nat.le_trans (Cv _ _ _) (by omega),(fun k who later z1 z2 z3=>((MS k who later z1 z2 z3).up MT).put hv),(fun who later z1 z2=>((rX who later z1 z2).up MT).put hv),(fun later z=>((rY later z).up MT).put hv)⟩
       refine ⟨fun kv aS=>?_,?_⟩
       ·rcases Y5 aS with y | y
        ·exact (kD.up MT (Nat.le_refl _)).1 kv y
        ·subst y
         exact ⟨E,[],rfl,nE,t7.1 _ _ e6,Nat.zero_le _,fun u hu=>by cases hu⟩
       ·rw [Dp _ hv,List.map_append]
        refine Eg kD.2 (fun y=>?_)
        obtain ⟨kv,aS,e⟩ := List.mem_map.mp y
        obtain ⟨l9,us9,e9,_,h9,_⟩ := kD.1 kv aS
        have e':kv.2 = .ref E:=e
        rw [e'] at e9
        cases e9
        rw [hE] at h9
        cases h9
     rintro v H7 ⟨sC,l7,wJ,rfl,hv7,n7,RI,RJ,FW,hc7,MU,k7,t7,hW7,RK,hwl7,hs7,RL,RM⟩
     refine ⟨.inl ⟨rfl,_,B9.of RI⟩,_,rfl,_,rfl,Bf,fun T3 hT3=>?_⟩
     have s8:Aa H7 (upd H7 T3 (.tup [.ref bb,kV (.inl (w2:Int))])):=Aa.upd hT3
     have e8:(upd H7 T3 (.tup [.ref bb,kV (.inl (w2:Int))])) T3 = some (.tup [.ref bb,kV (.inl (w2:Int))]):=A5
     generalize upd H7 T3 (.tup [.ref bb,kV (.inl (w2:Int))]) = H8 at s8 e8 ⊢
     have eJ:=s8 _ _ RI
     refine ⟨l7,_,_,rfl,rfl,eJ,Bp (by omega),?_⟩
     have RN:l7 ≠ D:=(Ae hD n7).symm
     have RO:l7 ≠ c:=(Ae hc n7).symm
     have RP:l7 ≠ W:=Bw RI hW7 (by intro z; cases z)
     have FX:E9 H8 bb kk:=(((w5.up (Ar.of s2)).up t5).up t7).up (Ar.of s8)
     have RQ:Og ws cm kvs H8 lk (.ref T3):=⟨T3,bb,w2,kk,rfl,e8,FX,⟨kw,hkw⟩,List.mem_of_getElem? rZ⟩
     refine ⟨sC,_,rfl,(Ac RO.symm).trans (s8 _ _ hc7),(Ac RN.symm).trans (s8 _ _ MU),(fun b ob n1 n2 e=>(Ac (Ae e n7)).trans (s8 _ _ (k7 b ob n1 n2 e))),((t5.trans t7).trans (Ar.of s8)).trans (Ar.lst eJ),(Ac RP.symm).trans (s8 _ _ hW7),?_,by omega,(fun k who later z1 z2 z3=>((hs7 k who later z1 z2 z3).up (LT.of s8)).app eJ),(fun who later z1 z2=>((RL who later z1 z2).up (LT.of s8)).app eJ),(fun later z=>?_)⟩
     ·exact Et.app (RK.up (LT.of s8) (Nat.le_refl _)) (Bo hv7) eJ RJ (fun u hu=>(FW u hu).up (Ar.of s8)) RQ
     ·rw [List.take_add_one,rZ] at z
      rcases List.mem_append.mp z with y | y
      ·exact ((RM later y).up (LT.of s8)).app eJ
      ·have ey:later = lk:=by simpa using y
       subst ey
       have tt:Ar H8 (upd H8 l7 (.lst (wJ ++ [.ref T3]))):=Ar.lst eJ
       exact ⟨l7,_,T3,bb,hv7,A5,by simp,tt _ _ e8,FX.up tt⟩
    rintro σ H5 ⟨wI,v6,rfl,lS,nZ,k5,t5,MR,kD,RE,MS,rX,rY⟩
    refine ⟨wI,_,_,_,rfl,lS,nZ,k5,t5,MR,kD.up ⟨fun _ _ z=>z,fun _ _ z=>z⟩ (by omega),by omega,MS,fun who later z1 z2=>?_⟩
    obtain ⟨e,he,ew⟩ := z1
    rw [List.take_add_one,FU] at he
    rcases List.mem_append.mp he with y | y
    ·exact rX who later ⟨e,y,ew⟩ z2
    ·have ey:e = (.inl (w2:Int),.ref l):=by simpa using y
     subst ey
     have ew2:(w2:Int) = (who:Int):=Sum.inl.inj ew
     have ew3:w2 = who:=by omega
     subst ew3
     refine rY later ?_
     rw [wH.1,List.take_length]
     exact z2
   rintro σ H3 ⟨QX,v4,v5,v6,rfl,FR,QY,k3,t3,QZ,wF,FT,RA,wG⟩
   have FL:D9 (.dK cs) <= 8:=iE
   have tz:LT H3 (upd H3 c (.dK cs)):=⟨fun b xs e=>by rw [Ac (Bw e FR (by intro z; cases z))]; exact e,fun b xs e=>by rw [Ac (Bw e FR (by intro z; cases z))]; exact e⟩
   refine ⟨o2,FR,QX,_,_,_,_,_,rfl,(Ac QT.symm).trans QY,(fun b ob n1 e=>?_),(Ac QU.symm).trans QZ,wF.up tz (show 16 * i + 2 * D9 (.dK cs) <= 16 * (i + 1) by omega),by omega,fun k who later z1 z2 z3=>?_⟩
   ·by_cases z:b = c
    ·subst z
     rw [hc] at e
     cases e
     exact A5
    ·exact (Ac z).trans (k3 b ob n1 z e)
   ·obtain ⟨v,hv⟩ := z1
    rw [List.take_add_one,aS] at hv
    rcases List.mem_append.mp hv with y | y
    ·exact (RA k who later ⟨v,y⟩ z2 z3).up tz
    ·have ey:(k,v) = (kk,.ref c):=by simpa using y
     cases ey
     obtain ⟨c',iK,g1,g2,g3⟩ := z2
     rw [Cf iD.2.1 cD] at g1
     cases g1
     rw [hc] at g2
     cases g2
     obtain ⟨w',QF⟩ := Option.isSome_iff_exists.mp g3
     refine (wG who later ⟨(.inl (who:Int),w'),?_,rfl⟩ z3).up tz
     show _ ∈ cs.take cs.length
     rw [List.take_length]
     exact Bo QF
  rintro σ H' ⟨wv,v2,v3,v4,v5,v6,rfl,kB,k',qZ,rV,qR,tS⟩
  have RS:D9 (.dT kvs) <= 3000:=lR
  have tD:LT H' (upd H' D (.dT kvs)):=⟨fun b xs e=>by rw [Ac (Bw e kB (by intro z; cases z))]; exact e,fun b xs e=>by rw [Ac (Bw e kB (by intro z; cases z))]; exact e⟩
  refine ⟨o,kB,_,rfl,q W wv _ hW (fun b ob e=>?_) ((Ac QQ).trans qZ) (rV.up tD (show 16 * D9 (.dT kvs) <= 48000 by omega)) (fun k who later z2 z3=>?_) (by omega)⟩
  ·by_cases z:b = D
   ·subst z
    rw [hD] at e
    cases e
    exact A5
   ·exact (Ac z).trans (k' b ob z e)
  ·obtain ⟨c',iK,g1,g2,g3⟩ := id z2
   refine (tS k who later ⟨.ref c',?_⟩ z2 z3).up tD
   show _ ∈ kvs.take kvs.length
   rw [List.take_length]
   exact Bo g1
def Yi (K : PySem.W.Frag) : Sp := fun vs H Q _ => cu fun (D W R : Addr) (kvs wv : List ((List Int × Int) × V)) (rs : List V) (bK : List (List Int × Int)) (H0 : Hp) (ws : List Int) (cm : Option Int) => K7 (vs = [.ref D, .ref W, .ref R]) (H D = some (.dT kvs)) (Cp ws cm H kvs) (H W = some (.dT wv)) (Et ws cm H0 kvs 48000 H wv) ((∀ k who later, Ap H kvs k who -> some later ∈ B7 ws k.1 cm k.2 who -> Cq H wv later k who)) (H R = some (.lst rs)) (An (Fr H) bK rs) (Cl H kvs <= 24000) (∀ (B : Addr) (bs : List V) (beta : List (List Int × Int)) (H' : Hp), H B = none -> Ea kvs H H' -> Cp ws cm H' kvs -> H' B = some (.lst bs) -> An (Fr H') beta bs -> Cl H' kvs + bs.length <= Cl H kvs ->
  (∀ k who,Ap H' kvs k who ↔ (Ap H kvs k who /\ ∀ later ∈ bK,some later ∉ B7 ws k.1 cm k.2 who)) -> (∀ k,k ∈ beta ↔ ((∃ who,Ap H kvs k who) /\ ∀ who,¬ Ap H' kvs k who)) -> Q (.ref B) H')
theorem km {fd  : FuncData} (T:Txt K mg ad aA aH aB aI aD aE aF aJ aK aM aG aC) (F:Fb K "without_calls_left" "without_calls_left" Wd ad.gH fd):Ai P w K mg base (Bi P w) 1 ad.gH fd ["pending","ways","ranked"] (Yi K):=by
 refine F.okN O7 (fun vs H Q E h=>?_) (fun aV A outer s H vs Q E hr h=>?_)
 ·rcases h with ⟨D,W,R,kvs,wv,rs,bK,H0,ws,cm,rfl,hD,iD,hW,rV,mC,hR,uy,hle,q⟩ <;> rfl
 ·obtain ⟨D,W,R,kvs,wv,rs,bK,H0,ws,cm,rfl,hD,iD,hW,rV,mC,hR,uy,hle,q⟩ := h
  refine ⟨_,(A6 (Ah (i:=3) O7.nd rfl (Or.inl rfl) (Cw A7)) (A6 (Co PassesOwn.never rfl (Dm (w':=Px K _) (Dn (pv 2))) (Ax (i:=4) O7.nd rfl (Or.inl rfl)) (Ab (Co PassesOwn.never rfl (Dm (w':=Px K _) (Dn (ap (Xz (Ep hr) (pv 1) (pv 4) (Cw A7) ⟨rfl,rfl,rfl,rfl⟩)))) (K2 K (n:=2) rfl (Dl (Ax (i:=5) O7.nd rfl (Or.inl rfl)) (Dl (Ax (i:=6) O7.nd rfl (Or.inl rfl)) K3))) (A6 (Ah (i:=7) O7.nd rfl (Or.inl rfl) (Ei (Ep hr) (pv 0) (pv 5) (fun _ _=>rfl))) (Ab (E6 (J2 (Sn (Ep hr) (pv 6) (pv 7)) rfl) (A6 (Ce (Y1 (pv 7) (pv 6) ⟨rfl,rfl,rfl,rfl⟩)) (Ab (E6 (Dr (Uv (pv 7))) (Ab (Ce (Dx (u':=Ts K _ _ _ _) (Eh PySem.F.plainAttrs_list PySem.F.slot_list_append PySem.F.type_list_append D0 (pv 3) (A0 (pv 5) A7))))) As))) As)))))) (Ab (Ak (pv 3))))),?_⟩
  have gW:=iD.ok
  refine ⟨Bf,fun B hB=>?_⟩
  have s1:Aa H (upd H B (.lst [])):=Aa.upd hB
  have e1:(upd H B (.lst [])) B = some (.lst []):=A5
  generalize upd H B (.lst []) = H1 at s1 e1 ⊢
  have c1:∀ c cs,H c = some (.dK cs) -> H1 c = some (.dK cs):=fun c cs e=>s1 _ _ e
  refine ⟨_,rfl,R,rfl,.inl ⟨⟨_,B9.of (s1 _ _ hR)⟩,?_⟩⟩
  refine D3 (K:=K) (a:=R) (xs:=rs) (fun i σ H'=>jm fun (bs:List V) (beta:List (List Int × Int)) (v4 v5 v6 v7:Option V)=>U1 (σ = [some (.ref D),some (.ref W),some (.ref R),some (.ref B),v4,v5,v6,v7]) (Ea kvs H H') (Cp ws cm H' kvs) (H' B = some (.lst bs)) (An (Fr H') beta bs) (Cl H' kvs + bs.length <= Cl H kvs) (V6 B H' kvs) ((Ze kvs H' H)) ((d7 ws cm kvs bK i H H')) ((d8 ws cm kvs bK i H')) ((jp kvs H H' beta)))
   ⟨[],[],_,_,_,_,rfl,Ea.of s1,iD.keep (LT.of s1) c1,e1,An.nil,by rw [E4 gW c1]; exact Nat.le_refl _,(V6.start gW hB).keep gW c1,(fun k who z=>(Ap.keep iD c1).mp z),(fun k who z _=>(Ap.keep iD c1).mpr z),(fun later z=>by rw [List.take_zero] at z; cases z),fun k=>⟨(fun z=>by cases z),fun z=>?_⟩⟩ (by rintro i σ H' _ ⟨_,_,_,_,_,_,_,ch,_⟩; exact B9.of (ch.keep gW hR (fun cs z=>nomatch z))) ?_ ?_
  ·obtain ⟨⟨who,z1⟩,z2⟩ := z
   exact absurd ((Ap.keep iD c1).mpr z1) (z2 who)
  ·rintro i u σ H' hu ⟨bs,beta,v4,v5,v6,v7,rfl,ch,eQ,MV,RU,RV,nb,l1,l2,l3,l4⟩
   obtain ⟨lk,sA,lb,lu,rfl,RX,RY⟩ := uy.get hu
   have RF:E9 H lb lk:=⟨lu,RX,RY⟩
   have sE:=eQ.ok
   have lt':=ch.lt gW
   have qZ:=ch.keep gW hW (fun cs z=>nomatch z)
   have RZ:=rV.up lt' (Nat.le_refl _)
   refine ⟨(fun v H7=>U4 fun (la:Addr) (gS:List V)=>Py (v = .ref la) (H7 la = some (.lst gS)) (la ≠ B) ((∀ u ∈ gS,Og ws cm kvs H7 lk u)) ((∀ lx,Ad wv lk = some (.ref lx) -> lx = la)) (Aa H' H7)),⟨_,rfl,W,rfl,.inr ⟨wv,.inl qZ⟩,_,rfl,Bf,fun E hE=>?_⟩,?_⟩
   ·have s6:Aa H' (upd H' E (.lst [])):=Aa.upd hE
    refine ⟨_,D2.t (s6 _ _ qZ) ((RF.up lt'.2).up (Ar.of s6)),?_⟩
    cases hv:Ad wv lk with
    | none=>exact ⟨E,[],rfl,A5,(Ae MV hE).symm,(fun u hu=>by cases hu),(fun lx z=>by cases z),s6⟩
    | some v =>
     obtain ⟨la,gS,e2,h0,h1,h2,h3⟩ := rV.1 _ (Bo hv)
     obtain ⟨lc,us3,e3,_,g1,_,g3⟩ := RZ.1 _ (Bo hv)
     have e23:V.ref la = V.ref lc:=e2.symm.trans e3
     cases e23
     have e3':v = .ref la:=e3
     exact ⟨la,us3,e3,s6 _ _ g1,Ae h1 hB,(fun u hu=>(g3 u hu).up (Ar.of s6)),(fun lx z=>by rw [e3'] at z; cases z; rfl),s6⟩
   rintro v H7 ⟨la,gS,rfl,SA,SD,SE,hlx,s7⟩
   refine ⟨la,rfl,.inl ⟨⟨_,B9.of SA⟩,?_⟩⟩
   have c7:∀ c cs,H' c = some (.dK cs) -> H7 c = some (.dK cs):=fun c cs e=>s7 _ _ e
   have SF:=eQ.keep (LT.of s7) c7
   have lt7:LT H H7:=lt'.trans (LT.of s7)
   refine D3 (K:=K) (a:=la) (xs:=gS) (fun j σ H8=>jl fun (bs:List V) (beta:List (List Int × Int)) (v5 v6 v7:Option V)=>br (σ = [some (.ref D),some (.ref W),some (.ref R),some (.ref B),some (.ref lb),v5,v6,v7]) (Ea kvs H H8) (Cp ws cm H8 kvs) (H8 B = some (.lst bs)) (An (Fr H8) beta bs) (Cl H8 kvs + bs.length <= Cl H kvs) (V6 B H8 kvs) ((Ze kvs H8 H)) ((d7 ws cm kvs bK (i + 1) H H8)) ((d8 ws cm kvs bK i H8)) ((jp kvs H H8 beta)) (Ar H7 H8) (H8 la = some (.lst gS)) ((Ze kvs H8 H7)) (tm H7 gS j H8 kvs))
    ⟨bs,beta,_,_,_,rfl,ch.trans (Ea.of s7),SF,s7 _ _ MV,RU.imp (fun _ _ z=>Fr.up (Ar.of s7) z),by rw [E4 sE c7]; exact RV,nb.keep sE c7,(fun k who z=>l1 k who ((Ap.keep eQ c7).mp z)),(fun k who z1 z2=>(Ap.keep eQ c7).mpr (l2 k who z1 fun later hl=>z2 later (List.take_subset_take_left _ (Nat.le_succ i) hl))),(fun later hl k who z1 z2=>l3 later hl k who z1 ((Ap.keep eQ c7).mp z2)),(fun k=>(l4 k).trans ⟨fun z=>⟨z.1,fun who y=>z.2 who ((Ap.keep eQ c7).mp y)⟩,fun z=>⟨z.1,fun who y=>z.2 who ((Ap.keep eQ c7).mpr y)⟩⟩),(fun _ _ z=>z),SA,(fun k who z=>z),(fun t b who k z=>by rw [List.take_zero] at z; cases z)⟩ (by rintro j σ H8 _ ⟨_,_,_,_,_,_,_,_,_,_,_,_,_,_,_,_,_,e,_⟩; exact B9.of e) ?_ ?_
   ·rintro j u σ H8 hu2 ⟨rA,gX,v5,v6,v7,rfl,CQ,kE,MW,oA,wK,MX,m1,m2,m3,m4,CS,sF,m5,m6⟩
    have hpo8:=kE.ok
    obtain ⟨t,b,who,k,rfl,ht7,FY,⟨v,aS⟩,SG⟩ := SE u (List.mem_of_getElem? hu2)
    have ht:=CS _ _ ht7
    have hb:=FY.up CS
    refine ⟨t,_,rfl,Cj.of ht,rfl,_,_,rfl,_,_,rfl,rfl,?_⟩
    have hD8:=CQ.keep gW hD (fun cs z=>nomatch z)
    have cD:=Bo aS
    obtain ⟨c,cs,ev,hc,iE,rU⟩ := kE.1 _ cD
    have ev':v = .ref c:=ev
    subst ev'
    have taken:∀ (HX:Hp),(∀ k' aR,Ap HX kvs k' aR -> Ap H8 kvs k' aR) -> ¬ Ap HX kvs k who -> ∀ t' b' aR k',V.ref t' ∈ gS.take (j + 1) -> H7 t' = some (.tup [.ref b',.int ((aR:Nat):Int)]) -> E9 H7 b' k' -> ¬ Ap HX kvs k' aR:=fun HX cA hx2 t' b' aR k' z1 z2 z3 z4=>by
     rw [List.take_add_one,hu2] at z1
     rcases List.mem_append.mp z1 with y | y
     ·exact m6 t' b' aR k' y z2 z3 (cA _ _ z4)
     ·have e1:t' = t:=by simpa using y
      subst e1
      rw [ht7] at z2
      cases z2
      obtain ⟨u1,f1,f2⟩ := FY
      obtain ⟨u2,g1,g2⟩ := z3
      rw [f1] at g1
      injection g1 with g1
      injection g1 with g1
      injection g1 with SH FZ
      injection FZ with FZ
      injection SH with SH
      injection FZ with FZ
      subst SH
      rw [f2] at g2
      have ek:k = k':=by
       have h1:k.1 = k'.1:=by
        have:=Option.some.inj g2
        injection this with this
        exact Jf this
       exact Prod.ext h1 FZ
      subst ek
      exact hx2 z4
    refine ⟨_,rfl,_,rfl,D,.ref c,rfl,(by rw [<- aS]; exact D2.t hD8 hb),?_⟩
    refine ⟨_,rfl,_,rfl,c,_,rfl,D2.k (k := .inl (who:Int)) hc,_,rfl,_,fun iU=>?_,fun iU=>?_,fun _ _ z=>z⟩
    ·obtain ⟨w',hw⟩ := Option.isSome_iff_exists.mp iU
     have uz:Ap H8 kvs k who:=⟨c,cs,aS,hc,by rw [hw]; rfl⟩
     refine ⟨_,rfl,c,rfl,.inl ⟨cs,.inl hc⟩,_,rfl,cs,.inl (who:Int),w',hc,rfl,hw,?_⟩
     have SI:Ea kvs H8 (upd H8 c (.dK (Bu cs (.inl (who:Int))))):=Ea.pop cD rfl
     have oB:Cp ws cm (upd H8 c (.dK (Bu cs (.inl (who:Int))))) kvs:=kE.pop hc
     have sH:LT H8 (upd H8 c (.dK (Bu cs (.inl (who:Int))))):=LT.dK hc
     have MY:(upd H8 c (.dK (Bu cs (.inl (who:Int))))) c = some (.dK (Bu cs (.inl (who:Int)))):=A5
     have MZ:V6 B (upd H8 c (.dK (Bu cs (.inl (who:Int))))) kvs:=MX.pop hc
     have hl9:=(Nb hc (Zo hw) (kvs:=kvs)).2 ⟨_,cD,rfl⟩
     have wL:∀ k' aR,Ap (upd H8 c (.dK (Bu cs (.inl (who:Int))))) kvs k' aR ↔ Ap H8 kvs k' aR /\ ¬ (k' = k /\ aR = who):=fun k' aR=>Ap.pop kE aS hc
     generalize upd H8 c (.dK (Bu cs (.inl (who:Int)))) = H9 at SI oB sH MY MZ hl9 wL ⊢
     have GA:=oB.ok
     have GB:=sH.1 _ _ MW
     have hb9:=hb.up sH.2
     have n1:∀ k' aR,Ap H9 kvs k' aR -> Ap H kvs k' aR:=fun k' aR z=>m1 _ _ ((wL k' aR).mp z).1
     have n2:∀ k' aR,Ap H kvs k' aR -> (∀ later ∈ bK.take (i + 1),some later ∉ B7 ws k'.1 cm k'.2 aR) -> Ap H9 kvs k' aR:=fun k' aR z1 z2=>(wL k' aR).mpr ⟨m2 _ _ z1 z2,fun e=>by
      refine z2 lk ?_ (by rw [e.1,e.2]; exact SG)
      rw [List.take_add_one,sA]
      simp⟩
     have n3:∀ later ∈ bK.take i,∀ k' aR,some later ∈ B7 ws k'.1 cm k'.2 aR -> ¬ Ap H9 kvs k' aR:=fun later hl k' aR z1 z2=>m3 later hl k' aR z1 ((wL k' aR).mp z2).1
     have n5:∀ k' aR,Ap H9 kvs k' aR -> Ap H8 kvs k' aR:=fun k' aR z=>((wL k' aR).mp z).1
     have n6:=taken H9 n5 (fun z=>((wL k who).mp z).2 ⟨rfl,rfl⟩)
     have other:∀ k',k' ≠ k -> ((∀ aR,¬ Ap H9 kvs k' aR) ↔ ∀ aR,¬ Ap H8 kvs k' aR):=fun k' cR=>⟨fun z aR y=>z aR ((wL k' aR).mpr ⟨y,fun e=>cR e.1⟩),fun z aR y=>z aR (n5 _ _ y)⟩
     have hkb:k ∉ gX:=fun z=>((m4 k).mp z).2 who uz
     refine ⟨_,rfl,c,_,rfl,.inl MY,_,fun he=>?_,fun he=>?_,fun _ _ z=>z⟩
     ·have kG : Bu cs (.inl (who : Int)) = [] := by
       have:(Bu cs (.inl (who:Int))).isEmpty = true:=by simpa using he
       exact List.isEmpty_iff.mp this
      have GC:∀ aR,¬ Ap H9 kvs k aR:=fun aR z=>by
       obtain ⟨c',iK,g1,g2,g3⟩ := z
       rw [aS] at g1
       cases g1
       rw [MY] at g2
       cases g2
       rw [kG] at g3
       cases g3
      refine ⟨_,rfl,.inl ⟨rfl,_,B9.of GB⟩,_,rfl,B,_,_,rfl,rfl,GB,Bp (by omega),?_⟩
      have mE:Ar H9 (upd H9 B (.lst (rA ++ [.ref b]))):=Ar.lst GB
      have sI:∀ c' iK,H9 c' = some (.dK iK) -> (upd H9 B (.lst (rA ++ [.ref b]))) c' = some (.dK iK):=fun c' iK e=>by
       rw [Ac (Bw e GB (by intro z; cases z))]
       exact e
      have kl:∀ x xs,x ≠ B -> H9 x = some (.lst xs) -> (upd H9 B (.lst (rA ++ [.ref b]))) x = some (.lst xs):=fun x xs n e=>(Ac n).trans e
      have kH:∀ k' aR,Ap (upd H9 B (.lst (rA ++ [.ref b]))) kvs k' aR ↔ Ap H9 kvs k' aR:=fun k' aR=>Ap.keep oB sI
      obtain ⟨ub,SJ,SK⟩ := hb9
      refine ⟨rA ++ [.ref b],gX ++ [k],_,_,_,rfl,(CQ.trans SI).new hB,oB.FF MZ mE kl sI,A5,(oA.imp fun _ _ z=>Fr.up mE (Fr.up sH.2 z)).append (An.one ⟨b,ub,rfl,mE _ _ SJ,mE _ _ SK⟩),?_,MZ.keep GA sI,(fun k' aR z=>n1 _ _ ((kH k' aR).mp z)),(fun k' aR z1 z2=>(kH k' aR).mpr (n2 _ _ z1 z2)),(fun later hl k' aR z1 z2=>n3 later hl k' aR z1 ((kH k' aR).mp z2)),(fun k'=>?_),(CS.trans sH.2).trans mE,kl _ _ SD (sH.1 _ _ sF),(fun k' aR z=>m5 _ _ (n5 _ _ ((kH k' aR).mp z))),(fun t' b' aR k' z1 z2 z3 z4=>n6 t' b' aR k' z1 z2 z3 ((kH k' aR).mp z4))⟩
      ·rw [E4 GA sI,List.length_append,List.length_singleton]
       omega
      ·have e10:(∀ aR,¬ Ap (upd H9 B (.lst (rA ++ [.ref b]))) kvs k' aR) ↔ ∀ aR,¬ Ap H9 kvs k' aR:=⟨fun z aR y=>z aR ((kH k' aR).mpr y),fun z aR y=>z aR ((kH k' aR).mp y)⟩
       rw [e10]
       by_cases cR:k' = k
       ·subst cR
        exact ⟨fun _=>⟨⟨who,m1 _ _ uz⟩,GC⟩,fun _=>by simp⟩
       ·rw [other k' cR,<- m4 k']
        simp [cR]
     ·have fA : Bu cs (.inl (who : Int)) ≠ [] := fun z => by
       rw [z] at he
       exact absurd he (by decide)
      refine ⟨rA,gX,_,_,_,rfl,CQ.trans SI,oB,GB,oA.imp (fun _ _ z=>Fr.up sH.2 z),by omega,MZ,n1,n2,n3,(fun k'=>?_),CS.trans sH.2,sH.1 _ _ sF,(fun k' aR z=>m5 _ _ (n5 _ _ z)),n6⟩
      by_cases cR:k' = k
      ·subst cR
       refine ⟨fun z=>absurd z hkb,fun z=>?_⟩
       obtain ⟨x,hx⟩ := List.exists_mem_of_ne_nil _ fA
       obtain ⟨nM,l9,us9,g1,_⟩ := rU x (Km hx)
       have hs:(Ad (Bu cs (.inl (who:Int))) (.inl (nM:Int))).isSome = true:=by
        obtain ⟨y,hy⟩ := Jl (k:=x.1) (v:=x.2) hx
        rw [<- g1,hy]
        rfl
       exact absurd ⟨c,_,aS,MY,hs⟩ (z.2 nM)
      ·rw [other k' cR]
       exact m4 k'
    ·have qV : ¬ Ap H8 kvs k who := fun z => by
      obtain ⟨c',iK,g1,g2,g3⟩ := z
      rw [aS] at g1
      cases g1
      rw [hc] at g2
      cases g2
      rw [iU] at g3
      cases g3
     exact ⟨rA,gX,_,_,_,rfl,CQ,kE,MW,oA,wK,MX,m1,m2,m3,m4,CS,sF,m5,taken H8 (fun _ _ z=>z) qV⟩
   rintro σ H8 ⟨rA,gX,v5,v6,v7,rfl,CQ,kE,MW,oA,wK,MX,m1,m2,m3,m4,CS,sF,m5,m6⟩
   refine ⟨rA,gX,_,_,_,_,rfl,CQ,kE,MW,oA,wK,MX,m1,m2,(fun later hl k who z1 z2=>?_),m4⟩
   rw [List.take_add_one,sA] at hl
   rcases List.mem_append.mp hl with y | y
   ·exact m3 later y k who z1 z2
   ·have e1:later = lk:=by simpa using y
    subst e1
    obtain ⟨lx,ux,tx,bx,f1,f2,f3,f4,f5⟩ := (mC k who later (m1 _ _ z2) z1).up lt7
    have ex:=hlx lx f1
    subst ex
    rw [SA] at f2
    cases f2
    refine m6 tx bx who k ?_ f4 f5 z2
    rw [List.take_length]
    exact f3
  rintro σ H' ⟨bs,beta,v4,v5,v6,v7,rfl,ch,eQ,MV,RU,RV,nb,l1,l2,l3,l4⟩
  unfold d7 at l2
  unfold d8 at l3
  rw [uy.1,List.take_length] at l2 l3
  exact ⟨_,rfl,q B bs beta H' hB ch eQ MV RU RV (fun k who=>⟨fun z=>⟨l1 k who z,fun later hl y=>l3 later hl k who y z⟩,fun z=>l2 k who z.1 z.2⟩) l4⟩
def Tp (K:PySem.W.Frag) (aA:Addr):Sp:=fun vs H Q E=>(Ma fun (a:Addr) (ws:List Int) (cm:Option Int)=>Rs (vs = [.ref a]) (B8 H a ws cm) ((∀ w ∈ ws,1 <= w)) (1 <= qv cm) ((∀ w ∈ ws,intBits w <= 256)) (intBits (qv cm) <= 256) (ws.length <= 8) (Am (qv cm) ws <= 3000) (∀ (T:Addr) (tv:List ((List Int × Int) × V)) (H':Hp),H T = none -> Aa H H' -> H' T = some (.dT tv) -> C0 ws cm tv -> (tv.map (·.1)).Nodup -> tv.length <= 60000 -> Q (.ref T) H')) \/ (Ma fun (a:Addr) (ws:List Int) (cm:Option Int)=>K8 (vs = [.ref a]) (B8 H a ws cm) ((∀ w ∈ ws,intBits w <= 256)) (intBits (qv cm) <= 256) (ws.length <= 8) (3000 < Am (qv cm) ws) (∀ H2,Aa H H2 -> E (.ref aA) none H2))
theorem gp {fd uA oC uB:FuncData} (T:Txt K mg ad aA aH aB aI aD aE aF aJ aK aM aG aC) (F:Fb K "ranks" "ranks" Lq ad.cW fd) (wM:Ai P w K mg base (Bi P w) 6 ad.gG uA ["hall"] (Yl K aA)) (wN:Ay K uA ["hall"] []) (oD:Ai P w K mg base (Bi P w) 1 ad.cV oC ["pending"] (To K)) (oE:Ay K oC ["pending"] []) (wO:Ai P w K mg base (Bi P w) 1 ad.gH uB ["pending","ways","ranked"] (Yi K)) (wQ:Ay K uB ["pending","ways","ranked"] []):Ai P w K mg base (Bi P w) 7 ad.cW fd ["hall"] (Tp K aA):=by
 refine F.tE Fj (fun vs H Q E h=>?_) (fun aV A outer s H vs Q E hr h=>?_)
 ·rcases h with ⟨a,ws,cm,rfl,ha,dM,qY,kA,jG,CO,hp,q⟩ | ⟨a,ws,cm,rfl,_,_,_,_,_,_⟩ <;> rfl
 ·obtain h:=h
  refine ⟨_,(A6 (Ah (i:=1) Fj.nd rfl (Or.inl rfl) (Fy wM (hr.mono (by decide)) rfl T.PY T.k_x3 wN .nil Ut (A0 (pv 0) A7))) (A6 (Ah (i:=2) Fj.nd rfl (Or.inl rfl) (Af oD (hr.mono (by decide)) rfl T.EM T.k_x28 oE .nil B0 (A0 (pv 1) A7))) (A6 (Ah (i:=3) Fj.nd rfl (Or.inl rfl) Fz) (A6 (Ah (i:=4) Fj.nd rfl (Or.inl rfl) A8) (A6 (P8 (De (i:=5) Fj.nd rfl (Lc (pv 1)) _ rfl S2 rfl rfl (fun _ _ _ _=>(K2 K (n:=2) rfl (Dl (Ax (i:=0) L5 rfl (Or.inl rfl)) (Dl (Ax (i:=1) L5 rfl (Or.inl rfl)) K3)))) (fun _ _ _ _=>(av (Dr (Uv (pv 1))))) (fun _ _ _ _=>(pv 0)) rfl rfl)) (A6 (Lg Sl (Rb (pv 5) (by intro _; rfl)) (A6 (Co Sl rfl (Dm (w':=Px K _) (Dn (pv 5))) (Ax (i:=6) Fj.nd rfl (Or.inl rfl)) (Ab (Ie (Ep hr) (pv 3) (pv 6) (pv 4) rfl))) (A6 (Ah (i:=5) Fj.nd rfl (Or.inl rfl) (Af wO (hr.mono (by decide)) rfl T.PZ T.k_x0 wQ .nil B0 (A0 (pv 1) (A0 (pv 2) (A0 (pv 5) A7))))) (Ab (Ah (i:=4) Fj.nd rfl (Or.inl rfl) (Al C7 (pv 4) A8)))))) (Ab (Ak (pv 3))))))))),?_⟩
  rcases h with ⟨a,ws,cm,rfl,ha,dM,qY,kA,jG,CO,hp,q⟩ | ⟨a,ws,cm,rfl,ha,hb,fL,eJ,hp,he⟩
  ·refine ⟨_,rfl,E,fun _ _ _ z=>z,.inl ⟨a,ws,cm,rfl,ha,dM,qY,kA,jG,CO,hp,fun D kvs H1 hD s1 eD iD eX nY eI lR=>?_⟩⟩
   have gW:=iD.ok
   refine ⟨_,rfl,D,kvs,ws,cm,rfl,eD,iD,lR,fun W wv H2 hW s2 eW rV SM qR=>?_⟩
   refine fun T hT=>?_
   have s3:Aa H2 (upd H2 T (.dT [])):=Aa.upd hT
   have e3:(upd H2 T (.dT [])) T = some (.dT []):=A5
   generalize upd H2 T (.dT []) = H3 at s3 e3 ⊢
   have lT:=s2.trans s3
   have CT:=lT _ _ eD
   have hTD:T ≠ D:=(Ae (s2 _ _ eD) hT).symm
   refine ⟨D,.dT kvs,trivial,CT,_,rfl,D,.dT kvs,rfl,trivial,CT,fun o=>?_⟩
   have sJ:=iD.keep (LT.of lT) (fun c cs e=>lT _ _ e)
   have SN:=sJ.ok
   have GD:=nY.keep iD (fun c cs e=>lT _ _ e)
   have tF:LT H3 (upd H3 D (.bO o (.dT kvs))):=LT.dT CT
   have kF:∀ c cs,H3 c = some (.dK cs) -> (upd H3 D (.bO o (.dT kvs))) c = some (.dK cs):=fun c cs e=>by
    rw [Ac (Bw e CT (by intro z; cases z))]
    exact e
   have bF:∀ b ob,b ≠ D -> H3 b = some ob -> (upd H3 D (.bO o (.dT kvs))) b = some ob:=fun b ob n e=>(Ac n).trans e
   have dF:(upd H3 D (.bO o (.dT kvs))) D = some (.bO o (.dT kvs)):=A5
   have sL:=sJ.keep tF kF
   have uC:=GD.keep sJ kF
   generalize upd H3 D (.bO o (.dT kvs)) = HF at tF kF bF dF sL uC ⊢
   refine fun R hR=>?_
   refine S1 (K:=K) (d:=D) (o:=o) (u := .dT kvs) (fun i zs H'=>∃ (bK:List (List Int × Int)),Hl (H' R = some (.lst zs)) (zs.length <= i) (An (Fr H') bK zs) (Aa HF H') (∀ k,k ∈ bK ↔ ∃ v,(k,v) ∈ kvs.take i /\ Wp HF v)) ⟨[],A5,Nat.le_refl _,An.nil,Aa.upd hR,fun k=>⟨(fun z=>by cases z),fun ⟨v,z,_⟩=>by rw [List.take_zero] at z; cases z⟩⟩ (by rintro i zs H' _ ⟨_,_,_,_,s,_⟩; exact s _ _ dF) ?_ ?_ ?_ ?_
   ·rintro i x y T2 zs H' hi hit ⟨bK,qW,rT,rB,s',GF⟩ RB
    have QR:i < 3000:=Nat.lt_of_lt_of_le hi lR
    obtain ⟨kk,bb,aS,rfl,w5⟩ := hit
    obtain ⟨c,cs,ey,hc,iE,rU⟩ := sL.1 _ (List.mem_of_getElem? aS)
    have QS:y = .ref c:=ey
    subst QS
    have s4:Aa H' (upd H' T2 (.tup [.ref bb,.ref c])):=Aa.upd RB
    have e4:(upd H' T2 (.tup [.ref bb,.ref c])) T2 = some (.tup [.ref bb,.ref c]):=A5
    generalize upd H' T2 (.tup [.ref bb,.ref c]) = H4 at s4 e4 ⊢
    have CU:=s4 _ _ qW
    refine ⟨_,rfl,c,cs,rfl,.inl (s4 _ _ (s' _ _ hc)),?_⟩
    obtain ⟨ku,rQ,mQ⟩ := w5.up (Ar.of s4)
    refine Gv (fun wR=>?_) (fun wR=>?_)
    ·have kG : cs = [] := by
      have:cs.isEmpty = true:=by simpa using wR
      exact List.isEmpty_iff.mp this
     subst kG
     have tt:Ar H4 (upd H4 R (.lst (zs ++ [.ref bb]))):=Ar.lst CU
     refine ⟨_,rfl,CU,Bp (by omega),bK ++ [kk],A5,by rw [List.length_append,List.length_singleton]; omega,(rB.imp fun _ _ z=>Fr.up tt (Fr.up (Ar.of s4) z)).append (An.one ⟨bb,ku,rfl,tt _ _ rQ,tt _ _ mQ⟩),(s'.trans s4).new hR,fun k=>?_⟩
     rw [List.mem_append,GF,List.mem_singleton,List.take_add_one,aS]
     constructor
     ·rintro (⟨v,z1,z2⟩ | z)
      ·exact ⟨v,List.mem_append_left _ z1,z2⟩
      ·subst z
       exact ⟨.ref c,by simp,c,rfl,hc⟩
     ·rintro ⟨v,z1,z2⟩
      rcases List.mem_append.mp z1 with y | y
      ·exact .inl ⟨v,y,z2⟩
      ·have e1:(k,v) = (kk,.ref c):=by simpa using y
       cases e1
       exact .inr rfl
    ·have fA : cs ≠ [] := fun z => by
      rw [z] at wR
      exact absurd wR (by decide)
     refine ⟨bK,CU,by omega,rB.imp fun _ _ z=>Fr.up (Ar.of s4) z,s'.trans s4,fun k=>?_⟩
     rw [GF,List.take_add_one,aS]
     constructor
     ·rintro ⟨v,z1,z2⟩
      exact ⟨v,List.mem_append_left _ z1,z2⟩
     ·rintro ⟨v,z1,z2⟩
      rcases List.mem_append.mp z1 with y | y
      ·exact ⟨v,y,z2⟩
      ·have e1:(k,v) = (kk,.ref c):=by simpa using y
       cases e1
       obtain ⟨c',e2,e3⟩ := z2
       cases e2
       rw [hc] at e3
       cases e3
       exact absurd rfl fA
   ·rintro σ H1 Q1 Q2 hQ ⟨v,e1,c,cs,e2,r,z⟩
    exact ⟨v,e1,c,cs,e2,r,hQ _ _ z⟩
   ·rintro σ H1 Q1 Q2 hQ ⟨v,e1,z⟩
    exact ⟨v,e1,hQ _ _ z⟩
   rintro zs HG ⟨wU,hRG,rT,rB,sG,uD⟩
   rw [show kvs.take (D9 (.dT kvs)) = kvs from List.take_length] at uD
   have SO:=Fl.start sL eX uC uD
   have GG:=sG _ _ dF
   have RS:D9 (.dT kvs) <= 3000:=lR
   have tG:LT HG (upd HG D (.dT kvs)):=⟨fun b xs e=>by rw [Ac (Bw e GG (by intro z; cases z))]; exact e,fun b xs e=>by rw [Ac (Bw e GG (by intro z; cases z))]; exact e⟩
   have iL:Aa H3 (upd HG D (.dT kvs)):=fun b ob e=>by
    by_cases z:b = D
    ·subst z
     rw [CT] at e
     cases e
     exact A5
    ·exact (Ac z).trans (sG _ _ (bF b ob z e))
   refine ⟨o,GG,?_⟩
   have CU:=tG.1 _ _ hRG
   have GH:An (Fr (upd HG D (.dT kvs))) wU zs:=rB.imp fun _ _ z=>Fr.up tG.2 z
   have cG:∀ c cs,HF c = some (.dK cs) -> (upd HG D (.dT kvs)) c = some (.dK cs):=fun c cs e=>by
    rw [Ac (Bw (sG _ _ e) GG (by intro z; cases z))]
    exact sG _ _ e
   have hR3:H3 R = none:=by
    cases hx:H3 R with
    | none=>rfl
    | some ob =>
     by_cases z:R = D
     ·rw [z,dF] at hR
      cases hR
     ·rw [bF R ob z hx] at hR
      cases hR
   generalize upd HG D (.dT kvs) = H4 at tG iL CU GH cG ⊢
   clear tG hRG rB sG GG
   have GI:=sJ.keep (LT.of iL) (fun c cs e=>iL _ _ e)
   have wV:=GI.ok
   have SQ:Fl ws cm [] wU 1 (Ap H4 kvs):=by
    have e:Ap H4 kvs = Ap HF kvs:=by
     funext k who
     exact propext (Ap.keep sL cG)
    rw [e]
    exact SO
   have SR:∀ k who later,Ap H4 kvs k who -> some later ∈ B7 ws k.1 cm k.2 who -> Cq H4 wv later k who:=fun k who later z1 z2=>((SM k who later ((Ap.keep iD (fun c cs e=>iL _ _ (lT _ _ e))).mp z1) z2).up (LT.of s3)).up (LT.of iL)
   have eD4:=iL _ _ CT
   have eW4:=iL _ _ (s3 _ _ eW)
   have SS:=iL _ _ e3
   have SU:=rV.up ((LT.of s3).trans (LT.of iL)) (Nat.le_refl _)
   have hl4:Cl H4 kvs <= 24000:=by
    have:=Kv wV
    omega
   have hTv:∀ kv ∈ kvs,kv.2 ≠ .ref T:=fun kv aS z=>by
    obtain ⟨c,cs,e1,e2,_⟩ := SN kv aS
    rw [z] at e1
    cases e1
    rw [e3] at e2
    cases e2
   dsimp only
   refine M7 (fun σ' H'=>jm fun (R:Addr) (rs:List V) (bK:List (List Int × Int)) (tv:List ((List Int × Int) × V)) (rank:Int) (v6:Option V)=>K7 (σ' = [some (.ref a),some (.ref D),some (.ref W),some (.ref T),some (.int rank),some (.ref R),v6]) ((tj T kvs H4 H')) (Cp ws cm H' kvs) (H' T = some (.dT tv)) ((tv.map (·.1)).Nodup) (H' R = some (.lst rs)) (An (Fr H') bK rs) (Fl ws cm tv bK rank (Ap H' kvs)) ((Ze kvs H' H4)) (tv.length + rs.length + Cl H' kvs <= 27000))
    (fun σ' H'=>2 * Cl H' kvs + match σ' with
     | [_,_,_,_,_,some (.ref R),_]=>(match H' R with
      | some (.lst [])=>0
      | _=>1)
     | _=>0) ⟨R,zs,wU,[],1,_,rfl,(fun b ob _ e _=>e),GI,SS,List.Pairwise.nil,CU,GH,SQ,(fun _ _ z=>z),by show 0 + zs.length + _ <= _; omega⟩ ?_ ?_
   ·rintro σ' H' ⟨R,rs,bK,tv,rank,v6,rfl,kp,eQ,uE,htv,qW,uy,GJ,vU,hsum⟩
    have sE:=eQ.ok
    refine ⟨_,rfl,_,.inl ⟨_,B9.of qW,rfl⟩,?_⟩
    have kB:=kp D _ hTD.symm eD4 (fun kv aS z=>by
     obtain ⟨c,cs,e1,e2,_⟩ := wV kv aS
     rw [z] at e1
     cases e1
     rw [eD4] at e2
     cases e2)
    refine Gv (fun fA=>?_) (fun kG=>?_)
    ·have SW : 0 < rs.length := by
      cases rs with
      | nil=>exact absurd fA (by decide)
      | cons x xs=>simp
     have hRT:R ≠ T:=Bw qW uE (by intro z; cases z)
     have mu0:(match H' R with
      | some (.lst [])=>0
      | _=>1) = 1:=by
      rw [qW]
      cases rs with
      | nil=>exact absurd SW (by decide)
      | cons x xs=>rfl
     refine ⟨_,rfl,R,rfl,.inl ⟨⟨_,B9.of qW⟩,?_⟩⟩
     refine D3 (K:=K) (a:=R) (xs:=rs) (fun i σ H5=>U4 fun (oF:List ((List Int × Int) × V)) (v6:Option V)=>K8 (σ = [some (.ref a),some (.ref D),some (.ref W),some (.ref T),some (.int rank),some (.ref R),v6]) ((∀ b,b ≠ T -> H5 b = H' b)) (H5 T = some (.dT oF)) ((oF.map (·.1)).Nodup) ((∀ kv ∈ oF,∃ n:Int,kv.2 = .int n /\ 1 <= n /\ n < rank + 1)) ((∀ k,Ad oF k = if k ∈ bK.take i then some (.int rank) else Ad tv k)) (oF.length <= tv.length + i))
      ⟨tv,_,rfl,(fun _ _=>rfl),uE,htv,(fun kv aS=>by obtain ⟨n,e1,e2,e3⟩ := GJ.2.1 kv aS; exact ⟨n,e1,e2,by omega⟩),(fun k=>by rw [List.take_zero,if_neg (by simp)]),Nat.le_refl _⟩ (by rintro i σ H5 _ ⟨_,_,_,e,_⟩; exact B9.of ((e R hRT).trans qW)) ?_ ?_
     ·rintro i u σ H5 hu ⟨oF,v6,rfl,k5,SX,wW,wX,sM,hl5⟩
      have hi:=(List.getElem?_eq_some_iff.mp hu).1
      obtain ⟨k,SY,b,u1,rfl,kA,jG⟩ := uy.get hu
      have hbk:E9 H5 b k:=⟨u1,(k5 b (Bw kA uE (by intro z; cases z))).trans kA,(k5 u1 (Bw jG uE (by intro z; cases z))).trans jG⟩
      refine ⟨_,rfl,_,rfl,_,rfl,T,_,rfl,K9.t SX hbk (Bp (by omega)),?_⟩
      refine ⟨Bl oF k (.int rank),_,rfl,(fun x n=>(Ac n).trans (k5 x n)),A5,fk wW,Rc (P:=fun v=>∃ n:Int,v = .int n /\ 1 <= n /\ n < rank + 1) wX ⟨rank,rfl,GJ.1,by omega⟩,(fun k'=>?_),Nat.le_trans (Cv _ _ _) (by omega)⟩
      rw [E8,sM,List.take_add_one,SY]
      by_cases z:k' = k
      ·rw [if_pos z,if_pos (by rw [z]; simp)]
      ·rw [if_neg z]
       have e:(k' ∈ bK.take i ++ (some k).toList) ↔ k' ∈ bK.take i:=by simp [z]
       by_cases y:k' ∈ bK.take i
       ·rw [if_pos y,if_pos (e.mpr y)]
       ·rw [if_neg y,if_neg (fun x=>y (e.mp x))]
     rintro σ H5 ⟨oF,v65,rfl,k5,SX,wW,wX,sM,hl5⟩
     rw [uy.1,List.take_length] at sM
     have c5:∀ c cs,H' c = some (.dK cs) -> H5 c = some (.dK cs):=fun c cs e=>(k5 c (Bw e uE (by intro z; cases z))).trans e
     have t5:LT H' H5:=⟨fun b xs e=>(k5 b (Bw e uE (by intro z; cases z))).trans e,fun b xs e=>(k5 b (Bw e uE (by intro z; cases z))).trans e⟩
     have GK:=eQ.keep t5 c5
     have kC:=GK.ok
     have NA:∀ k who,Ap H5 kvs k who ↔ Ap H' kvs k who:=fun k who=>Ap.keep eQ c5
     have TC:Ap H5 kvs = Ap H' kvs:=by
      funext k who
      exact propext (NA k who)
     have hl5e:=E4 sE c5
     have kp5:∀ b ob,b ≠ T -> H4 b = some ob -> (∀ kv ∈ kvs,kv.2 ≠ .ref b) -> H5 b = some ob:=fun b ob n e m=>(k5 b n).trans (kp b ob n e m)
     have oG:∀ b ob,b ≠ T -> H4 b = some ob -> (∀ cs,ob ≠ .dK cs) -> H5 b = some ob:=fun b ob n e m=>kp5 b ob n e fun kv aS z=>by
      obtain ⟨c,cs,e1,e2,_⟩ := wV kv aS
      rw [z] at e1
      cases e1
      rw [e] at e2
      exact m cs (Option.some.inj e2)
     have hWT:W ≠ T:=Ae eW hT
     have t45:LT H4 H5:=⟨fun b xs e=>oG b _ (Bw e SS (by intro z; cases z)) e (fun cs z=>nomatch z),fun b xs e=>oG b _ (Bw e SS (by intro z; cases z)) e (fun cs z=>nomatch z)⟩
     refine ⟨_,rfl,_,rfl,_,rfl,D,W,R,kvs,wv,rs,bK,H1,ws,cm,rfl,(k5 D hTD.symm).trans kB,GK,oG W _ hWT eW4 (fun cs z=>nomatch z),SU.up t45 (Nat.le_refl _),(fun k who later z1 z2=>(SR k who later (vU k who ((NA k who).mp z1)) z2).up t45),(k5 R hRT).trans qW,uy.imp (fun _ _ z=>Fr.up t5.2 z),Nat.le_trans (Kv kC) (by omega),fun B bs beta H6 hB ch6 TF hB6 TH GL GN TJ=>?_⟩
     have TK:Fl ws cm oF beta (rank + 1) (Ap H6 kvs):=Fl.step GJ sM wX (fun k who=>by rw [GN,NA]) (fun k=>by rw [TJ,TC])
     have hT6:H6 T = some (.dT oF):=ch6 T _ SX hTv
     refine ⟨_,rfl,_,_,rfl,rfl,⟨B,bs,beta,oF,rank + 1,_,rfl,(fun b ob n e m=>ch6 b ob (kp5 b ob n e m) m),TF,hT6,wW,hB6,TH,TK,(fun k who z=>vU k who ((NA k who).mp ((GN k who).mp z).1)),by omega⟩,?_⟩
     show 2 * Cl H6 kvs + (match H6 B with
      | some (.lst [])=>0
      | _=>1) < 2 * Cl H' kvs + (match H' R with
      | some (.lst [])=>0
      | _=>1)
     rw [mu0,hB6]
     cases bs with
     | nil =>
      show 2 * Cl H6 kvs + 0 < _
      have:Cl H6 kvs + 0 <= Cl H5 kvs:=GL
      omega
     | cons x xs =>
      show 2 * Cl H6 kvs + 1 < _
      rw [List.length_cons] at GL
      omega
    ·have TL : rs = [] := by
      cases rs with
      | nil=>rfl
      | cons x xs=>exact absurd rfl kG
     have GO:bK = []:=by
      have:=uy.1
      rw [TL] at this
      exact List.length_eq_zero_iff.mp this.symm
     rw [GO] at GJ
     refine ⟨_,rfl,q T tv H' (s1.free (s2.free hT)) (fun b ob e=>?_) uE GJ.done htv (by omega)⟩
     have e4:=iL _ _ (lT _ _ (s1 _ _ e))
     refine kp b ob (fun z=>?_) e4 (fun kv aS z=>?_)
     ·have:=s1.free (s2.free hT)
      rw [z,this] at e
      cases e
     ·rw [eI kv aS b z] at e
      cases e
   ·intro σ H0 Q1 Q2 z h1
    obtain ⟨_,e,k,t,h2⟩ := h1
    exact ⟨_,e,k,t,z _ _ h2⟩
  ·exact ⟨_,rfl,E,fun _ _ _ z=>z,.inr ⟨a,ws,cm,rfl,ha,hb,fL,eJ,hp,he⟩⟩
def Tq (K:PySem.W.Frag):Sp:=fun vs H Q _=>cw fun (TB:Addr) (v:V) (o:Option (List Int × Int)) (tv:List ((List Int × Int) × V))=>Hl (vs = [.ref TB,v]) (H TB = some (.dT tv)) (Hn H o v) (Zh tv) (∀ (p:Addr) (H':Hp),Aa H H' -> H' p = some (.tup [.int (told tv o).1,.int (told tv o).2]) -> Q (.ref p) H')
theorem gq {fd  : FuncData} (T:Txt K mg ad aA aH aB aI aD aE aF aJ aK aM aG aC) (F:Fb K "worth" "worth" O6 ad.cX fd):Ai P w K mg base (Bi P w) 1 ad.cX fd ["table","behind"] (Tq K):=by
 refine F.okN iu (fun vs H Q E h=>?_) (fun aV A outer s H vs Q E hr h=>?_)
 ·rcases h with ⟨TB,v,o,tv,rfl,hT,hv,rC,q⟩ <;> rfl
 ·obtain ⟨TB,v,o,tv,rfl,hT,hv,rC,q⟩ := h
  refine ⟨_,(A6 (Cg (Bc L8 (pv 1) Cy (Bh _)) (Ab (Ak (Bt (A0 A8 (A0 A8 A7))))) As) (A6 (Cg (J2 (Sn (Ep hr) (pv 1) (pv 0)) rfl) (Ab (Ak (Bt (A0 A8 (A0 (Ei (Ep hr) (pv 0) (pv 1) (fun _ _=>rfl)) A7))))) As) (Ab (Ak (Bt (A0 A8 (A0 A8 A7))))))),?_⟩
  cases o with
  | none =>
   have ev:v = .aW:=hv
   subst ev
   exact ⟨_,rfl,rfl,_,rfl,N8 rfl ⟨Bf,fun p hp=>q p _ (Aa.upd hp) A5⟩⟩
  | some k =>
   obtain ⟨p,ev,dQ⟩ := hv
   subst ev
   refine ⟨_,rfl,rfl,_,rfl,Dk rfl ?_⟩
   refine ⟨_,rfl,_,rfl,TB,_,rfl,D2.t hT (show E9 H p k from dQ),_,rfl,Gv (fun hn=>?_) (fun hn=>?_)⟩
   ·obtain ⟨v,hv⟩ := Option.isSome_iff_exists.mp hn
    obtain ⟨m,e⟩ := rC k v hv
    subst e
    have dg:D2 H TB (.ref p) (some (.int m)):=by
     rw [<- hv]
     exact D2.t hT dQ
    refine ⟨_,rfl,_,rfl,TB,_,rfl,dg,Bf,fun p2 DU=>q p2 _ (Aa.upd DU) ?_⟩
    have e:told tv (some k) = (0,m):=by
     show Jk (Ad tv k) = _
     rw [hv]
     rfl
    rw [e]
    exact A5
   ·refine ⟨Bf,fun p2 DU=>q p2 _ (Aa.upd DU) ?_⟩
    have e:told tv (some k) = (1,0):=by
     show Jk (Ad tv k) = _
     cases hv:Ad tv k with
     | none=>rfl
     | some v=>rw [hv] at hn; exact absurd rfl hn
    rw [e]
    exact A5
def Te (K:PySem.W.Frag):Sp:=fun vs H Q _=>cu fun (a TB b:Addr) (ws ls:List Int) (cm:Option Int) (q w:Int) (who:Nat) (tv:List ((List Int × Int) × V))=>U1 (vs = [.ref a,.ref TB,.ref b,.int w]) (w = (who:Int)) (B8 H a ws cm) (Ec H b ls q) (H TB = some (.dT tv)) (Zh tv) (who < ws.length) (ls.length = ws.length) (ws.length <= 8) ((∀ x ∈ ws,1 <= x)) (∀ (p:Addr) (H':Hp),Aa H H' -> H' p = some (.tup [.int (Fs tv ws ls cm q who).1,.int (Fs tv ws ls cm q who).2]) -> Q (.ref p) H')
theorem fz {fd oH cM:FuncData} (T:Txt K mg ad aA aH aB aI aD aE aF aJ aK aM aG aC) (F:Fb K "call_worth" "call_worth" Lm ad.cY fd) (oI:Ai P w K mg base (Bi P w) 1 ad.cX oH ["table","behind"] (Tq K)) (oJ:Ay K oH ["table","behind"] []) (eC:Ai P w K mg base (Bi P w) 5 ad.bW cM ["hall","standing","who"] (Lv K)) (eF:Ay K cM ["hall","standing","who"] []):Ai P w K mg base (Bi P w) 6 ad.cY fd ["hall","table","standing","who"] (Te K):=by
 refine F.okN io (fun vs H Q E h=>?_) (fun aV A outer s H vs Q E hr h=>?_)
 ·rcases h with ⟨a,TB,b,ws,ls,cm,n,w0,who,tv,rfl,rfl,ha,hb,hT,rC,hw,hl,h8,dM,q⟩ <;> rfl
 ·obtain ⟨a,TB,b,ws,ls,cm,n,w0,who,tv,rfl,rfl,ha,hb,hT,rC,hw,hl,h8,dM,q⟩ := h
  refine ⟨_,(Ab (Ak (Ba (Vd K hr rfl) (by rfl) T.tZ boot_min (A0 (K1 (Dm (w':=Px K _) (Dn (Af eC (hr.mono (by decide)) rfl T.nC T.k_x14 eF .nil B0 (A0 (pv 0) (A0 (pv 2) (A0 (pv 3) A7)))))) _ rfl Jp rfl rfl (fun _ _ _ _=>(Ax (i:=0) Jt rfl (Or.inl rfl))) (fun _ _ _ _=>Dy) (fun _ _ _ _=>(Af oI (hr.mono (by decide)) rfl T.EO T.k_x32 oJ .nil B0 (A0 (pv 1) (A0 (pv 0) A7))))) A7)))),?_⟩
  have hbl:(B7 ws ls cm n who).length <= 2:=by
   unfold B7
   split <;> simp
  refine ⟨_,rfl,_,rfl,_,rfl,a,b,ws,ls,cm,n,_,who,rfl,rfl,ha,hb,hw,hl,h8,fun l us H1 CJ s1 el lD=>⟨l,rfl,.inl ⟨⟨_,B9.of el⟩,fun W hW=>?_⟩⟩⟩
  have TM:=lD.1
  refine Ge (K:=K) (a:=l) (xs:=us) (fun i zs H'=>zs.length = i /\ Rx H' (fun j=>told tv ((B7 ws ls cm n who).getD j none)) zs /\ H' W = some (.lst zs) /\ Aa H1 H') ⟨rfl,(fun j u h=>by simp at h),A5,Aa.upd hW⟩ (by rintro i zs H' _ ⟨_,_,_,s⟩; exact B9.of (s _ _ el)) ?_ ?_
  ·rintro i y zs H' hy ⟨rT,rB,qZ,s'⟩ Qe hQ
   obtain ⟨o,ho,hyo⟩ := lD.get hy
   have hi:=(List.getElem?_eq_some_iff.mp hy).1
   refine ⟨_,rfl,_,rfl,TB,y,o,tv,rfl,(s1.trans s') _ _ hT,hyo.up (Ar.of s'),rC,fun p H2 s2 e2=>?_⟩
   have NB:=s2 _ _ qZ
   have tt:Ar H2 (upd H2 W (.lst (zs ++ [.ref p]))):=Ar.lst NB
   refine hQ _ _ NB (Bx (by omega)) ⟨by rw [List.length_append,List.length_singleton]; omega,rB.snoc ((Ar.of s2).trans tt) rT (tt _ _ ?_),A5,(s'.trans s2).new hW⟩
   have eo:(B7 ws ls cm n who).getD i none = o:=by rw [List.getD_eq_getElem?_getD,ho]; rfl
   show H2 p = some (.tup [.int (told tv ((B7 ws ls cm n who).getD i none)).1,.int (told tv ((B7 ws ls cm n who).getD i none)).2])
   rw [eo]
   exact e2
  rintro zs H2 ⟨rT,rB,NB,s2⟩
  have TN:zs.length = (B7 ws ls cm n who).length:=by omega
  have gM:=s1.trans s2
  have kA:0 < (B7 ws ls cm n who).length:=by
   unfold B7
   simp
  refine ⟨W,_,_,rfl,B9.of NB,rB.rp TN,by omega,Ua _ _,Ue _ _,fun v hv=>?_⟩
  obtain ⟨p,e1,e2⟩ := rB _ v hv
  subst e1
  refine q p H2 gM ?_
  rw [e2]
  have key:told tv ((B7 ws ls cm n who).getD (Jv ((List.range (B7 ws ls cm n who).length).map fun i=>wd (told tv ((B7 ws ls cm n who).getD i none)))) none) = Fs tv ws ls cm n who:=by
   by_cases hm:Kz cm n = true
   ·have eb : B7 ws ls cm n who = [Dv ws ls cm n who false, Dv ws ls cm n who true] := by
     unfold B7
     rw [if_pos hm]
    rw [eb]
    unfold Fs fi
    rw [if_pos hm]
    have el2:Jv ((List.range [Dv ws ls cm n who false,Dv ws ls cm n who true].length).map fun i=>wd (told tv ([Dv ws ls cm n who false,Dv ws ls cm n who true].getD i none))) = if Gy (told tv (Dv ws ls cm n who false)) (told tv (Dv ws ls cm n who true)) = true then 1 else 0:=by
     rw [<- fg]
     unfold Jv
     rw [show ((List.range [Dv ws ls cm n who false,Dv ws ls cm n who true].length).map fun i=>wd (told tv ([Dv ws ls cm n who false,Dv ws ls cm n who true].getD i none))).length - 1 = 0 + 1 from rfl,Dz]
     rfl
    rw [el2]
    by_cases y:Gy (told tv (Dv ws ls cm n who false)) (told tv (Dv ws ls cm n who true)) = true
    ·rw [if_pos y,if_pos y]
     rfl
    ·rw [if_neg y,if_neg y]
     rfl
   ·have eb : B7 ws ls cm n who = [Dv ws ls cm n who false] := by
     unfold B7
     rw [if_neg hm]
    rw [eb]
    unfold Fs
    rw [if_neg hm]
    rfl
  rw [<- key]
def Th (K:PySem.W.Frag):Sp:=fun vs H Q _=>cx fun (a TB b:Addr) (ws ls:List Int) (cm:Option Int) (q:Int) (tv:List ((List Int × Int) × V))=>K7 (vs = [.ref a,.ref TB,.ref b]) (B8 H a ws cm) (Ec H b ls q) (H TB = some (.dT tv)) (Zh tv) (0 < ws.length) (ls.length = ws.length) (ws.length <= 8) ((∀ x ∈ ws,1 <= x)) (∀ (j:Nat) (H':Hp),Aa H H' -> Ds (fun i=>Fs tv ws ls cm q i) ws.length j -> Q (.int (j:Int)) H')
theorem gc {fd oK:FuncData} (T:Txt K mg ad aA aH aB aI aD aE aF aJ aK aM aG aC) (F:Fb K "best_call" "best_call" Lo ad.cZ fd) (oM:Ai P w K mg base (Bi P w) 6 ad.cY oK ["hall","table","standing","who"] (Te K)) (oN:Ay K oK ["hall","table","standing","who"] []):Ai P w K mg base (Bi P w) 7 ad.cZ fd ["hall","table","standing"] (Th K):=by
 refine F.okN Yc (fun vs H Q E h=>?_) (fun aV A outer s H vs Q E hr h=>?_)
 ·rcases h with ⟨a,TB,b,ws,ls,cm,n,tv,rfl,ha,hb,hT,rC,w4,hl,h8,dM,q⟩ <;> rfl
 ·obtain ⟨a,TB,b,ws,ls,cm,n,tv,rfl,ha,hb,hT,rC,w4,hl,h8,dM,q⟩ := h
  refine ⟨_,(A6 (De (i:=3) Yc.nd rfl (D7 (by rfl) T.bJ (A0 (Ba (C5 K) (by rfl) T.bS PySem.boot_len (A0 (Bg (Be K) (pv 0) A8 (fun _ _=>rfl)) A7)) A7)) _ rfl Kh rfl rfl (fun _ _ _ _=>(Ax (i:=0) L4 rfl (Or.inl rfl))) (fun _ _ _ _=>Dy) (fun _ _ _ _=>(Af oM (hr.mono (by decide)) rfl T.ER T.k_x15 oN .nil B0 (A0 (pv 1) (A0 (pv 2) (A0 (pv 3) (A0 (pv 0) A7)))))) rfl rfl) (Ab (Ak (Dx (u':=Ts K _ _ _ _) (Eh PySem.F.plainAttrs_list PySem.F.slot_list_index PySem.F.type_list_index (W3 hr) (pv 3) (A0 (Ba (Vb K hr rfl) (by rfl) T.tY boot_max (A0 (pv 3) A7)) A7)))))),?_⟩
  obtain ⟨wt,bU,bZ⟩ := id ha
  refine ⟨_,rfl,a,_,_,_,rfl,rfl,.inr (Cj.of bU),rfl,wt,_,rfl,.inr (Cj.of bZ),_,rfl,by omega,by rw [List.length_map]; omega,fun D hD=>?_⟩
  refine Fe (cnt:=((ws.map V.int).length:Int).toNat) (fun j ys H'=>ys.length = j /\ Rx H' (fun i=>Fs tv ws ls cm n i) ys /\ H' D = some (.lst ys) /\ Aa H H') ⟨rfl,(fun i u h=>by simp at h),A5,Aa.upd hD⟩ ?_ ?_
  ·rintro j ys H5 hj ⟨TQ,GP,nZ,s5⟩ Qe hQ
   rw [List.length_map] at hj
   have hj':j < ws.length:=by omega
   refine ⟨_,rfl,_,rfl,_,rfl,_,rfl,a,TB,b,ws,ls,cm,n,_,j,tv,rfl,Int.zero_add _,ha.same s5,hb.same s5,s5 _ _ hT,rC,hj',hl,h8,dM,fun p2 H6 s6 e6=>?_⟩
   have GQ:=s6 _ _ nZ
   have tt:Ar H6 (upd H6 D (.lst (ys ++ [.ref p2]))):=Ar.lst GQ
   exact hQ _ _ GQ (Bx (by omega)) ⟨by rw [List.length_append,List.length_singleton]; omega,GP.snoc ((Ar.of s6).trans tt) TQ (tt _ _ e6),A5,(s5.trans s6).new hD⟩
  rintro ys H5 ⟨TQ,GP,nZ,s5⟩
  have GR:ys.length = ws.length:=by
   rw [TQ,List.length_map]
   omega
  refine ⟨_,rfl,.inl ⟨rfl,_,B9.of nZ⟩,_,rfl,D,_,_,rfl,B9.of nZ,GP.rp GR,by omega,Ua _ _,Ue _ _,fun vb mS=>?_⟩
  obtain ⟨pb,NC,TR⟩ := GP _ vb mS
  subst NC
  obtain ⟨j,j1,j2,j3⟩ := ki (Pr:=fun m=>Fs tv ws ls cm n m = Fs tv ws ls cm n (Di ((List.range ws.length).map fun i=>wd (Fs tv ws ls cm n i)))) _ rfl
  have hbi:Ds (fun i=>Fs tv ws ls cm n i) ws.length j:=Ds.of w4 j1 j2 j3
  refine ⟨D,ys,_,wd (Fs tv ws ls cm n (Di ((List.range ws.length).map fun i=>wd (Fs tv ws ls cm n i)))),_,j,rfl,rfl,B9.of nZ,cn TR,GP.rp GR,Qg _,⟨_,Zx _ hbi.1,by rw [X8]; exact decide_eq_true j2⟩,(fun m e hm he=>by rw [Xd he,X8]; exact decide_eq_false (j3 m hm)),?_⟩
  exact q j H5 s5 hbi
def Pl (K:PySem.W.Frag) (aA:Addr):Sp:=fun vs H Q E=>(Ma fun (a:Addr) (ws:List Int) (cm:Option Int)=>Hl (vs = [.ref a]) (B8 H a ws cm) (Du ws cm) ((∀ (tv:List ((List Int × Int) × V)) (H':Hp),Aa H H' -> C0 ws cm tv -> (tv.map (·.1)).Nodup -> (Ad tv (ws,0)).isSome = true -> Q .aW H')) (∀ (p:Addr) (us:List V) (ps tv:List ((List Int × Int) × V)) (H':Hp),Aa H H' -> H p = none -> H' p = some (.lst us) -> C0 ws cm tv -> (tv.map (·.1)).Nodup -> Ad tv (ws,0) = none -> Jn ws cm tv ps -> An (Z5 H') ps us -> Q (.ref p) H')) \/ (Ma fun (a:Addr) (ws:List Int) (cm:Option Int)=>K8 (vs = [.ref a]) (B8 H a ws cm) ((∀ w ∈ ws,intBits w <= 256)) (intBits (qv cm) <= 256) (ws.length <= 8) (3000 < Am (qv cm) ws) (∀ H2,Aa H H2 -> E (.ref aA) none H2))
theorem g0 {fd oO fQ oP cM:FuncData} (T:Txt K mg ad aA aH aB aI aD aE aF aJ aK aM aG aC) (F:Fb K "kept_paper" "kept_paper" Nw ad.cI fd) (oQ:Ai P w K mg base (Bi P w) 7 ad.cW oO ["hall"] (Tp K aA)) (oS:Ay K oO ["hall"] []) (fR:Ai P w K mg base (Bi P w) 1 ad.cF fQ ["hall"] (Pm K)) (fS:Ay K fQ ["hall"] []) (oU:Ai P w K mg base (Bi P w) 7 ad.cZ oP ["hall","table","standing"] (Th K)) (oV:Ay K oP ["hall","table","standing"] []) (eC:Ai P w K mg base (Bi P w) 5 ad.bW cM ["hall","standing","who"] (Lv K)) (eF:Ay K cM ["hall","standing","who"] []):Ai P w K mg base (Bi P w) 8 ad.cI fd ["hall"] (Pl K aA):=by
 refine F.tE Lr (fun vs H Q E h=>?_) (fun aV A outer s H vs Q E hr h=>?_)
 ·rcases h with ⟨a,ws,cm,rfl,ha,aP,q0,q⟩ | ⟨a,ws,cm,rfl,_,_,_,_,_,_⟩ <;> rfl
 ·obtain h:=h
  refine ⟨_,(A6 (Ah (i:=1) Lr.nd rfl (Or.inl rfl) (Fy oQ (hr.mono (by decide)) rfl T.EN T.k_x31 oS .nil Ut (A0 (pv 0) A7))) (A6 (Cg (J2 (Sn (Ep hr) (Af fR (hr.mono (by decide)) rfl T.nA T.k_x18 fS .nil B0 (A0 (pv 0) A7)) (pv 1)) rfl) (Ab (Ak Cy)) As) (A6 (Ah (i:=2) Lr.nd rfl (Or.inl rfl) Fz) (A6 (Ah (i:=3) Lr.nd rfl (Or.inl rfl) (Cw (A0 (Af fR (hr.mono (by decide)) rfl T.nA T.k_x18 fS .nil B0 (A0 (pv 0) A7)) A7))) (A6 (Lg Sl (Rb (pv 3) (by intro _; rfl)) (A6 (Ah (i:=4) Lr.nd rfl (Or.inl rfl) (Dx (u':=iw K _ _ _) (So PySem.F.plainAttrs_list PySem.F.slot_list_pop PySem.F.type_list_pop fj (pv 3)))) (Ab (E6 (J2 (J1 (Ep hr) (pv 4) (pv 2)) rfl) (A6 (Ie (Ep hr) (pv 2) (pv 4) (Af oU (hr.mono (by decide)) rfl T.ES T.k_x20 oV .nil B0 (A0 (pv 0) (A0 (pv 1) (A0 (pv 4) A7)))) rfl) (Ab (Ce (Dx (u':=Ts K _ _ _ _) (Eh PySem.F.plainAttrs_list PySem.F.slot_list_extend PySem.F.type_list_extend Iz (pv 3) (A0 (Af eC (hr.mono (by decide)) rfl T.nC T.k_x14 eF .nil B0 (A0 (pv 0) (A0 (pv 4) (A0 (Ei (Ep hr) (pv 2) (pv 4) (fun _ _=>rfl)) A7)))) A7)))))) As)))) (Ab (Ak (Ba (S0 hr rfl) (by rfl) T.nF boot_sorted (A0 (So PySem.F.plainAttrs_dict PySem.F.slot_dict_items PySem.F.type_dict_items W4 (pv 2)) A7))))))))),?_⟩
  rcases h with ⟨a,ws,cm,rfl,ha,aP,q0,q⟩ | ⟨a,ws,cm,rfl,ha,hb,fL,eJ,hp,he⟩
  ·obtain ⟨wt,bU,bZ⟩ := id ha
   have hq:=aP.qv
   have dM:∀ x ∈ ws,1 <= x:=fun x hx=>(aP.1 x hx).1
   have h8:=aP.2.2.2.1
   have w4:=aP.2.2.1
   refine ⟨_,rfl,E,fun _ _ _ z=>z,.inl ⟨a,ws,cm,rfl,ha,(fun w hw=>(aP.1 w hw).1),hq.1,(fun w hw=>Fv (by have:=aP.1 w hw; omega) (aP.1 w hw).2),Fv (by omega) hq.2,aP.2.2.2.1,(by have:=aP.2.2.2.2; omega),fun TB tv H1 hTB s1 ND nN tT htl=>?_⟩⟩
   have rC:Zh tv:=fun k v hv=>by
    obtain ⟨m,e,_⟩ := nN.1 k v hv
    exact ⟨m,e⟩
   refine ⟨_,rfl,a,ws,cm,rfl,ha.same s1,fun b0 H2 s2 tO=>?_⟩
   have gM:=s1.trans s2
   refine ⟨_,rfl,TB,_,rfl,D2.t (s2 _ _ ND) (show E9 H2 b0 (ws,0) from tO),_,rfl,?_⟩
   refine Gv (fun h=>q0 tv H2 gM nN tT h) (fun hnv=>?_)
   have lU:Ad tv (ws,0) = none:=by
    cases e:Ad tv (ws,0) with
    | none=>rfl
    | some v=>rw [e] at hnv; exact absurd rfl hnv
   have TU:Sf ws cm tv (ws,0):=⟨Rh rfl (fun i hi=>⟨dM _ (by rw [List.getD_eq_getElem?_getD,List.getElem?_eq_getElem hi]; exact List.getElem_mem hi),Int.le_refl _⟩) (Int.le_refl _) (by have:=hq.1; show (0:Int) < qv cm; omega),lU,.base⟩
   refine fun C hC=>?_
   have s3:Aa H2 (upd H2 C (.dT [])):=Aa.upd hC
   have e3:(upd H2 C (.dT [])) C = some (.dT []):=A5
   generalize upd H2 C (.dT []) = H3 at s3 e3 ⊢
   refine ⟨_,rfl,a,ws,cm,rfl,(ha.same gM).same s3,fun b1 H4 s4 kA=>?_⟩
   refine ⟨Bf,fun L hL=>?_⟩
   have s5:Aa H4 (upd H4 L (.lst [.ref b1])):=Aa.upd hL
   have e5:(upd H4 L (.lst [.ref b1])) L = some (.lst [.ref b1]):=A5
   generalize upd H4 L (.lst [.ref b1]) = H5 at s5 e5 ⊢
   have hC2:H2 C = none:=hC
   have wY:H2 L = none:=by
    cases e:H2 L with
    | none=>rfl
    | some o=>rw [s4 _ _ (s3 _ _ e)] at hL; cases hL
   have GS:Aa H2 H5:=(s3.trans s4).trans s5
   obtain ⟨bu,TV,TX⟩ := kA.same s5
   dsimp only
   refine k9 ?_
   refine ni ?_
   refine M7 (fun σ' H'=>cw fun (es:List V) (E:List (List Int × Int)) (cv:List ((List Int × Int) × V)) (v4:Option V)=>K8 (σ' = [some (.ref a),some (.ref TB),some (.ref C),some (.ref L),v4]) (Aa H2 H') (H' L = some (.lst es)) (An (Fr H') E es) (H' C = some (.dT cv)) (Of ws cm tv cv E) (E.length <= 2 * cv.length + 1))
    (fun _ H'=>3 * (3001 - Nd (H' C)) + Ov (H' L)) ⟨[.ref b1],[(ws,0)],[],none,rfl,GS,e5,An.one ⟨b1,bu,rfl,TV,TX⟩,s5 _ _ (s4 _ _ e3),Of.start TU,by simp⟩ ?_ ?_
   ·rintro σ' H' ⟨es,E,cv,v4,rfl,s',jJ,jC,uF,jX,hEl⟩
    have iE:=jX.len aP
    refine ⟨_,rfl,_,.inl ⟨_,B9.of jJ,rfl⟩,?_⟩
    refine Gv (fun fA=>?_) (fun kG=>?_)
    ·have TY : 0 < es.length := by
      cases es with
      | nil=>exact absurd fA (by decide)
      | cons x xs=>simp
     have NF:=jC.1
     obtain ⟨y,hy⟩ := af TY
     refine ⟨_,rfl,.inl ⟨rfl,_,B9.of jJ⟩,L,es,y,rfl,rfl,jJ,hy,?_⟩
     obtain ⟨k,SY,b,b2,rfl,TZ,UA⟩ := jC.get hy
     have eE:E = E.take (es.length - 1) ++ [k]:=by
      have h1:=List.take_append_drop (es.length - 1) E
      have h2:E.drop (es.length - 1) = [k]:=by
       rw [List.drop_eq_getElem_cons (by omega),(List.getElem?_eq_some_iff.mp SY).2,List.drop_of_length_le (by omega)]
      rw [h2] at h1
      exact h1.symm
     have CV:C ≠ L:=Bw uF jJ (by intro z; cases z)
     have hTL:TB ≠ L:=fun z=>by rw [z] at ND; exact absurd (s2 _ _ ND) (by rw [wY]; exact fun h=>nomatch h)
     have t4:Ar H' (upd H' L (.lst es.dropLast)):=Ar.lst jJ
     have NG:(upd H' L (.lst es.dropLast)) L = some (.lst es.dropLast):=A5
     have GU:(upd H' L (.lst es.dropLast)) C = some (.dT cv):=(Ac CV).trans uF
     have uG:Aa H2 (upd H' L (.lst es.dropLast)):=s'.new wY
     generalize upd H' L (.lst es.dropLast) = H6 at t4 NG GU uG ⊢
     have sO:Ec H6 b k.1 k.2:=⟨b2,t4 _ _ TZ,t4 _ _ UA⟩
     have sP:An (Fr H6) (E.take (es.length - 1)) es.dropLast:=by
      rw [List.dropLast_eq_take]
      exact (jC.imp (fun _ _ y=>Fr.up t4 y)).take _
     have hl6:(E.take (es.length - 1)).length = E.length - 1:=by rw [List.length_take]; omega
     rw [eE] at jX
     generalize E.take (es.length - 1) = E0 at jX sP hl6 eE
     have hm0:Ov (H' L) = es.length:=by rw [jJ]; rfl
     have mB:Nd (H' C) = cv.length:=by rw [uF]; rfl
     refine ⟨_,rfl,_,rfl,C,_,rfl,D2.t GU (show E9 H6 b k from sO),_,rfl,(fun σ'' H7=>cw fun (es:List V) (E:List (List Int × Int)) (UB:List ((List Int × Int) × V)) (v4:Option V)=>Z9 (σ'' = [some (.ref a),some (.ref TB),some (.ref C),some (.ref L),v4]) (Aa H2 H7) (H7 L = some (.lst es)) (An (Fr H7) E es) (H7 C = some (.dT UB)) (Of ws cm tv UB E) (E.length <= 2 * UB.length + 1) (3 * (3001 - Nd (H7 C)) + Ov (H7 L) < 3 * (3001 - Nd (H' C)) + Ov (H' L))),fun h=>?_,fun h=>?_,?_⟩
     ·have GV : Ad cv k = none := by
       cases e:Ad cv k with
       | none=>rfl
       | some v=>rw [e] at h; cases h
      have GW:Sf ws cm tv k:=jX.sf k (by simp)
      have lR:k.1.length = ws.length:=(F9 GW.1).1
      refine ⟨_,rfl,_,rfl,_,rfl,a,TB,b,ws,k.1,cm,k.2,tv,rfl,(ha.same gM).same uG,sO,uG _ _ (s2 _ _ ND),rC,w4,lR,h8,dM,fun j H7 s7 dI=>?_⟩
      have hC7:=s7 _ _ GU
      have hL7:=s7 _ _ NG
      refine ⟨_,rfl,_,rfl,C,_,rfl,K9.t hC7 (show E9 H7 b k from sO.same s7) (Bp (by omega)),?_⟩
      have OE:L ≠ C:=fun z=>CV z.symm
      have k8:∀ b o,b ≠ C -> H7 b = some o -> (upd H7 C (.dT (Bl cv k (.int (j:Int))))) b = some o:=fun b o n e=>(Ac n).trans e
      have UC:(upd H7 C (.dT (Bl cv k (.int (j:Int))))) C = some (.dT (Bl cv k (.int (j:Int)))):=A5
      generalize upd H7 C (.dT (Bl cv k (.int (j:Int)))) = H8 at k8 UC ⊢
      have t8:Ar H7 H8:=fun b xs e=>k8 b _ (Bw e hC7 (by intro z; cases z)) e
      have s8:Aa H2 H8:=fun b o e=>k8 b o (Ae e hC2) (s7 _ _ (uG _ _ e))
      have hL8:=k8 _ _ OE hL7
      have GX:Ec H8 b k.1 k.2:=(sO.same s7).up t8
      have ev:Ad (Bl cv k (.int (j:Int))) k = some (.int (j:Int)):=by rw [E8,if_pos rfl]
      refine ⟨_,rfl,.inl ⟨rfl,_,B9.of hL8⟩,_,rfl,_,rfl,_,rfl,_,rfl,C,.int (j:Int),rfl,(by rw [<- ev]; exact D2.t UC (show E9 H8 b k from GX)),a,b,ws,k.1,cm,k.2,(j:Int),j,rfl,rfl,(ha.same gM).same s8,GX,dI.1,lR,h8,fun l us H9 hl9 s9 GY hall=>?_⟩
      obtain ⟨Eb,NC,TR,eb3⟩ := Zk nN aP GW dI
      rw [NC] at hall
      have jN:=Wt hall
      have hL9:=s9 _ _ hL8
      have hel6:=sP.1
      have TM:=jN.1
      refine ⟨L,l,es.dropLast,us,rfl,rfl,hL9,GY,Nat.le_of_lt (Bp (by omega)),?_⟩
      have mE:Ar H9 (upd H9 L (.lst (es.dropLast ++ us))):=Ar.lst hL9
      have GZ:(upd H9 L (.lst (es.dropLast ++ us))) C = some (.dT (Bl cv k (.int (j:Int)))):=(Ac CV).trans (s9 _ _ UC)
      have kP:(Bl cv k (.int (j:Int))).length = cv.length + 1:=by rw [Dp _ GV,List.length_append,List.length_singleton]
      refine ⟨es.dropLast ++ us,E0 ++ Eb,Bl cv k (.int (j:Int)),_,rfl,(s8.trans s9).new wY,A5,((sP.imp fun _ _ y=>Fr.up (((Ar.of s7).trans t8).trans ((Ar.of s9).trans mE)) y).append (jN.imp fun _ _ y=>Fr.up mE y)),GZ,jX.put GV dI NC TR,?_,?_⟩
      ·rw [List.length_append,kP,hl6]
       omega
      ·have m1:Ov ((upd H9 L (.lst (es.dropLast ++ us))) L) = (es.dropLast ++ us).length:=by rw [A5]; rfl
       have m2:Nd ((upd H9 L (.lst (es.dropLast ++ us))) C) = cv.length + 1:=by rw [GZ]; exact kP
       rw [m1,m2,hm0,mB,List.length_append,List.length_dropLast]
       omega
     ·have gB : k ∈ cv.map (·.1) := by
       cases e:Ad cv k with
       | none=>rw [e] at h; cases h
       | some v=>exact Pt e
      refine ⟨es.dropLast,E0,cv,_,rfl,uG,NG,sP,GU,jX.skip gB,by omega,?_⟩
      have m1:Ov (H6 L) = es.dropLast.length:=by rw [NG]; rfl
      have m2:Nd (H6 C) = cv.length:=by rw [GU]; rfl
      rw [m1,m2,hm0,mB,List.length_dropLast]
      omega
     ·rintro σ'' H7 ⟨es7,E7,cv7,v47,rfl,a1,a2,a3,a4,a5,a6,a7⟩
      exact ⟨⟨es7,E7,cv7,v47,rfl,a1,a2,a3,a4,a5,a6⟩,a7⟩
    ·have UD : es = [] := by
      cases es with
      | nil=>rfl
      | cons x xs=>exact absurd rfl kG
     have UE:E = []:=by
      have h1:=jC.1
      rw [UD] at h1
      exact List.length_eq_zero_iff.mp h1.symm
     subst UE
     refine ⟨_,rfl,.inr (.inr (.inl ⟨rfl,.inr ⟨cv,uF⟩⟩)),C,cv,rfl,rfl,uF,fun vw hvw=>?_⟩
     have sV:Aa H' (upd H' vw (Q5 vw C)):=Aa.upd hvw
     refine ⟨vw,C,cv,Hi,(fun kv=>(Bk ws (qv cm)).idxOf kv.1),rfl,A5,sV _ _ uF,(fun kv aS=>?_),Sd jX,fun p us ps H9 s9 hp e9 fM mY HA=>?_⟩
     ·obtain ⟨_,j,ej,_⟩ := jX.ent kv aS
      have e:Hi kv = .int j:=by unfold Hi; rw [ej]
      rw [e,ej]
      exact ⟨Pb _,by show 0 <= 40; omega⟩
     ·have hpH : H p = none := by
       cases e:H p with
       | none=>rfl
       | some o=>rw [sV _ _ (s' _ _ (gM _ _ e))] at hp; cases hp
      exact q p us ps tv H9 (((gM.trans s').trans sV).trans s9) hpH e9 nN tT lU (ae jX fM mY) (La HA)
   ·intro σ H0 Q1 Q2 z h1
    obtain ⟨_,e,k,t,h2⟩ := h1
    exact ⟨_,e,k,t,z _ _ h2⟩
  ·exact ⟨_,rfl,E,fun _ _ _ z=>z,.inr ⟨a,ws,cm,rfl,ha,hb,fL,eJ,hp,he⟩⟩
def Pk (K:PySem.W.Frag) (aA:Addr):Sp:=fun vs H Q E=>(Ma fun (a:Addr) (ws:List Int) (cm:Option Int)=>Hl (vs = [.ref a]) (B8 H a ws cm) (Du ws cm) ((∀ (tv:List ((List Int × Int) × V)) (H':Hp),Aa H H' -> C0 ws cm tv -> (Ad tv (ws,0)).isSome = true -> Q .aW H')) (∀ (p l r:Addr) (lead row:List Nat) (ps tv:List ((List Int × Int) × V)) (H':Hp),Aa H H' -> H l = none -> H r = none -> l ≠ r -> H' p = some (.tup [.ref l,.ref r]) -> H' l = some (.lst (B6 lead)) -> H' r = some (.lst (B6 row)) -> C0 ws cm tv -> Ad tv (ws,0) = none -> Jn ws cm tv ps -> Z7 ws cm ps lead row -> (lead ++ row).length <= 3000 -> (∀ j ∈ lead ++ row,j < ws.length) -> Q (.ref p) H')) \/ (Ma fun (a:Addr) (ws:List Int) (cm:Option Int)=>K8 (vs = [.ref a]) (B8 H a ws cm) ((∀ w ∈ ws,intBits w <= 256)) (intBits (qv cm) <= 256) (ws.length <= 8) (3000 < Am (qv cm) ws) (∀ H2,Aa H H2 -> E (.ref aA) none H2))
theorem fo {fd fT fQ dN:FuncData} (T:Txt K mg ad aA aH aB aI aD aE aF aJ aK aM aG aC) (F:Fb K "paper_round" "paper_round" Nq ad.cJ fd) (gY:Ai P w K mg base (Bi P w) 8 ad.cI fT ["hall"] (Pl K aA)) (gZ:Ay K fT ["hall"] []) (fR:Ai P w K mg base (Bi P w) 1 ad.cF fQ ["hall"] (Pm K)) (fS:Ay K fQ ["hall"] []) (fP:Ai P w K mg base (Bi P w) 4 ad.bV dN ["hall","standing","who","lost"] (Pp K)) (jH:Ay K dN ["hall","standing","who","lost"] []) (bL:Ay K dN ["hall","standing","who","lost"] [Value.bool false]):Ai P w K mg base (Bi P w) 9 ad.cJ fd ["hall"] (Pk K aA):=by
 refine F.tE Hf (fun vs H Q E h=>?_) (fun aV A outer s H vs Q E hr h=>?_)
 ·rcases h with ⟨a,ws,cm,rfl,ha,aP,q0,q⟩ | ⟨a,ws,cm,rfl,_,_,_,_,_,_⟩ <;> rfl
 ·obtain h:=h
  refine ⟨_,(A6 (Ah (i:=1) Hf.nd rfl (Or.inl rfl) (Fy gY (hr.mono (by decide)) rfl T.tV T.k_x16 gZ .nil Ut (A0 (pv 0) A7))) (A6 (Cg (Bc L8 (pv 1) Cy (Bh _)) (Ab (Ak Cy)) As) (A6 (Ah (i:=2) Hf.nd rfl (Or.inl rfl) (Cc (Kf K (kc hr) rfl) (by rfl) T.nG boot_dict (A0 (pv 1) A7))) (A6 (Ah (i:=3) Hf.nd rfl (Or.inl rfl) Fz) (A6 (Ah (i:=4) Hf.nd rfl (Or.inl rfl) (Cw A7)) (A6 (Ah (i:=5) Hf.nd rfl (Or.inl rfl) (Af fR (hr.mono (by decide)) rfl T.nA T.k_x18 fS .nil B0 (A0 (pv 0) A7))) (A6 (Lg Sl (J2 (J1 (Ep hr) (pv 5) (pv 3)) rfl) (A6 (Ie (Ep hr) (pv 3) (pv 5) (Ba (C5 K) (by rfl) T.bS PySem.boot_len (A0 (pv 4) A7)) rfl) (A6 (Ce (Dx (u':=Ts K _ _ _ _) (Eh PySem.F.plainAttrs_list PySem.F.slot_list_append PySem.F.type_list_append D0 (pv 4) (A0 (Ei (Ep hr) (pv 2) (pv 5) (fun _ _=>rfl)) A7)))) (Ab (Ah (i:=5) Hf.nd rfl (Or.inl rfl) (Af fP (hr.mono (by decide)) rfl T.nB T.k_x30 bL (Il) B0 (A0 (pv 0) (A0 (pv 5) (A0 (Ei (Ep hr) (pv 2) (pv 5) (fun _ _=>rfl)) A7))))))))) (Ab (Ak (Bt (A0 (F0 (F7 K) (pv 4) K4 (Ej (Ei (Ep hr) (pv 3) (pv 5) (fun _ _=>rfl)))) (A0 (F0 (F7 K) (pv 4) (Ej (Ei (Ep hr) (pv 3) (pv 5) (fun _ _=>rfl))) K4) A7)))))))))))),?_⟩
  rcases h with ⟨a,ws,cm,rfl,ha,aP,q0,q⟩ | ⟨a,ws,cm,rfl,ha,hb,fL,eJ,hp,he⟩
  ·obtain ⟨wt,bU,bZ⟩ := id ha
   have hq:=aP.qv
   have h8:=aP.2.2.2.1
   have MM:=aP.2.2.1
   refine ⟨_,rfl,E,fun _ _ _ z=>z,.inl ⟨a,ws,cm,rfl,ha,aP,(fun tv H1 s1 nN tT hv=>?_),fun pp us ps tv H1 s1 hpn ep nN tT hv kY hall=>?_⟩⟩
   ·exact ⟨_,rfl,rfl,_,rfl,N8 rfl (q0 tv H1 s1 nN hv)⟩
   refine ⟨_,rfl,rfl,_,rfl,Dk rfl ?_⟩
   have fI:=Na kY
   have UG:Df [] ps = ps:=J5 ps [] kY.1.nd
   have kP:=kY.1.len aP
   refine ⟨_,rfl,pp,us,ps,rfl,B9.of ep,hall.1,(fun j u p e1 e2=>hall.2 j p u e2 e1),fun D hD=>?_⟩
   rw [UG]
   have s2:Aa H1 (upd H1 D (.dT ps)):=Aa.upd hD
   have e2:(upd H1 D (.dT ps)) D = some (.dT ps):=A5
   generalize upd H1 D (.dT ps) = H2 at s2 e2 ⊢
   refine fun PL UH=>?_
   have s3:Aa H2 (upd H2 PL (.dT [])):=Aa.upd UH
   have e3:(upd H2 PL (.dT [])) PL = some (.dT []):=A5
   generalize upd H2 PL (.dT []) = H3 at s3 e3 ⊢
   refine ⟨Bf,fun L hL=>?_⟩
   have s4:Aa H3 (upd H3 L (.lst [])):=Aa.upd hL
   have e4:(upd H3 L (.lst [])) L = some (.lst []):=A5
   generalize upd H3 L (.lst []) = H4 at s4 e4 ⊢
   have NH:=(s2.trans s3).trans s4
   refine ⟨_,rfl,a,ws,cm,rfl,(ha.same s1).same NH,fun b0 H5 s5 tO=>?_⟩
   have hDP:D ≠ PL:=Ae e2 UH
   have HB:PL ≠ L:=Ae e3 hL
   have hDL:D ≠ L:=Ae (s3 _ _ e2) hL
   have nPL:H1 PL = none:=s2.free UH
   have nL:H1 L = none:=(s2.trans s3).free hL
   dsimp only
   refine k9 ?_
   refine ni ?_
   refine M7 (fun σ' H'=>Ma fun (js:List Nat) (kvs:List ((List Int × Int) × V)) (b:Addr)=>K7 (σ' = [some (.ref a),some (.ref pp),some (.ref D),some (.ref PL),some (.ref L),some (.ref b)]) (Aa H1 H') (H' D = some (.dT ps)) (H' PL = some (.dT kvs)) (kvs.length <= js.length) (H' L = some (.lst (B6 js))) (E9 H' b (Cm ws cm js)) (Rv ws cm ps js) (Ho ws cm js kvs) ((Ad ps (Cm ws cm js)).isSome = true))
    (fun _ H'=>3001 - Ov (H' L)) ⟨[],[],b0,rfl,NH.trans s5,s5 _ _ (s4 _ _ (s3 _ _ e2)),s5 _ _ (s4 _ _ e3),Nat.le_refl _,s5 _ _ e4,tO,Rv.nil,Ho.nil,fI.1⟩ ?_ ?_
   ·rintro σ' H' ⟨js,kvs,b,rfl,s',kB,oW,lR,jJ,hb,sQ,gW,CI⟩
    have DK:=sQ.CF
    have qU:(B6 js).length = js.length:=by unfold B6; rw [List.length_map]
    refine ⟨_,rfl,_,rfl,PL,_,rfl,D2.t oW hb,_,rfl,?_⟩
    refine Gv (fun hn=>?_) (fun hn=>?_)
    ·have GV : Ad kvs (Cm ws cm js) = none := by
      cases e:Ad kvs (Cm ws cm js) with
      | none=>rfl
      | some v=>rw [e] at hn; exact absurd hn (by simp)
     obtain ⟨v0,lU⟩ := Option.isSome_iff_exists.mp CI
     obtain ⟨FL,hbd,j,ej,hj,hz,hs⟩ := fI.2 _ _ lU
     rw [ej] at lU
     refine ⟨_,rfl,L,_,rfl,.inl (B9.of jJ),_,rfl,_,rfl,PL,_,rfl,K9.t oW hb (Bp (by omega)),?_⟩
     rw [qU]
     have k6:∀ c o,c ≠ PL -> H' c = some o -> (upd H' PL (.dT (Bl kvs (Cm ws cm js) (.int (js.length:Nat))))) c = some o:=fun c o n e=>(Ac n).trans e
     have e6:(upd H' PL (.dT (Bl kvs (Cm ws cm js) (.int (js.length:Nat))))) PL = some (.dT (Bl kvs (Cm ws cm js) (.int (js.length:Nat)))):=A5
     have s6:Aa H1 (upd H' PL (.dT (Bl kvs (Cm ws cm js) (.int (js.length:Nat))))):=s'.new nPL
     have t6:Ar H' (upd H' PL (.dT (Bl kvs (Cm ws cm js) (.int (js.length:Nat))))):=fun c xs e=>(Ac (Bw e oW (by intro z; cases z))).trans e
     generalize upd H' PL (.dT (Bl kvs (Cm ws cm js) (.int (js.length:Nat)))) = H6 at k6 e6 s6 t6 ⊢
     have GQ:=k6 _ _ hDP kB
     have UI:=k6 _ _ HB.symm jJ
     have NI:E9 H6 b (Cm ws cm js):=hb.up t6
     refine ⟨_,rfl,.inl ⟨rfl,_,B9.of UI⟩,_,rfl,_,rfl,D,.int (j:Nat),rfl,(by rw [<- lU]; exact D2.t GQ NI),L,_,_,rfl,rfl,UI,Bp (by omega),?_⟩
     have e7:(upd H6 L (.lst (B6 js ++ [.int (j:Nat)]))) L = some (.lst (B6 (js ++ [j]))):=by
      rw [A5]
      unfold B6
      rw [List.map_append]
      rfl
     have s7:Aa H1 (upd H6 L (.lst (B6 js ++ [.int (j:Nat)]))):=s6.new nL
     have t7:Ar H6 (upd H6 L (.lst (B6 js ++ [.int (j:Nat)]))):=Ar.lst UI
     have k7:∀ c o,c ≠ L -> H6 c = some o -> (upd H6 L (.lst (B6 js ++ [.int (j:Nat)]))) c = some o:=fun c o n e=>(Ac n).trans e
     generalize upd H6 L (.lst (B6 js ++ [.int (j:Nat)])) = H7 at e7 s7 t7 k7 ⊢
     have MU:=k7 _ _ hDL GQ
     have UJ:=k7 _ _ HB e6
     have FY:E9 H7 b (Cm ws cm js):=NI.up t7
     refine ⟨_,rfl,_,rfl,_,rfl,_,rfl,D,.int (j:Nat),rfl,(by rw [<- lU]; exact D2.t MU FY),a,b,ws,(Cm ws cm js).1,cm,(Cm ws cm js).2,j,false,rfl,(ha.same s1).same s7,FY,hj,FL,h8,(fun z=>nomatch z),(fun z=>absurd z hz),fun _ b2 H8 s8 st8=>?_⟩
     refine ⟨⟨js ++ [j],_,b2,rfl,s7.trans s8,s8 _ _ MU,s8 _ _ UJ,?_,s8 _ _ e7,?_,sQ.snoc lU (gW.new GV),gW.put GV,?_⟩,?_⟩
     ·rw [List.length_append,List.length_singleton]
      exact Nat.le_trans (Cv _ _ _) (by omega)
     ·rw [G9]
      exact st8
     ·rw [G9]
      exact hs
     ·have m1 : Ov (H8 L) = js.length + 1 := by
       rw [s8 _ _ e7]
       show (B6 (js ++ [j])).length = _
       unfold B6
       rw [List.length_map,List.length_append]
       rfl
      have m2:Ov (H' L) = js.length:=by
       rw [jJ]
       exact qU
      rw [m1,m2]
      omega
    ·obtain ⟨v0, lU⟩ : ∃ v, Ad kvs (Cm ws cm js) = some v := by
      cases e:Ad kvs (Cm ws cm js) with
      | none=>rw [e] at hn; exact absurd rfl hn
      | some v=>exact ⟨v,rfl⟩
     obtain ⟨k,rQ,mQ,UK⟩ := gW.2 _ _ lU
     rw [UK] at lU
     refine ⟨_,rfl,_,rfl,_,rfl,PL,.int (k:Nat),rfl,(by rw [<- lU]; exact D2.t oW hb),_,rfl,L,_,rfl,B9.of jJ,fun l hl=>?_⟩
     rw [Zm (by omega) (by rw [qU]; omega),show ((k:Nat):Int).toNat = k by omega]
     have et:(B6 js).take k = B6 (js.take k):=by unfold B6; rw [List.map_take]
     rw [et]
     have s6:Aa H' (upd H' l (.lst (B6 (js.take k)))):=Aa.upd hl
     have e6:(upd H' l (.lst (B6 (js.take k)))) l = some (.lst (B6 (js.take k))):=A5
     generalize upd H' l (.lst (B6 (js.take k))) = H6 at s6 e6 ⊢
     have NI:E9 H6 b (Cm ws cm js):=hb.up (Ar.of s6)
     refine ⟨_,rfl,_,rfl,_,rfl,PL,.int (k:Nat),rfl,(by rw [<- lU]; exact D2.t (s6 _ _ oW) NI),_,rfl,L,_,rfl,B9.of (s6 _ _ jJ),fun r hr=>?_⟩
     rw [Vf (by omega) (by rw [qU]; omega),show ((k:Nat):Int).toNat = k by omega]
     have ed:(B6 js).drop k = B6 (js.drop k):=by unfold B6; rw [List.map_drop]
     rw [ed]
     have s7:Aa H6 (upd H6 r (.lst (B6 (js.drop k)))):=Aa.upd hr
     have e7:(upd H6 r (.lst (B6 (js.drop k)))) r = some (.lst (B6 (js.drop k))):=A5
     generalize upd H6 r (.lst (B6 (js.drop k))) = H7 at s7 e7 ⊢
     refine ⟨Bf,fun p hp=>?_⟩
     have s8:=Aa.upd (o := .tup [.ref l,.ref r]) hp
     have s07:=(s1.trans s').trans (s6.trans s7)
     have FN:H l = none:=(s1.trans s').free hl
     have rZ:H r = none:=((s1.trans s').trans s6).free hr
     refine q p l r (js.take k) (js.drop k) ps tv _ (s07.trans s8) FN rZ (Ae e6 hr) A5 (s8 _ _ (s7 _ _ e6)) (s8 _ _ e7) nN hv kY ?_ ?_ ?_
     ·refine ⟨by rw [List.take_append_drop]; exact sQ,by rw [List.length_drop]; omega,?_⟩
      rw [List.take_append_drop]
      exact mQ
     ·rw [List.take_append_drop]
      omega
     ·intro j hj
      rw [List.take_append_drop] at hj
      obtain ⟨i,hi,e⟩ := List.getElem_of_mem hj
      obtain ⟨_,_,j2,FK,MB,_⟩ := fI.2 _ _ (sQ.wg i j (by rw [List.getElem?_eq_getElem hi,e]))
      injection FK with z
      omega
   ·intro σ H0 Q1 Q2 z h1
    obtain ⟨v,e,v2,e2,D,b,e3,dg,c,e4,h2⟩ := h1
    exact ⟨v,e,v2,e2,D,b,e3,dg,c,e4,z _ _ h2⟩
  ·exact ⟨_,rfl,E,fun _ _ _ z=>z,.inr ⟨a,ws,cm,rfl,ha,hb,fL,eJ,hp,he⟩⟩
def Lu (K:PySem.W.Frag):Sp:=fun vs H Q _=>Ma fun (a:Addr) (ns:List Int) (k:Int)=>Jm (vs = [.ref a,.int k]) (B9 K H a (ns.map V.int)) (0 <= k) (Q (.int (Ck ns k)) H)
theorem fq {fd  : FuncData} (T:Txt K mg ad aA aH aB aI aD aE aF aJ aK aM aG aC) (F:Fb K "_law_cell_at" "_law_cell_at" Nr ad.bX fd):Ai P w K mg base (Bi P w) 1 ad.bX fd ["script","k"] (Lu K):=by
 refine F.okN im (fun vs H Q E h=>?_) (fun aV A outer s H vs Q E hr h=>?_)
 ·rcases h with ⟨a,ns,k,rfl,hS,hk,q⟩ <;> rfl
 ·obtain ⟨a,ns,k,rfl,hS,hk,q⟩ := h
  refine ⟨_,(A6 (Cg (Bc L9 (pv 1) (Ba (C5 K) (by rfl) T.bS PySem.boot_len (A0 (pv 0) A7)) (Bh _)) (Ab (Ak (Bg (Be K) (pv 0) (pv 1) (fun _ _=>rfl)))) As) (Ab (Ak A8))),?_⟩
  refine ⟨_,rfl,_,rfl,a,_,rfl,.inl hS,_,_,rfl,rfl,_,rfl,?_⟩
  refine Gv (fun aZ=>?_) (fun aZ=>?_)
  ·have wZ:k < ns.length:=by simpa using aZ
   exact ⟨_,rfl,_,rfl,a,_,_,_,rfl,rfl,.inl hS,Zj hk wZ,q⟩
  ·have wZ:¬ k < ns.length:=by simpa using aZ
   rw [Ve hk wZ] at q
   exact q
def Po (K:PySem.W.Frag):Sp:=fun vs H Q _=>U4 fun (c:Addr) (cs:List Int)=>Hl (vs = [.ref c]) (H c = some (.lst (cs.map V.int))) (cs.length <= 63) ((∀ z ∈ cs,intBits z <= 2 ^ 20)) (∀ n:Int,Q (.int n) H)
theorem gm {fd  : FuncData} (T:Txt K mg ad aA aH aB aI aD aE aF aJ aK aM aG aC) (F:Fb K "_law_sum" "_law_sum" O5 ad.cK fd):Ai P w K mg base (Bi P w) 1 ad.cK fd ["cells"] (Po K):=by
 refine F.okN Pg (fun vs H Q E h=>?_) (fun aV A outer s H vs Q E hr h=>?_)
 ·rcases h with ⟨c,cs,rfl,hc,iE,uH,q⟩ <;> rfl
 ·obtain ⟨c,cs,rfl,hc,iE,uH,q⟩ := h
  refine ⟨_,(A6 (Ah (i:=1) Pg.nd rfl (Or.inl rfl) A8) (A6 (Co PassesOwn.never rfl (D7 (by rfl) T.bJ (A0 (Ba (C5 K) (by rfl) T.bS PySem.boot_len (A0 (pv 0) A7)) A7)) (Ax (i:=2) Pg.nd rfl (Or.inl rfl)) (Ab (Ah (i:=1) Pg.nd rfl (Or.inl rfl) (Al C7 (pv 1) (Al Gj (Bg (Be K) (pv 0) (pv 2) (fun _ _=>rfl)) (Al C7 (pv 2) A8)))))) (Ab (Ak (pv 1))))),?_⟩
  refine ⟨_,rfl,c,_,rfl,.inl (B9.of hc),_,rfl,by omega,(by rw [List.length_map]; omega),?_⟩
  refine Ey (n:=((cs.map V.int).length:Int).toNat) (fun i σ H'=>U4 fun (n:Int) (v2:Option V)=>σ = [some (.ref c),some (.int n),v2] /\ H' = H) ⟨0,none,rfl,rfl⟩ ?_ ?_
  ·rintro i σ H' hi ⟨n,v2,rfl,rfl⟩
   rw [List.length_map] at hi
   have fH:i < cs.length:=by omega
   have jD:Q8 (cs.map V.int) (0 + (i:Int)) = some (.int (cs.getD i 0)):=Ke fH (by omega)
   have hm:cs.getD i 0 ∈ cs:=List.mem_of_getElem? (i:=i) (by rw [List.getD_eq_getElem?_getD,List.getElem?_eq_getElem fH]; rfl)
   exact ⟨_,rfl,_,rfl,_,rfl,c,_,_,_,rfl,rfl,.inl (B9.of hc),jD,_,rfl,_,_,rfl,rfl,_,_,rfl,rfl,cc (uH _ hm) (Ry (by omega) (by omega)) (by decide),_,_,rfl,rfl,_,_,rfl,rfl⟩
  rintro σ H' ⟨n,v2,rfl,rfl⟩
  exact ⟨_,rfl,q n⟩
def Tk (K:PySem.W.Frag):Sp:=fun vs H Q _=>U4 fun (c R:Int)=>Jm (vs = [.int c,.int R]) (R < 1000000) (Q .aW H) (∀ d:Int,1 <= d -> d + 1 <= R -> Q (.int d) H)
theorem gh {fd  : FuncData} (T:Txt K mg ad aA aH aB aI aD aE aF aJ aK aM aG aC) (F:Fb K "_law_calm" "_law_calm" O1 ad.dA fd):Ai P w K mg base (Bi P w) 1 ad.dA fd ["cell","room"] (Tk K):=by
 refine F.okN ir (fun vs H Q E h=>?_) (fun aV A outer s H vs Q E hr h=>?_)
 ·rcases h with ⟨c,R,rfl,hR,q0,q1⟩ <;> rfl
 ·obtain ⟨c,R,rfl,hR,q0,q1⟩ := h
  refine ⟨_,(A6 (Cg (PW.pt (G0 (Bc L9 (pv 1) A8 (Bh _)) (Li (Bc Gz (Al Br (pv 0) A8) A8 (Bh _))))) (Ab (Ak Cy)) As) (Ab (Ak (Al C7 A8 (Al Br (Al Cr (pv 0) A8) (Al P5 (pv 1) A8)))))),?_⟩
  refine ⟨_,rfl,_,_,rfl,rfl,_,rfl,_,fun _ Q' z=>⟨_,rfl,_,_,rfl,rfl,(by first | (show (0:Int) < _; decide) | simp),rfl,_,rfl,z⟩,?_⟩
  refine Gv (fun _=>q0) (fun hn=>?_)
  have hr2:2 <= R:=by
   apply Classical.byContradiction
   intro z
   refine hn ?_
   rw [decide_eq_true (show R < 2 by omega)]
   rfl
  have dm:=Au (c / 2) (show (0:Int) < R - 1 by omega)
  exact ⟨_,rfl,_,_,rfl,rfl,⟨by decide,by decide⟩,_,rfl,_,_,rfl,rfl,_,_,rfl,rfl,(by show (0:Int) < R - 1; omega),_,_,rfl,rfl,q1 _ (by omega) (by omega)⟩
def Tl (K:PySem.W.Frag):Sp:=fun vs H Q _=>U4 fun (a:Addr) (ns:List Int)=>Hl (vs = [.ref a]) (B9 K H a (ns.map V.int)) (ns.length <= 63) ((∀ z ∈ ns,intBits z <= 2 ^ 20)) (∀ (p:Addr) (ws:List Int) (cm:Option Int) (H':Hp),Aa H H' -> B8 H' p ws cm -> Du ws cm -> Q (.ref p) H')
theorem gi {fd fU cN oX:FuncData} (T:Txt K mg ad aA aH aB aI aD aE aF aJ aK aM aG aC) (F:Fb K "_law_hall" "_law_hall" Ii ad.dB fd) (hJ:Ai P w K mg base (Bi P w) 1 ad.cK fU ["cells"] (Po K)) (hX:Ay K fU ["cells"] []) (bE:Ai P w K mg base (Bi P w) 1 ad.bX cN ["script","k"] (Lu K)) (bG:Ay K cN ["script","k"] []) (jK:Ai P w K mg base (Bi P w) 1 ad.dA oX ["cell","room"] (Tk K)) (jL:Ay K oX ["cell","room"] []):Ai P w K mg base (Bi P w) 2 ad.dB fd ["script"] (Tl K):=by
 refine F.okN G7 (fun vs H Q E h=>?_) (fun aV A outer s H vs Q E hr h=>?_)
 ·rcases h with ⟨a,ns,rfl,hS,hlen,iM,q⟩ <;> rfl
 ·obtain ⟨a,ns,rfl,hS,hlen,iM,q⟩ := h
  refine ⟨_,(A6 (Ah (i:=1) G7.nd rfl (Or.inl rfl) (Al Br (Af bE (hr.mono (by decide)) rfl T.cL T.k_x11 bG .nil B0 (A0 (pv 0) (A0 A8 A7))) A8)) (A6 (De (i:=2) G7.nd rfl (D7 (by rfl) T.bJ (A0 A8 A7)) _ rfl Mf rfl rfl (fun _ _ _ _=>(Ax (i:=0) Mn rfl (Or.inl rfl))) (fun _ _ _ _=>Dy) (fun _ _ _ _=>(Af bE (hr.mono (by decide)) rfl T.cL T.k_x11 bG .nil B0 (A0 (pv 1) (A0 (Al C7 A8 (pv 0)) A7)))) rfl rfl) (A6 (Ah (i:=3) G7.nd rfl (Or.inl rfl) (Af hJ (hr.mono (by decide)) rfl T.tW T.k_x29 hX .nil B0 (A0 (F0 (F7 K) (pv 0) (Ej A8) K4) A7))) (A6 (Cg (Bc L9 (pv 1) A8 (Bh _)) (A6 (Ah (i:=4) G7.nd rfl (Or.inl rfl) (Al C7 A8 (Al Br (Bg (Be K) (pv 2) A8 (fun _ _=>rfl)) A8))) (Ab (Ak (Bt (A0 (Bt (A0 (pv 4) A7)) (A0 (Af jK (hr.mono (by decide)) rfl T.nD T.k_x24 jL .nil B0 (A0 (pv 3) (A0 (Al Cr A8 (pv 4)) A7))) A7)))))) As) (A6 (Cg (Bc L9 (pv 1) A8 (Bh _)) (A6 (Ah (i:=5) G7.nd rfl (Or.inl rfl) (Cw (A0 (Al C7 A8 (Al Br (Bg (Be K) (pv 2) A8 (fun _ _=>rfl)) A8)) (A0 (Al C7 A8 (Al Br (Bg (Be K) (pv 2) A8 (fun _ _=>rfl)) A8)) A7)))) (Ab (Ak (Bt (A0 (Cc (D6 K) (by rfl) T.bI boot_tuple (A0 (pv 5) A7)) (A0 (Af jK (hr.mono (by decide)) rfl T.nD T.k_x24 jL .nil B0 (A0 (pv 3) (A0 (Al Cr A8 (Al Gj (Bg (Be K) (pv 5) A8 (fun _ _=>rfl)) (Bg (Be K) (pv 5) A8 (fun _ _=>rfl)))) A7))) A7)))))) As) (A6 (Cg (Bc Gz (pv 1) A8 (Bh _)) (Ab (Ak (Bt (A0 (Cc (D6 K) (by rfl) T.bI boot_tuple (A0 (K1 (Dm (w':=Px K _) (Dn (pv 2))) _ rfl Mg rfl rfl (fun _ _ _ _=>(Ax (i:=0) Mo rfl (Or.inl rfl))) (fun _ _ _ _=>Dy) (fun _ _ _ _=>(Al C7 A8 (Al Br (pv 0) A8)))) A7)) (A0 Cy A7))))) As) (A6 (Cg (Bc Gz (pv 1) A8 (Bh _)) (A6 (Ah (i:=5) G7.nd rfl (Or.inl rfl) (Cw (A0 (Al C7 A8 (Al Br (Bg (Be K) (pv 2) A8 (fun _ _=>rfl)) A8)) (A0 (Al C7 A8 (Al Br (Bg (Be K) (pv 2) A8 (fun _ _=>rfl)) A8)) A7)))) (A6 (Ce (Dx (u':=Ts K _ _ _ _) (Eh PySem.F.plainAttrs_list PySem.F.slot_list_insert PySem.F.type_list_insert Nh (pv 5) (A0 (Al Br (Bg (Be K) (pv 2) A8 (fun _ _=>rfl)) A8) (A0 A8 A7))))) (Ab (Ak (Bt (A0 (Cc (D6 K) (by rfl) T.bI boot_tuple (A0 (pv 5) A7)) (A0 Cy A7))))))) As) (A6 (De (i:=5) G7.nd rfl (Dm (w':=Px K _) (Dn (pv 2))) _ rfl Mh rfl rfl (fun _ _ _ _=>(Ax (i:=0) Mp rfl (Or.inl rfl))) (fun _ _ _ _=>Dy) (fun _ _ _ _=>(Al C7 A8 (Al Br (pv 0) A8))) rfl rfl) (Ab (Ak (Bt (A0 (Cc (D6 K) (by rfl) T.bI boot_tuple (A0 (pv 5) A7)) (A0 (Af jK (hr.mono (by decide)) rfl T.nD T.k_x24 jL .nil B0 (A0 (pv 3) (A0 (Al Cr A8 (Al Gj (Al Gj (Bg (Be K) (pv 5) A8 (fun _ _=>rfl)) (Bg (Be K) (pv 5) A8 (fun _ _=>rfl))) (Bg (Be K) (pv 5) A8 (fun _ _=>rfl)))) A7))) A7))))))))))))),?_⟩
  refine ⟨_,rfl,a,ns,_,rfl,hS,by decide,_,_,rfl,rfl,(by first | (show (0:Int) < _; decide) | simp),?_⟩
  dsimp only
  generalize Ck ns 0 % 8 = kind
  refine ⟨3,rfl,by decide,by decide,fun C hC=>?_⟩
  refine Fe (fun i ys H'=>∃ (xs:List Int),Jm (ys = xs.map V.int) (xs.length = i) (H' C = some (.lst ys)) (Aa H H')) ⟨[],rfl,rfl,A5,Aa.upd hC⟩ ?_ ?_
  ·rintro i ys H' hi ⟨xs,rfl,UL,uF,s'⟩ Qe hQ
   refine ⟨_,rfl,_,rfl,_,_,rfl,rfl,a,ns,_,rfl,s'.seq hS,by omega,?_⟩
   exact hQ _ _ uF (Bx (by rw [List.length_map]; omega)) ⟨xs ++ [_],Qz _ _,Qr UL,A5,s'.new hC⟩
  rintro ys H3 ⟨xs,rfl,UL,hC3,s3⟩
  obtain ⟨c0,c1,c2,rfl⟩ : ∃ c0 c1 c2,xs = [c0,c1,c2]:=by
   match xs,UL with
   | [x,y,z],_=>exact ⟨x,y,z,rfl⟩
  refine ⟨_,rfl,_,rfl,a,_,rfl,s3.seq hS,fun sl UM=>?_⟩
  rw [Iw]
  have iE:(Gu ns (some 4) none).length <= 63:=Nat.le_trans (Jc _ _ _) hlen
  have uH:∀ z ∈ Gu ns (some 4) none,intBits z <= 2 ^ 20:=fun z hz=>iM z (List.mem_of_mem_drop (List.mem_of_mem_take hz))
  generalize Gu ns (some 4) none = cs at iE uH ⊢
  have s4:Aa H3 (upd H3 sl (.lst (cs.map V.int))):=Aa.upd UM
  have e4:(upd H3 sl (.lst (cs.map V.int))) sl = some (.lst (cs.map V.int)):=A5
  generalize upd H3 sl (.lst (cs.map V.int)) = H4 at s4 e4 ⊢
  refine ⟨sl,cs,rfl,e4,iE,uH,fun calm=>?_⟩
  have iL:=s3.trans s4
  have e2:=s4 _ _ hC3
  refine ⟨_,rfl,_,_,rfl,rfl,_,rfl,?_⟩
  refine Gv (fun _=>?_) (fun _=>?_)
  ·have d0:=Au c0 (show (0:Int) < 40 by decide)
   refine ⟨_,rfl,C,_,_,_,rfl,rfl,.inl (B9.of e2),rfl,_,_,rfl,rfl,(by first | (show (0:Int) < _; decide) | simp),_,_,rfl,rfl,?_⟩
   dsimp only
   generalize hW:1 + c0 % 40 = wait
   have hw:1 <= wait /\ wait <= 40:=by omega
   refine ⟨_,rfl,Bf,fun t ht=>?_⟩
   have s5:Aa H4 (upd H4 t (.tup [.int wait])):=Aa.upd ht
   have e5:(upd H4 t (.tup [.int wait])) t = some (.tup [.int wait]):=A5
   generalize upd H4 t (.tup [.int wait]) = H5 at s5 e5 ⊢
   have hR:120 / wait * wait <= 120:=Lk hw.1
   have EE:120 / wait <= 120:=Int.ediv_le_self _ (by decide)
   refine ⟨_,rfl,_,rfl,_,_,rfl,rfl,⟨by omega,by omega⟩,_,_,rfl,by show 120 / wait < 1000000; omega,?_,fun d h1 h2=>?_⟩
   ·refine ⟨Bf,fun p hp=>?_⟩
    exact q p [wait] none _ ((iL.trans s5).trans (Aa.upd hp)) ⟨t,A5,(Aa.upd hp) _ _ e5⟩ (ng (by omega)).eU.1
   ·refine ⟨Bf,fun p hp=>?_⟩
    exact q p [wait] (some d) _ ((iL.trans s5).trans (Aa.upd hp)) ⟨t,A5,(Aa.upd hp) _ _ e5⟩ ((ng (by omega)).eU.2 d (120 / wait) h1 h2 (by omega) (by show 120 / wait * (1 * wait) <= 128; rw [Int.one_mul]; omega) (by show 0 <= 1 * wait; omega))
  refine ⟨_,rfl,_,_,rfl,rfl,_,rfl,?_⟩
  refine Gv (fun _=>?_) (fun _=>?_)
  ·have d0:=Au c0 (show (0:Int) < 7 by decide)
   have d1:=Au c1 (show (0:Int) < 7 by decide)
   refine ⟨_,rfl,C,_,_,_,rfl,rfl,.inl (B9.of e2),rfl,_,_,rfl,rfl,(by first | (show (0:Int) < _; decide) | simp),_,_,rfl,rfl,_,rfl,C,_,_,_,rfl,rfl,.inl (B9.of e2),rfl,_,_,rfl,rfl,(by first | (show (0:Int) < _; decide) | simp),_,_,rfl,rfl,Bf,fun W hW=>?_⟩
   have s5:Aa H4 (upd H4 W (.lst [.int (2 + c0 % 7),.int (2 + c1 % 7)])):=Aa.upd hW
   have e5:(upd H4 W (.lst [.int (2 + c0 % 7),.int (2 + c1 % 7)])) W = some (.lst [.int (2 + c0 % 7),.int (2 + c1 % 7)]):=A5
   generalize upd H4 W (.lst [.int (2 + c0 % 7),.int (2 + c1 % 7)]) = H5 at s5 e5 ⊢
   generalize hx:2 + c0 % 7 = x at e5
   generalize hy:2 + c1 % 7 = y at e5
   have cA:1 <= x /\ x <= 8:=by omega
   have eA:1 <= y /\ y <= 8:=by omega
   have e5':H5 W = some (.lst ([x,y].map V.int)):=e5
   refine ⟨_,rfl,W,_,rfl,.inl ⟨B9.of e5',fun t ht=>?_⟩⟩
   have s6:Aa H5 (upd H5 t (.tup ([x,y].map V.int))):=Aa.upd ht
   have e6:(upd H5 t (.tup ([x,y].map V.int))) t = some (.tup ([x,y].map V.int)):=A5
   generalize upd H5 t (.tup ([x,y].map V.int)) = H6 at s6 e6 ⊢
   have hP:1 <= x * y /\ x * y <= 64:=⟨by have:=Int.mul_le_mul cA.1 eA.1 (by decide) (by omega); omega,by have:=Int.mul_le_mul cA.2 eA.2 (by omega) (by decide); omega⟩
   have hR:128 / (x * y) * (x * y) <= 128:=Lk hP.1
   have EE:128 / (x * y) <= 128:=Int.ediv_le_self _ (by decide)
   have e56:=s6 _ _ e5
   refine ⟨_,rfl,_,rfl,W,_,_,_,rfl,rfl,.inl (B9.of e56),rfl,_,rfl,W,_,_,_,rfl,rfl,.inl (B9.of e56),rfl,_,_,rfl,rfl,K0 (by omega) (by omega),_,_,rfl,rfl,⟨by omega,by omega⟩,_,_,rfl,by show 128 / (x * y) < 1000000; omega,?_,fun d h1 h2=>?_⟩
   ·refine ⟨Bf,fun p hp=>?_⟩
    exact q p [x,y] none _ (((iL.trans s5).trans s6).trans (Aa.upd hp)) ⟨t,A5,(Aa.upd hp) _ _ e6⟩ (nh cA eA (by decide) (by decide) (by decide)).eU.1
   ·refine ⟨Bf,fun p hp=>?_⟩
    exact q p [x,y] (some d) _ (((iL.trans s5).trans s6).trans (Aa.upd hp)) ⟨t,A5,(Aa.upd hp) _ _ e6⟩ ((nh cA eA (by decide) (by decide) (by decide)).eU.2 d (128 / (x * y)) h1 h2 (by omega) (by show 128 / (x * y) * (1 * x * y) <= 128; rw [Int.one_mul]; omega) (by show 0 <= 1 * x * y; rw [Int.one_mul]; omega))
  refine ⟨_,rfl,rfl,_,rfl,?_⟩
  refine Gv (fun _=>?_) (fun _=>?_)
  ·have d0:=Au c0 (show (0:Int) < 3 by decide)
   have d1:=Au c1 (show (0:Int) < 3 by decide)
   have d2:=Au c2 (show (0:Int) < 3 by decide)
   refine ⟨_,rfl,C,rfl,.inl ⟨⟨_,B9.of e2⟩,fun VV hV=>?_⟩⟩
   refine Ge (K:=K) (a:=C) (xs:=[c0,c1,c2].map V.int) (fun i zs H'=>zs = (([c0,c1,c2].take i).map fun x=>3 + x % 3).map V.int /\ H' VV = some (.lst zs) /\ Aa H4 H') ⟨rfl,A5,Aa.upd hV⟩ (by rintro i zs H' _ ⟨_,_,s⟩; exact B9.of (s _ _ e2)) ?_ ?_
   ·rintro i y zs H' hy ⟨rfl,UN,s'⟩ Qe hQ
    have hi:=(List.getElem?_eq_some_iff.mp hy).1
    rw [List.getElem?_map] at hy
    obtain ⟨x,hx,rfl⟩ := Option.map_eq_some_iff.mp hy
    have QR:i < 3:=by simpa using hi
    refine ⟨_,rfl,_,_,rfl,rfl,(by first | (show (0:Int) < _; decide) | simp),_,_,rfl,rfl,?_⟩
    refine hQ _ _ UN (Bx (by rw [List.length_map,List.length_map,List.length_take]; omega)) ⟨?_,A5,s'.new hV⟩
    rw [Ij hx,List.map_append,List.map_append]
    rfl
   rintro zs G ⟨rfl,eV,sV⟩
   have xb:G VV = some (.lst (([3 + c0 % 3,3 + c1 % 3,3 + c2 % 3]:List Int).map V.int)):=eV
   refine ⟨VV,_,rfl,.inl ⟨B9.of xb,fun t ht=>?_⟩⟩
   have s6:Aa G (upd G t (.tup (([3 + c0 % 3,3 + c1 % 3,3 + c2 % 3]:List Int).map V.int))):=Aa.upd ht
   have e6:(upd G t (.tup (([3 + c0 % 3,3 + c1 % 3,3 + c2 % 3]:List Int).map V.int))) t = some (.tup (([3 + c0 % 3,3 + c1 % 3,3 + c2 % 3]:List Int).map V.int)):=A5
   generalize upd G t (.tup (([3 + c0 % 3,3 + c1 % 3,3 + c2 % 3]:List Int).map V.int)) = H6 at s6 e6 ⊢
   refine ⟨Bf,fun p hp=>?_⟩
   exact q p [3 + c0 % 3,3 + c1 % 3,3 + c2 % 3] none _ (((iL.trans sV).trans s6).trans (Aa.upd hp)) ⟨t,A5,(Aa.upd hp) _ _ e6⟩ (Wn (a:=5) (b:=5) (c:=5) (by omega) (by omega) (by omega) (by decide) (by decide) (by decide) (by decide)).eU.1
  refine ⟨_,rfl,rfl,_,rfl,?_⟩
  refine Gv (fun _=>?_) (fun _=>?_)
  ·have d0:=Au c0 (show (0:Int) < 2 by decide)
   have d1:=Au c1 (show (0:Int) < 3 by decide)
   have d2:=Au c2 (show (0:Int) < 3 by decide)
   refine ⟨_,rfl,C,_,_,_,rfl,rfl,.inl (B9.of e2),rfl,_,_,rfl,rfl,(by first | (show (0:Int) < _; decide) | simp),_,_,rfl,rfl,_,rfl,C,_,_,_,rfl,rfl,.inl (B9.of e2),rfl,_,_,rfl,rfl,(by first | (show (0:Int) < _; decide) | simp),_,_,rfl,rfl,Bf,fun W hW=>?_⟩
   have s5:Aa H4 (upd H4 W (.lst [.int (4 + c0 % 2),.int (4 + c1 % 3)])):=Aa.upd hW
   have e5:(upd H4 W (.lst [.int (4 + c0 % 2),.int (4 + c1 % 3)])) W = some (.lst [.int (4 + c0 % 2),.int (4 + c1 % 3)]):=A5
   generalize upd H4 W (.lst [.int (4 + c0 % 2),.int (4 + c1 % 3)]) = H5 at s5 e5 ⊢
   refine ⟨_,rfl,.inl ⟨rfl,_,B9.of e5⟩,_,rfl,C,_,_,_,rfl,rfl,.inl (B9.of (s5 _ _ e2)),rfl,_,_,rfl,rfl,(by first | (show (0:Int) < _; decide) | simp),W,_,_,_,rfl,rfl,e5,d2.1,(by show c2 % 3 <= 2; omega),Bx (by simp),?_⟩
   have hws:∃ ws:List Int,jh ws /\ [V.int (4 + c0 % 2),V.int (4 + c1 % 3)].take (c2 % 3).toNat ++ V.int 2 :: [V.int (4 + c0 % 2),V.int (4 + c1 % 3)].drop (c2 % 3).toNat = ws.map V.int:=by
    have:c2 % 3 = 0 \/ c2 % 3 = 1 \/ c2 % 3 = 2:=by omega
    rcases this with e | e | e <;> rw [e]
    ·exact ⟨[2,4 + c0 % 2,4 + c1 % 3],Wn (a:=2) (b:=5) (c:=6) (by omega) (by omega) (by omega) (by decide) (by decide) (by decide) (by decide),rfl⟩
    ·exact ⟨[4 + c0 % 2,2,4 + c1 % 3],Wn (a:=5) (b:=2) (c:=6) (by omega) (by omega) (by omega) (by decide) (by decide) (by decide) (by decide),rfl⟩
    ·exact ⟨[4 + c0 % 2,4 + c1 % 3,2],Wn (a:=5) (b:=6) (c:=2) (by omega) (by omega) (by omega) (by decide) (by decide) (by decide) (by decide),rfl⟩
   obtain ⟨ws,sQ,ews⟩ := hws
   rw [ews]
   have s6:Aa H4 (upd H5 W (.lst (ws.map V.int))):=s5.new hW
   have e6:(upd H5 W (.lst (ws.map V.int))) W = some (.lst (ws.map V.int)):=A5
   generalize upd H5 W (.lst (ws.map V.int)) = H6 at s6 e6 ⊢
   refine ⟨_,rfl,W,_,rfl,.inl ⟨B9.of e6,fun t ht=>?_⟩⟩
   have s7:Aa H6 (upd H6 t (.tup (ws.map V.int))):=Aa.upd ht
   have e7:(upd H6 t (.tup (ws.map V.int))) t = some (.tup (ws.map V.int)):=A5
   generalize upd H6 t (.tup (ws.map V.int)) = H7 at s7 e7 ⊢
   refine ⟨Bf,fun p hp=>?_⟩
   exact q p ws none _ (((iL.trans s6).trans s7).trans (Aa.upd hp)) ⟨t,A5,(Aa.upd hp) _ _ e7⟩ sQ.eU.1
  have d0:=Au c0 (show (0:Int) < 4 by decide)
  have d1:=Au c1 (show (0:Int) < 4 by decide)
  have d2:=Au c2 (show (0:Int) < 4 by decide)
  refine ⟨_,rfl,C,rfl,.inl ⟨⟨_,B9.of e2⟩,fun VV hV=>?_⟩⟩
  refine Ge (K:=K) (a:=C) (xs:=[c0,c1,c2].map V.int) (fun i zs H'=>zs = (([c0,c1,c2].take i).map fun x=>1 + x % 4).map V.int /\ H' VV = some (.lst zs) /\ Aa H4 H') ⟨rfl,A5,Aa.upd hV⟩ (by rintro i zs H' _ ⟨_,_,s⟩; exact B9.of (s _ _ e2)) ?_ ?_
  ·rintro i y zs H' hy ⟨rfl,UN,s'⟩ Qe hQ
   have hi:=(List.getElem?_eq_some_iff.mp hy).1
   rw [List.getElem?_map] at hy
   obtain ⟨x,hx,rfl⟩ := Option.map_eq_some_iff.mp hy
   have QR:i < 3:=by simpa using hi
   refine ⟨_,rfl,_,_,rfl,rfl,(by first | (show (0:Int) < _; decide) | simp),_,_,rfl,rfl,?_⟩
   refine hQ _ _ UN (Bx (by rw [List.length_map,List.length_map,List.length_take]; omega)) ⟨?_,A5,s'.new hV⟩
   rw [Ij hx,List.map_append,List.map_append]
   rfl
  rintro zs G ⟨rfl,eV,sV⟩
  have xb:G VV = some (.lst ([1 + c0 % 4,1 + c1 % 4,1 + c2 % 4].map V.int)):=eV
  generalize hx:1 + c0 % 4 = x at xb
  generalize hy:1 + c1 % 4 = y at xb
  generalize hz:1 + c2 % 4 = z at xb
  have cA:1 <= x /\ x <= 4:=by omega
  have eA:1 <= y /\ y <= 4:=by omega
  have CP:1 <= z /\ z <= 4:=by omega
  refine ⟨_,rfl,VV,_,rfl,.inl ⟨B9.of xb,fun t ht=>?_⟩⟩
  have s6:Aa G (upd G t (.tup ([x,y,z].map V.int))):=Aa.upd ht
  have e6:(upd G t (.tup ([x,y,z].map V.int))) t = some (.tup ([x,y,z].map V.int)):=A5
  generalize upd G t (.tup ([x,y,z].map V.int)) = H6 at s6 e6 ⊢
  have hP0:1 <= x * y /\ x * y <= 16:=⟨by have:=Int.mul_le_mul cA.1 eA.1 (by decide) (by omega); omega,by have:=Int.mul_le_mul cA.2 eA.2 (by omega) (by decide); omega⟩
  have hP:1 <= x * y * z /\ x * y * z <= 64:=⟨by have:=Int.mul_le_mul hP0.1 CP.1 (by decide) (by omega); omega,by have:=Int.mul_le_mul hP0.2 CP.2 (by omega) (by decide); omega⟩
  have hR:128 / (x * y * z) * (x * y * z) <= 128:=Lk hP.1
  have EE:128 / (x * y * z) <= 128:=Int.ediv_le_self _ (by decide)
  have UO:=s6 _ _ xb
  refine ⟨_,rfl,_,rfl,VV,_,_,_,rfl,rfl,.inl (B9.of UO),rfl,_,rfl,VV,_,_,_,rfl,rfl,.inl (B9.of UO),rfl,_,_,rfl,rfl,K0 (by omega) (by omega),_,rfl,VV,_,_,_,rfl,rfl,.inl (B9.of UO),rfl,_,_,rfl,rfl,K0 (by omega) (by omega),_,_,rfl,rfl,⟨by omega,by omega⟩,_,_,rfl,by show 128 / (x * y * z) < 1000000; omega,?_,fun d h1 h2=>?_⟩
  ·refine ⟨Bf,fun p hp=>?_⟩
   exact q p [x,y,z] none _ (((iL.trans sV).trans s6).trans (Aa.upd hp)) ⟨t,A5,(Aa.upd hp) _ _ e6⟩ (Wn cA eA CP (by decide) (by decide) (by decide) (by decide)).eU.1
  ·refine ⟨Bf,fun p hp=>?_⟩
   exact q p [x,y,z] (some d) _ (((iL.trans sV).trans s6).trans (Aa.upd hp)) ⟨t,A5,(Aa.upd hp) _ _ e6⟩ ((Wn cA eA CP (by decide) (by decide) (by decide) (by decide)).eU.2 d (128 / (x * y * z)) h1 h2 (by omega) (by show 128 / (x * y * z) * (1 * x * y * z) <= 128; rw [Int.one_mul]; omega) (by show 0 <= 1 * x * y * z; rw [Int.one_mul]; omega))
def Tm (K:PySem.W.Frag):Sp:=fun vs H Q _=>U4 fun (a:Addr) (ns:List Int)=>V3 (vs = [.ref a]) (B9 K H a (ns.map V.int)) (∀ (p:Addr) (ws:List Int) (cm:Option Int) (H':Hp),Aa H H' -> B8 H' p ws cm -> Du ws cm -> Q (.ref p) H')
theorem gj {fd cN:FuncData} (T:Txt K mg ad aA aH aB aI aD aE aF aJ aK aM aG aC) (F:Fb K "_law_four" "_law_four" O2 ad.dC fd) (bE:Ai P w K mg base (Bi P w) 1 ad.bX cN ["script","k"] (Lu K)) (bG:Ay K cN ["script","k"] []):Ai P w K mg base (Bi P w) 2 ad.dC fd ["script"] (Tm K):=by
 refine F.okN Ta (fun vs H Q E h=>?_) (fun aV A outer s H vs Q E hr h=>?_)
 ·rcases h with ⟨a,ns,rfl,hS,q⟩ <;> rfl
 ·obtain ⟨a,ns,rfl,hS,q⟩ := h
  refine ⟨_,(A6 (Ah (i:=1) Ta.nd rfl (Or.inl rfl) (Cw (A0 A8 (A0 A8 (A0 A8 (A0 A8 A7)))))) (A6 (Ah (i:=2) Ta.nd rfl (Or.inl rfl) (Al Br (Af bE (hr.mono (by decide)) rfl T.cL T.k_x11 bG .nil B0 (A0 (pv 0) (A0 A8 A7))) A8)) (A6 (Ss (Al C7 (Bg (Be K) (pv 1) (pv 2) (fun _ _=>rfl)) (Al Br (Af bE (hr.mono (by decide)) rfl T.cL T.k_x11 bG .nil B0 (A0 (pv 0) (A0 A8 A7))) A8)) (Sr (pv 1) (pv 2) Ls)) (A6 (E6 (Bc L9 (Bg (Be K) (pv 1) (pv 2) (fun _ _=>rfl)) A8 (Bh _)) (Ab (Ss (Al C7 A8 (Al Br (Al Cr (Af bE (hr.mono (by decide)) rfl T.cL T.k_x11 bG .nil B0 (A0 (pv 0) (A0 A8 A7))) A8) A8)) (Sr (pv 1) (Al Br (Af bE (hr.mono (by decide)) rfl T.cL T.k_x11 bG .nil B0 (A0 (pv 0) (A0 A8 A7))) A8) Ls))) As) (Ab (Ak (Bt (A0 (Cc (D6 K) (by rfl) T.bI boot_tuple (A0 (pv 1) A7)) (A0 Cy A7))))))))),?_⟩
  refine ⟨Bf,fun W hW=>?_⟩
  have s1:Aa H (upd H W (.lst [.int 4,.int 4,.int 4,.int 4])):=Aa.upd hW
  have e1:(upd H W (.lst [.int 4,.int 4,.int 4,.int 4])) W = some (.lst [.int 4,.int 4,.int 4,.int 4]):=A5
  generalize upd H W (.lst [.int 4,.int 4,.int 4,.int 4]) = H1 at s1 e1 ⊢
  have kR:H1 W = some (.lst (([4,4,4,4]:List Int).map V.int)):=e1
  refine ⟨_,rfl,a,ns,_,rfl,s1.seq hS,by decide,_,_,rfl,rfl,(by first | (show (0:Int) < _; decide) | simp),?_⟩
  have m4:=Au (Ck ns 1) (show (0:Int) < 4 by decide)
  have m5:=Au (Ck ns 2) (show (0:Int) < 5 by decide)
  dsimp only
  obtain ⟨i,hi⟩ : ∃ i:Nat,Ck ns 1 % 4 = (i:Int):=⟨(Ck ns 1 % 4).toNat,by omega⟩
  have hi4:i < 4:=by omega
  have at1:Q8 (([4,4,4,4]:List Int).map V.int) (Ck ns 1 % 4) = some (.int 4):=by
   rw [hi]
   rcases (show i = 0 \/ i = 1 \/ i = 2 \/ i = 3 by omega) with e | e | e | e <;> subst e <;> rfl
  have ix1:∀ n:Nat,n = 4 -> Z8 n (Ck ns 1 % 4) = some i:=fun n hn=>by
   rw [hi]
   exact Os (by omega)
  refine ⟨_,rfl,_,rfl,W,_,_,_,rfl,rfl,.inl (B9.of kR),at1,_,rfl,a,ns,_,rfl,s1.seq hS,by decide,_,_,rfl,rfl,(by first | (show (0:Int) < _; decide) | simp),_,_,rfl,rfl,_,rfl,_,rfl,W,_,_,i,rfl,rfl,kR,ix1 _ rfl,?_⟩
  have hx:4 <= 4 + Ck ns 2 % 5 /\ 4 + Ck ns 2 % 5 <= 8:=by omega
  have s2:Aa H (upd H1 W (.lst ((([4,4,4,4]:List Int).map V.int).set i (.int (4 + Ck ns 2 % 5))))):=s1.new hW
  have e2:(upd H1 W (.lst ((([4,4,4,4]:List Int).map V.int).set i (.int (4 + Ck ns 2 % 5))))) W = some (.lst ((([4,4,4,4]:List Int).set i (4 + Ck ns 2 % 5)).map V.int)):=by
   rw [A5,List.map_set]
  generalize upd H1 W (.lst ((([4,4,4,4]:List Int).map V.int).set i (.int (4 + Ck ns 2 % 5)))) = H2 at s2 e2 ⊢
  generalize hxe:4 + Ck ns 2 % 5 = x at hx e2
  have hl4:(([4,4,4,4]:List Int).set i x).length = 4:=by rw [List.length_set]; rfl
  have at2:Q8 ((([4,4,4,4]:List Int).set i x).map V.int) (Ck ns 1 % 4) = some (.int x):=by
   have:=Ke (xs:=([4,4,4,4]:List Int).set i x) (k:=i) (by omega) hi
   rw [Yg (by show i < 4; omega)] at this
   exact this
  refine ⟨_,rfl,_,rfl,W,_,_,_,rfl,rfl,.inl (B9.of e2),at2,_,_,rfl,rfl,_,rfl,(fun σ' H'=>∃ (ws:List Int),Jm (σ' = [some (.ref a),some (.ref W),some (.int (Ck ns 1 % 4))]) (H' W = some (.lst (ws.map V.int))) (Aa H H') (Du ws none)),fun h6=>?_,fun _=>?_,?_⟩
  ·have h6':x < 6:=of_decide_eq_true h6
   have m3:=Au (Ck ns 3) (show (0:Int) < 4 by decide)
   have m2:=Au (Ck ns 3 / 4) (show (0:Int) < 2 by decide)
   obtain ⟨k,hk⟩ : ∃ k:Nat,Ck ns 3 % 4 = (k:Int):=⟨(Ck ns 3 % 4).toNat,by omega⟩
   refine ⟨_,rfl,a,ns,_,rfl,s2.seq hS,by decide,_,_,rfl,rfl,⟨by decide,by decide⟩,_,_,rfl,rfl,(by first | (show (0:Int) < _; decide) | simp),_,_,rfl,rfl,_,rfl,_,rfl,a,ns,_,rfl,s2.seq hS,by decide,_,_,rfl,rfl,(by first | (show (0:Int) < _; decide) | simp),W,_,_,k,rfl,rfl,e2,(by rw [hk]; exact Os (by rw [List.length_map,hl4]; omega)),?_⟩
   refine ⟨(([4,4,4,4]:List Int).set i x).set k (4 + Ck ns 3 / 4 % 2),rfl,?_,s2.new hW,Vm hi4 (by omega) (by omega) (by omega)⟩
   simp only [A5,List.map_set]
  ·obtain ⟨_,_,_,_,_,hT⟩ := Xb hi4 hx
   exact ⟨_,rfl,e2,s2,hT⟩
  rintro σ' H3 ⟨ws,rfl,e3,s3,hT⟩
  refine ⟨_,rfl,W,_,rfl,.inl ⟨B9.of e3,fun t ht=>?_⟩⟩
  have s4:Aa H3 (upd H3 t (.tup (ws.map V.int))):=Aa.upd ht
  have e4:(upd H3 t (.tup (ws.map V.int))) t = some (.tup (ws.map V.int)):=A5
  generalize upd H3 t (.tup (ws.map V.int)) = H4 at s4 e4 ⊢
  refine ⟨Bf,fun p hp=>?_⟩
  exact q p ws none _ ((s3.trans s4).trans (Aa.upd hp)) ⟨t,A5,(Aa.upd hp) _ _ e4⟩ hT
def Yo (K:PySem.W.Frag):Sp:=fun vs H Q _=>U4 fun (a:Addr) (ns:List Int)=>Hl (vs = [.ref a]) (B9 K H a (ns.map V.int)) (ns.length <= 63) ((∀ z ∈ ns,intBits z <= 2 ^ 20)) (∀ (h:Addr) (ws:List Int) (cm:Option Int) (H':Hp),Aa H H' -> B8 H' h ws cm -> (∀ w ∈ ws,intBits w <= 256) -> intBits (qv cm) <= 256 -> ws.length <= 8 -> 3000 < Am (qv cm) ws -> Q (.ref h) H')
theorem kz {fd fU:FuncData} (T:Txt K mg ad aA aH aB aI aD aE aF aJ aK aM aG aC) (F:Fb K "_law_too_many" "_law_too_many" Sw ad.gI fd) (hJ:Ai P w K mg base (Bi P w) 1 ad.cK fU ["cells"] (Po K)) (hX:Ay K fU ["cells"] []):Ai P w K mg base (Bi P w) 2 ad.gI fd ["script"] (Yo K):=by
 refine F.okN G8 (fun vs H Q E h=>?_) (fun aV A outer s H vs Q E hr h=>?_)
 ·rcases h with ⟨a,ns,rfl,hS,hlen,iM,q⟩ <;> rfl
 ·obtain ⟨a,ns,rfl,hS,hlen,iM,q⟩ := h
  refine ⟨_,(A6 (Ah (i:=1) G8.nd rfl (Or.inl rfl) (Af hJ (hr.mono (by decide)) rfl T.tW T.k_x29 hX .nil B0 (A0 (F0 (F7 K) (pv 0) (Ej A8) K4) A7))) (A6 (Ah (i:=2) G8.nd rfl (Or.inl rfl) Cy) (A6 (Ah (i:=3) G8.nd rfl (Or.inl rfl) A8) (A6 (E6 (Bc cg (Al Br (pv 1) A8) A8 (Bh _)) (A6 (Ah (i:=2) G8.nd rfl (Or.inl rfl) (Al Br (pv 1) A8)) (Ab (Ah (i:=3) G8.nd rfl (Or.inl rfl) (Al C7 (pv 2) A8)))) As) (A6 (De (i:=4) G8.nd rfl (Dm (w':=Px K _) (Dn (F0 (F7 K) (pv 0) (Ej A8) (Ej A8)))) _ rfl Hs rfl rfl (fun _ _ _ _=>(Ax (i:=0) Ic rfl (Or.inl rfl))) (fun _ _ _ _=>Dy) (fun _ _ _ _=>(Al C7 A8 (Al Br (pv 0) A8))) rfl rfl) (A6 (Co PassesOwn.never rfl (Dm (w':=Px K _) (Dn (pv 4))) (Ax (i:=5) G8.nd rfl (Or.inl rfl)) (Ab (Ah (i:=3) G8.nd rfl (Or.inl rfl) (Al Gj (pv 3) (pv 5))))) (A6 (Ah (i:=6) G8.nd rfl (Or.inl rfl) (Al C7 (Al Cr A8 (pv 3)) A8)) (A6 (E6 (Bc Gz (Al Br (Al Cr (pv 1) A8) A8) A8 (Bh _)) (Ab (Ah (i:=6) G8.nd rfl (Or.inl rfl) (Al C7 (pv 6) (Al Br (Al Cr (pv 1) A8) (Al gw A8 A8))))) As) (A6 (Ce (Dx (u':=Ts K _ _ _ _) (Eh PySem.F.plainAttrs_list PySem.F.slot_list_insert PySem.F.type_list_insert Nh (pv 4) (A0 (Al Br (Al Cr (pv 1) A8) (Al C7 (Ba (C5 K) (by rfl) T.bS PySem.boot_len (A0 (pv 4) A7)) A8)) (A0 (pv 6) A7))))) (Ab (Ak (Bt (A0 (Cc (D6 K) (by rfl) T.bI boot_tuple (A0 (pv 4) A7)) (A0 (pv 2) A7)))))))))))))),?_⟩
  refine ⟨_,rfl,_,rfl,a,_,rfl,hS,fun sl UM=>?_⟩
  rw [Iw]
  have iE:(Gu ns (some 1) none).length <= 63:=Nat.le_trans (Jc _ _ _) hlen
  have uH:∀ z ∈ Gu ns (some 1) none,intBits z <= 2 ^ 20:=fun z hz=>iM z (List.mem_of_mem_drop (List.mem_of_mem_take hz))
  generalize Gu ns (some 1) none = cs at iE uH ⊢
  have s1:Aa H (upd H sl (.lst (cs.map V.int))):=Aa.upd UM
  have e1:(upd H sl (.lst (cs.map V.int))) sl = some (.lst (cs.map V.int)):=A5
  generalize upd H sl (.lst (cs.map V.int)) = H1 at s1 e1 ⊢
  refine ⟨sl,cs,rfl,e1,iE,uH,fun cell=>?_⟩
  have m3:=Au cell (show (0:Int) < 3 by decide)
  refine ⟨_,rfl,_,_,rfl,rfl,(by first | (show (0:Int) < _; decide) | simp),_,_,rfl,rfl,_,rfl,(fun σ' H'=>∃ (cm:Option Int),Jm (σ' = [some (.ref a),some (.int cell),some (vO cm),some (.int (qv cm)),none,none,none]) (H' = H1) (1 <= qv cm) (qv cm <= 3)),fun h=>?_,fun _=>⟨none,rfl,rfl,by decide,by decide⟩,?_⟩
  ·have h':0 < cell % 3:=of_decide_eq_true h
   exact ⟨_,rfl,_,_,rfl,rfl,(by first | (show (0:Int) < _; decide) | simp),_,rfl,_,_,rfl,rfl,some (cell % 3),rfl,rfl,(by show 1 <= cell % 3 + 1; omega),(by show cell % 3 + 1 <= 3; omega)⟩
  rintro σ' H2 ⟨cm,rfl,rfl,qY,hq3⟩
  refine ⟨_,rfl,_,rfl,_,rfl,a,_,rfl,s1.seq hS,fun sm CI=>?_⟩
  rw [Iw]
  have DW:(Gu ns (some 2) (some 9)).length <= 7:=by
   have:=Ww ns 2 9
   have e:Gu ns (some ((2:Nat):Int)) (some ((9:Nat):Int)) = Gu ns (some 2) (some 9):=rfl
   rw [e] at this
   omega
  generalize Gu ns (some 2) (some 9) = ds at DW ⊢
  have s3:Aa H2 (upd H2 sm (.lst (ds.map V.int))):=Aa.upd CI
  have e3:(upd H2 sm (.lst (ds.map V.int))) sm = some (.lst (ds.map V.int)):=A5
  generalize upd H2 sm (.lst (ds.map V.int)) = H3 at s3 e3 ⊢
  refine ⟨sm,rfl,.inl ⟨⟨_,B9.of e3⟩,fun W hW=>?_⟩⟩
  refine Ge (K:=K) (a:=sm) (xs:=ds.map V.int) (fun i zs H'=>∃ (ws:List Int),Hl (zs = ws.map V.int) (ws.length = i) ((∀ w ∈ ws,1 <= w /\ w <= 6)) (H' W = some (.lst zs)) (Aa H3 H')) ⟨[],rfl,rfl,(fun w hw=>by cases hw),A5,Aa.upd hW⟩ (by rintro i zs H' _ ⟨_,_,_,_,_,s⟩; exact B9.of (s _ _ e3)) ?_ ?_
  ·rintro i y zs H' hy ⟨ws,rfl,qR,dM,qZ,s'⟩ Qe hQ
   have hi:=(List.getElem?_eq_some_iff.mp hy).1
   rw [List.length_map] at hi
   rw [List.getElem?_map] at hy
   obtain ⟨x,hx,rfl⟩ := Option.map_eq_some_iff.mp hy
   have cA:=Au x (show (0:Int) < 6 by decide)
   refine ⟨_,rfl,_,_,rfl,rfl,(by first | (show (0:Int) < _; decide) | simp),_,_,rfl,rfl,?_⟩
   refine hQ _ _ qZ (Bx (by rw [List.length_map]; omega)) ⟨ws ++ [_],Qz _ _,Qr qR,?_,A5,s'.new hW⟩
   intro w hw
   rcases List.mem_append.mp hw with z | z
   ·exact dM w z
   ·rw [List.mem_singleton.mp z]
    show 1 <= 1 + x % 6 /\ 1 + x % 6 <= 6
    omega
  rintro zs H4 ⟨ws,rfl,qR,vZ,eW,s4⟩
  rw [List.length_map] at qR
  have NH:=(s1.trans s3).trans s4
  have hlw:ws.length <= 7:=by omega
  refine ⟨_,rfl,W,rfl,.inl ⟨⟨_,B9.of eW⟩,?_⟩⟩
  refine D3 (K:=K) (a:=W) (xs:=ws.map V.int) (fun i σ H'=>∃ (v5:Option V),Jm (σ = [some (.ref a),some (.int cell),some (vO cm),some (.int (Am (qv cm) (ws.take i))),some (.ref W),v5,none]) (H' = H4) (1 <= Am (qv cm) (ws.take i)) (Am (qv cm) (ws.take i) <= 3 * 6 ^ i)) ⟨none,rfl,rfl,qY,(by show qv cm <= 3 * 6 ^ 0; omega)⟩ (by rintro i σ H' _ ⟨_,_,e,_⟩; exact (by subst e; exact B9.of eW)) ?_ ?_
  ·rintro i y σ H' hy ⟨v5,rfl,rfl,r1,r2⟩
   have hi:=(List.getElem?_eq_some_iff.mp hy).1
   rw [List.length_map] at hi
   rw [List.getElem?_map] at hy
   obtain ⟨x,hx,rfl⟩ := Option.map_eq_some_iff.mp hy
   have cA:=vZ x (List.mem_of_getElem? hx)
   have e:Am (qv cm) (ws.take (i + 1)) = Am (qv cm) (ws.take i) * x:=by
    rw [Ij hx]
    unfold Am
    rw [List.foldl_append]
    rfl
   have hpw:(6:Int) ^ (i + 1) = 6 ^ i * 6:=Int.pow_succ 6 i
   have b1:=Int.mul_le_mul r1 cA.1 (by decide) (by omega)
   have b2:=Int.mul_le_mul r2 cA.2 (by omega) (by omega)
   have b3:3 * 6 ^ i * 6 = 3 * (6:Int) ^ (i + 1):=by rw [hpw,Int.mul_assoc]
   refine ⟨_,rfl,_,rfl,_,_,rfl,rfl,K0 (by omega) (by omega),some (.int x),?_,rfl,?_,?_⟩
   ·rw [e]
    rfl
   ·rw [e]
    omega
   ·rw [e,<- b3]
    exact b2
  rintro σ H5 ⟨v5,rfl,rfl,r1,r2⟩
  rw [List.length_map,List.take_length] at r1 r2 ⊢
  have r3:Am (qv cm) ws <= 839808:=by
   refine Int.le_trans r2 ?_
   rcases (show ws.length = 0 \/ ws.length = 1 \/ ws.length = 2 \/ ws.length = 3 \/ ws.length = 4 \/ ws.length = 5 \/ ws.length = 6 \/ ws.length = 7 by omega) with e | e | e | e | e | e | e | e <;> rw [e] <;> decide
  have hbig2:3000 < Am (qv cm) ws * (3000 / Am (qv cm) ws + 1):=by
   have:=Int.lt_ediv_add_one_mul_self 3000 (show (0:Int) < Am (qv cm) ws by omega)
   rw [Int.mul_comm]
   exact this
  have hdv:0 <= 3000 / Am (qv cm) ws /\ 3000 / Am (qv cm) ws <= 3000:=⟨Int.ediv_nonneg (by decide) (by omega),Int.ediv_le_self _ (by decide)⟩
  refine ⟨_,rfl,_,_,rfl,rfl,⟨by omega,by omega⟩,_,_,rfl,rfl,?_⟩
  refine ⟨_,rfl,_,_,rfl,rfl,⟨by decide,by decide⟩,_,_,rfl,rfl,(by first | (show (0:Int) < _; decide) | simp),rfl,_,rfl,(fun σ' H'=>∃ (last:Int),Jm (σ' = [some (.ref a),some (.int cell),some (vO cm),some (.int (Am (qv cm) ws)),some (.ref W),v5,some (.int last)]) (H' = H5) (3000 / Am (qv cm) ws + 1 <= last) (last <= 3001 + 10 ^ 40)),fun _=>?_,fun _=>⟨_,rfl,rfl,Int.le_refl _,by omega⟩,?_⟩
  ·have m40:=Au (cell / 6) (show (0:Int) < 10 ^ 40 by decide)
   refine ⟨_,rfl,_,rfl,_,_,rfl,rfl,⟨by decide,by decide⟩,_,_,rfl,rfl,⟨by decide,by decide,by decide⟩,_,_,rfl,rfl,(by show (0:Int) < 10 ^ 40; decide),_,_,rfl,rfl,3000 / Am (qv cm) ws + 1 + cell / 6 % 10 ^ 40,rfl,rfl,by omega,by omega⟩
  rintro σ' H6 ⟨last,rfl,rfl,CJ,lY⟩
  have iU:=Au (cell / 3) (show (0:Int) < ((ws.map V.int).length:Nat) + 1 by omega)
  refine ⟨_,rfl,.inl ⟨rfl,_,B9.of eW⟩,_,rfl,_,_,rfl,rfl,⟨by decide,by decide⟩,_,rfl,W,_,rfl,.inl (B9.of eW),_,_,rfl,rfl,_,_,rfl,rfl,(by show (0:Int) < ((ws.map V.int).length:Nat) + 1; omega),_,rfl,W,_,_,_,rfl,rfl,eW,iU.1,(by show cell / 3 % (((ws.map V.int).length:Nat) + 1) <= ((ws.map V.int).length:Nat); omega),Bx (by rw [List.length_map]; omega),?_⟩
  generalize (cell / 3 % (((ws.map V.int).length:Nat) + 1)).toNat = at'
  have ez:(ws.map V.int).take at' ++ V.int last :: (ws.map V.int).drop at' = (ws.take at' ++ last :: ws.drop at').map V.int:=by
   rw [List.map_append,List.map_cons,List.map_take,List.map_drop]
  rw [ez]
  have hz:∀ w ∈ ws.take at' ++ last :: ws.drop at',intBits w <= 256:=fun w hw=>by
   rcases List.mem_append.mp hw with y | y
   ·have:=vZ w (List.mem_of_mem_take y)
    exact Fv (by omega) (by omega)
   ·rcases List.mem_cons.mp y with y | y
    ·rw [y]
     exact U8 (Nat.lt_of_le_of_lt (show last.natAbs <= 3001 + 10 ^ 40 by omega) (by decide))
    ·have:=vZ w (List.mem_of_mem_drop y)
     exact Fv (by omega) (by omega)
  have rT:(ws.take at' ++ last :: ws.drop at').length <= 8:=by
   rw [List.length_append,List.length_cons,List.length_take,List.length_drop]
   omega
  have hzp:3000 < Am (qv cm) (ws.take at' ++ last :: ws.drop at'):=by
   rw [R9]
   have:=Int.mul_le_mul_of_nonneg_left CJ (show 0 <= Am (qv cm) ws by omega)
   omega
  generalize ws.take at' ++ last :: ws.drop at' = wz at hz rT hzp ⊢
  have hHW:H W = none:=(s1.trans s3).free hW
  have s7:Aa H (upd H6 W (.lst (wz.map V.int))):=NH.new hHW
  have e7:(upd H6 W (.lst (wz.map V.int))) W = some (.lst (wz.map V.int)):=A5
  generalize upd H6 W (.lst (wz.map V.int)) = H7 at s7 e7 ⊢
  refine ⟨_,rfl,W,_,rfl,.inl ⟨B9.of e7,fun t ht=>?_⟩⟩
  have s8:Aa H7 (upd H7 t (.tup (wz.map V.int))):=Aa.upd ht
  have e8:(upd H7 t (.tup (wz.map V.int))) t = some (.tup (wz.map V.int)):=A5
  generalize upd H7 t (.tup (wz.map V.int)) = H8 at s8 e8 ⊢
  refine ⟨_,rfl,Bf,fun p hp=>?_⟩
  exact q p wz cm _ ((s7.trans s8).trans (Aa.upd hp)) ⟨t,A5,(Aa.upd hp) _ _ e8⟩ hz (Fv (by omega) (by omega)) rT hzp
def Tc (K:PySem.W.Frag):Sp:=fun vs H Q _=>Ma fun (a:Addr) (ws:List Int) (cm:Option Int)=>K8 (vs = [.ref a]) (B8 H a ws cm) ((∀ w ∈ ws,intBits w <= 256)) (intBits (qv cm) <= 256) (ws.length <= 8) (3000 < Am (qv cm) ws) (∀ H',Aa H H' -> Q (.bl true) H')
theorem ft {fd fV:FuncData} (T:Txt K mg ad aA aH aB aI aD aE aF aJ aK aM aG aC) (F:Fb K "_law_refused" "_law_refused" Nt ad.dD fd) (eY:Ai P w K mg base (Bi P w) 9 ad.cJ fV ["hall"] (Pk K aA)) (eZ:Ay K fV ["hall"] []):Ai P w K mg base (Bi P w) 10 ad.dD fd ["hall"] (Tc K):=by
 refine F.okN Pe (fun vs H Q E h=>?_) (fun aV A outer s H vs Q E hr h=>?_)
 ·rcases h with ⟨a,ws,cm,rfl,ha,hb,fL,eJ,hp,q⟩ <;> rfl
 ·obtain ⟨a,ws,cm,rfl,ha,hb,fL,eJ,hp,q⟩ := h
  refine ⟨_,(A6 (Ah (i:=1) Pe.nd rfl (Or.inl rfl) Fo) (A6 (i5 (i:=2) rfl rfl (fun W pn R hp=>(Ab (Ce (Fy eY (hr.mono (by decide)) rfl T.kU T.k_x10 eZ .nil hp (A0 (pv 0) A7))))) (.cons (by rfl) T.nH (by decide) T.b_NoHall T.s_TooMany_NoHall (fun _=>rfl) (.cons (by rfl) T.iI (by decide) T.b_NoListener T.s_TooMany_NoListener (fun _=>rfl) (.cons (by rfl) T.nI (by decide) T.b_NoLoss T.s_TooMany_NoLoss (fun _=>rfl) (.cons (by rfl) T.lL (by decide) T.b_NoWheel T.s_TooMany_NoWheel (fun _=>rfl) (.cons (by rfl) T.lM (by decide) T.b_NoChain T.s_TooMany_NoChain (fun _=>rfl) (.cons (by rfl) T.lN (by decide) T.b_TooMuch T.s_TooMany_TooMuch (fun _=>rfl) (.cons (by rfl) T.nJ (by decide) T.b_NoPart T.s_TooMany_NoPart (fun _=>rfl) (.cons (by rfl) T.nK (by decide) T.b_Unsafe T.s_TooMany_Unsafe (fun _=>rfl) (.cons (by rfl) T.rS (by decide) T.b_NoRow T.s_TooMany_NoRow (fun _=>rfl) (.cons (by rfl) T.lO (by decide) T.b_NoStand T.s_TooMany_NoStand (fun _=>rfl) .nil)))))))))) (by decide) (by rfl) T.gR T.e_TooMany Pe.nd rfl rfl (fun A=>(Ab (Ah (i:=1) Pe.nd rfl (Or.inl rfl) (P6 (Ba (My K) (by rfl) T.aX boot_isinstance (A0 (pv 2) (A0 (Uu (v := .ref aC) (by rfl) T.iJ rfl) A7))) (Lb (Ba (My K) (by rfl) T.aX boot_isinstance (A0 (pv 2) (A0 (R8 (by rfl) T.iH PyProof.Rows.Boot.«ValueError») A7))))))))) (Ab (Ak (pv 1))))),?_⟩
  refine ⟨_,rfl,(fun cls _ H2=>cls = .ref aA /\ Aa H H2),?_,.inr ⟨a,ws,cm,rfl,ha,hb,fL,eJ,hp,fun H2 s2=>⟨rfl,s2⟩⟩⟩
  rintro cls H2 ⟨rfl,s2⟩
  refine ⟨rfl,fun x hx=>?_⟩
  refine ⟨_,rfl,x,_,_,_,rfl,hx,(fun _ z=>z),T.i_TooMany_RoundError,_,true,rfl,fun _ Q' z=>⟨_,rfl,x,_,_,_,rfl,hx,(fun _ z=>z),T.i_TooMany_ValueError,z⟩,?_⟩
  exact ⟨_,rfl,q H2 s2⟩
def Tn (K:PySem.W.Frag):Sp:=fun vs H Q _=>∃ (c:Int),vs = [.int c] /\ ∀ (p:Addr) (w:Int) (cm:Option Int) (H':Hp),Aa H H' -> B8 H' p [w] cm -> Du [w] cm -> 2 <= w -> (∀ d,cm = some d -> 1 <= d) -> Q (.ref p) H'
theorem gk {fd  : FuncData} (T:Txt K mg ad aA aH aB aI aD aE aF aJ aK aM aG aC) (F:Fb K "_law_just" "_law_just" O3 ad.dE fd):Ai P w K mg base (Bi P w) 1 ad.dE fd ["cell"] (Tn K):=by
 refine F.okN Yd (fun vs H Q E h=>?_) (fun aV A outer s H vs Q E hr h=>?_)
 ·rcases h with ⟨c0,rfl,q⟩ <;> rfl
 ·obtain ⟨c0,rfl,q⟩ := h
  refine ⟨_,(A6 (Ah (i:=1) Yd.nd rfl (Or.inl rfl) (Al Br (pv 0) A8)) (A6 (Cg (Bc Gz (pv 1) A8 (Bh _)) (Ab (Ak (Bt (A0 (Bt (A0 A8 A7)) (A0 Cy A7))))) As) (Ab (Ak (Bt (A0 (Bt (A0 (Al Cr A8 (Al C7 (pv 1) A8)) A7)) (A0 (pv 1) A7))))))),?_⟩
  refine ⟨_,rfl,_,_,rfl,rfl,(by first | (show (0:Int) < _; decide) | simp),?_⟩
  have m6:=Au c0 (show (0:Int) < 6 by decide)
  dsimp only
  generalize c0 % 6 = c at m6 ⊢
  refine ⟨_,rfl,rfl,_,rfl,?_⟩
  refine Gv (fun _=>?_) (fun wR=>?_)
  ·refine ⟨Bf,fun t ht=>?_⟩
   have s1:Aa H (upd H t (.tup [.int 3000])):=Aa.upd ht
   have e1:(upd H t (.tup [.int 3000])) t = some (.tup [.int 3000]):=A5
   generalize upd H t (.tup [.int 3000]) = H1 at s1 e1 ⊢
   refine ⟨Bf,fun p hp=>?_⟩
   exact q p 3000 none _ (s1.trans (Aa.upd hp)) ⟨t,A5,(Aa.upd hp) _ _ e1⟩ ⟨(fun x hx=>by cases List.mem_singleton.mp hx; decide),(fun d e=>by cases e),by simp,by simp,by decide⟩ (by decide) (fun d e=>by cases e)
  have hc1:c ≠ 0:=by
   intro z
   rw [z] at wR
   exact wR rfl
  have hcs:c = 1 \/ c = 2 \/ c = 3 \/ c = 4 \/ c = 5:=by omega
  have hd:500 <= 3000 / (c + 1) /\ 3000 / (c + 1) <= 3000 /\ (c + 1) * (3000 / (c + 1)) <= 3000:=by rcases hcs with e | e | e | e | e <;> subst e <;> decide
  refine ⟨_,rfl,_,_,rfl,rfl,_,_,rfl,rfl,⟨by omega,by omega⟩,Bf,fun t ht=>?_⟩
  have s1:Aa H (upd H t (.tup [.int (3000 / (c + 1))])):=Aa.upd ht
  have e1:(upd H t (.tup [.int (3000 / (c + 1))])) t = some (.tup [.int (3000 / (c + 1))]):=A5
  generalize upd H t (.tup [.int (3000 / (c + 1))]) = H1 at s1 e1 ⊢
  refine ⟨_,rfl,Bf,fun p hp=>?_⟩
  exact q p (3000 / (c + 1)) (some c) _ (s1.trans (Aa.upd hp)) ⟨t,A5,(Aa.upd hp) _ _ e1⟩ ⟨(fun x hx=>by cases List.mem_singleton.mp hx; omega),(fun d e=>by cases e; omega),by simp,by simp,(by show (c + 1) * (3000 / (c + 1)) <= 3000; omega)⟩ (by omega) (fun d e=>by cases e; omega)
def Tf (K:PySem.W.Frag):Sp:=fun vs H Q _=>cx fun (a b:Addr) (ws ls:List Int) (cm:Option Int) (n w:Int) (who:Nat)=>Rs (vs = [.ref a,.ref b,.int w]) (w = (who:Int)) (B8 H a ws cm) (Ec H b ls n) (who < ws.length) (ls.length = ws.length) (ws.length <= 8) ((0:Int) ∉ Bb ws ls who false) (∀ (p:Addr) (H':Hp),Aa H H' -> Ec H' p (Bb ws ls who false) 0 -> Q (.ref p) H')
theorem g7 {fd  : FuncData} (T:Txt K mg ad aA aH aB aI aD aE aF aJ aK aM aG aC) (F:Fb K "_law_behind" "_law_behind" Nx ad.dG fd):Ai P w K mg base (Bi P w) 1 ad.dG fd ["hall","standing","who"] (Tf K):=by
 refine F.okN Sy (fun vs H Q E h=>?_) (fun aV A outer s H vs Q E hr h=>?_)
 ·rcases h with ⟨a,b,ws,ls,cm,n,w0,who,rfl,rfl,ha,hb,hw,hl,h8,hz,q⟩ <;> rfl
 ·obtain ⟨a,b,ws,ls,cm,n,w0,who,rfl,rfl,ha,hb,hw,hl,h8,hz,q⟩ := h
  refine ⟨_,(A6 (Ah (i:=3) Sy.nd rfl (Or.inl rfl) (Cw A7)) (A6 (Co PassesOwn.never rfl (D7 (by rfl) T.bJ (A0 (Ba (C5 K) (by rfl) T.bS PySem.boot_len (A0 (Bg (Be K) (pv 0) A8 (fun _ _=>rfl)) A7)) A7)) (Ax (i:=4) Sy.nd rfl (Or.inl rfl)) (Ab (E6 (Bc Gz (pv 4) (pv 2) (Bh _)) (Ab (Ce (Dx (u':=Ts K _ _ _ _) (Eh PySem.F.plainAttrs_list PySem.F.slot_list_append PySem.F.type_list_append D0 (pv 3) (A0 (Bg (Be K) (Bg (Be K) (pv 0) A8 (fun _ _=>rfl)) (pv 4) (fun _ _=>rfl)) A7))))) (Ab (Ce (Dx (u':=Ts K _ _ _ _) (Eh PySem.F.plainAttrs_list PySem.F.slot_list_append PySem.F.type_list_append D0 (pv 3) (A0 (Al P5 (Bg (Be K) (Bg (Be K) (pv 1) A8 (fun _ _=>rfl)) (pv 4) (fun _ _=>rfl)) A8) A7)))))))) (A6 (Cg (Bc (Xv K) A8 (pv 3) rfl) (Ab (Ak Cy)) As) (Ab (Ak (Bt (A0 (Cc (D6 K) (by rfl) T.bI boot_tuple (A0 (pv 3) A7)) (A0 A8 A7)))))))),?_⟩
  obtain ⟨wt,bU,bZ⟩ := id ha
  obtain ⟨bu,kA,jG⟩ := id hb
  refine ⟨Bf,fun L hL=>?_⟩
  have s1:Aa H (upd H L (.lst [])):=Aa.upd hL
  have e1:(upd H L (.lst [])) L = some (.lst []):=A5
  generalize upd H L (.lst []) = H1 at s1 e1 ⊢
  have hlb:(Bb ws ls who false).length = ws.length:=(Ff _ _ _ _).trans hl
  refine ⟨_,rfl,a,_,_,_,rfl,rfl,.inr (Cj.of (s1 _ _ bU)),rfl,wt,_,rfl,.inr (Cj.of (s1 _ _ bZ)),_,rfl,by omega,(by rw [List.length_map]; omega),?_⟩
  refine Ey (n:=((ws.map V.int).length:Int).toNat) (fun i σ H'=>∃ (v4:Option V),V3 (σ = [some (.ref a),some (.ref b),some (.int who),some (.ref L),v4]) (Aa H H') (H' L = some (.lst (((Bb ws ls who false).take i).map V.int)))) ⟨none,rfl,s1,e1⟩ ?_ ?_
  ·rintro i σ H' hi ⟨v4,rfl,s',jJ⟩
   rw [List.length_map] at hi
   have fH:i < ws.length:=by omega
   have UP:Q8 (ws.map V.int) (0 + (i:Int)) = some (.int (ws.getD i 0)):=Ke fH (by omega)
   have atl:Q8 (ls.map V.int) (0 + (i:Int)) = some (.int (ls.getD i 0)):=Ke (by omega) (by omega)
   have eD:=Ou (ws:=ws) (ls:=ls) (who:=who) (i:=i) (lost:=false) (by omega)
   have fin:∀ x:Int,x = (Bb ws ls who false).getD i 0 -> (upd H' L (.lst (((Bb ws ls who false).take i).map V.int ++ [.int x]))) L = some (.lst (((Bb ws ls who false).take (i + 1)).map V.int)):=fun x hx=>by
    have e:(Bb ws ls who false)[i]? = some x:=by
     rw [hx,List.getD_eq_getElem?_getD,List.getElem?_eq_getElem (by omega)]
     rfl
    rw [A5,Ij e,List.map_append]
    rfl
   have hsz:(((Bb ws ls who false).take i).map V.int).length < sizeLine:=Bx (by rw [List.length_map,List.length_take]; omega)
   refine ⟨_,rfl,_,rfl,rfl,_,rfl,_,fun hk=>?_,fun hk=>?_,fun _ _ z=>z⟩
   ·have cR : i = who := by
     have:(0:Int) + (i:Int) = (who:Int):=by simpa using hk
     omega
    refine ⟨_,rfl,.inl ⟨rfl,_,B9.of jJ⟩,_,rfl,a,_,_,_,rfl,rfl,.inr (Cj.of (s' _ _ bU)),rfl,_,rfl,wt,_,_,_,rfl,rfl,.inr (Cj.of (s' _ _ bZ)),UP,L,_,_,rfl,rfl,jJ,hsz,?_⟩
    refine ⟨_,rfl,s'.new hL,fin _ ?_⟩
    rw [eD,if_pos ⟨cR,rfl⟩,cR]
   ·have cR : i ≠ who := fun z => by
     rw [z] at hk
     simp at hk
    refine ⟨_,rfl,.inl ⟨rfl,_,B9.of jJ⟩,_,rfl,b,_,_,_,rfl,rfl,.inr (Cj.of (s' _ _ kA)),rfl,_,rfl,bu,_,_,_,rfl,rfl,.inr (Cj.of (s' _ _ jG)),atl,_,_,rfl,rfl,L,_,_,rfl,rfl,jJ,hsz,?_⟩
    refine ⟨_,rfl,s'.new hL,fin _ ?_⟩
    rw [eD,if_neg (fun z=>cR z.1)]
  rintro σ H2 ⟨v4,rfl,s2,wY⟩
  have et:(Bb ws ls who false).take ((ws.map V.int).length:Int).toNat = Bb ws ls who false:=List.take_of_length_le (by rw [List.length_map]; omega)
  rw [et] at wY
  refine ⟨_,rfl,L,_,rfl,.inl (B9.of wY),rfl,Gh _,_,rfl,?_⟩
  rw [Hx,decide_eq_false hz]
  refine Dk rfl ?_
  refine ⟨_,rfl,L,_,rfl,.inl ⟨B9.of wY,fun t ht=>?_⟩⟩
  have s3:Aa H2 (upd H2 t (.tup ((Bb ws ls who false).map V.int))):=Aa.upd ht
  have e3:(upd H2 t (.tup ((Bb ws ls who false).map V.int))) t = some (.tup ((Bb ws ls who false).map V.int)):=A5
  generalize upd H2 t (.tup ((Bb ws ls who false).map V.int)) = H3 at s3 e3 ⊢
  refine ⟨Bf,fun p hp=>?_⟩
  exact q p _ ((s2.trans s3).trans (Aa.upd hp)) ⟨t,A5,(Aa.upd hp) _ _ e3⟩
def Td (K:PySem.W.Frag):Sp:=fun vs H Q _=>Ma fun (l:Addr) (js:List Nat) (m:Int)=>Jm (vs = [.ref l,.int m]) (H l = some (.lst (B6 js))) ((∀ j ∈ js,(j:Int) < m)) (Q (.bl true) H)
theorem fu {fd  : FuncData} (T:Txt K mg ad aA aH aB aI aD aE aF aJ aK aM aG aC) (F:Fb K "_law_numbers" "_law_numbers" Nu ad.dH fd):Ai P w K mg base (Bi P w) 1 ad.dH fd ["some","many"] (Td K):=by
 refine F.okN Ya (fun vs H Q E h=>?_) (fun aV A outer s H vs Q E hr h=>?_)
 ·rcases h with ⟨l,js,m,rfl,hl,hm,q⟩ <;> rfl
 ·obtain ⟨l,js,m,rfl,hl,hm,q⟩ := h
  refine ⟨_,(A6 (Cg (Dr (D4 (Ba (Gd K) (by rfl) T.aX boot_isinstance (A0 (pv 0) (A0 (R8 (by rfl) T.jZ boot_list) A7))))) (Ab (Ak Fo)) As) (A6 (Co PassesOwn.never rfl (Dm (w':=Px K _) (Dn (pv 0))) (Ax (i:=2) Ya.nd rfl (Or.inl rfl)) (Ab (Cg (PW.pt (G0 (Dr (D4 (Ba (Gd K) (by rfl) T.aX boot_isinstance (A0 (pv 2) (A0 (R8 (by rfl) T.EY boot_int) A7))))) (G0 (D4 (Ba (Gd K) (by rfl) T.aX boot_isinstance (A0 (pv 2) (A0 (R8 (by rfl) T.wc boot_bool) A7)))) (G0 (Bc L9 (pv 2) A8 (Bh _)) (Li (Bc cf (pv 2) (pv 1) (Bh _))))))) (Ab (Ak Fo)) As))) (Ab (Ak Fo)))),?_⟩
  refine ⟨_,rfl,_,"list","list",true,rfl,.lst hl,Ot,_,rfl,Dk rfl ?_⟩
  refine ⟨_,rfl,l,rfl,.inl ⟨⟨_,B9.of hl⟩,?_⟩⟩
  refine D3 (K:=K) (a:=l) (xs:=B6 js) (fun i σ H'=>∃ (v2:Option V),σ = [some (.ref l),some (.int m),v2] /\ H' = H) ⟨none,rfl,rfl⟩ (by rintro i σ H' _ ⟨_,_,e⟩; exact (by subst e; exact B9.of hl)) ?_ ?_
  ·rintro i y σ H' hy ⟨v2,rfl,rfl⟩
   unfold B6 at hy
   rw [List.getElem?_map] at hy
   obtain ⟨x,hx,rfl⟩ := Option.map_eq_some_iff.mp hy
   have cA:=hm x (List.mem_of_getElem? hx)
   refine ⟨_,rfl,_,"int","int",true,rfl,.int _,Se,_,rfl,false,fun _ Q1 z1=>⟨_,rfl,_,"int","bool",false,rfl,.int _,Qq,_,rfl,false,fun _ Q2 z2=>⟨_,rfl,_,_,rfl,rfl,_,rfl,false,fun _ Q3 z3=>⟨_,rfl,_,rfl,_,_,rfl,rfl,_,rfl,?_⟩,?_⟩,z1⟩,Dk rfl ⟨_,rfl,rfl⟩⟩
   ·rw [decide_eq_false (show ¬ (x:Int) >= m by omega)]
    exact z3
   ·rw [decide_eq_false (show ¬ (x:Int) < 0 by omega)]
    exact z2
  rintro σ H' ⟨v2,rfl,rfl⟩
  exact q
def Yj (K:PySem.W.Frag):Sp:=fun vs H Q _=>jl fun (l:Addr) (js:List Nat) (k:Nat) (w0 w:Int)=>K8 (vs = [.ref l,.int w0,.int w]) (w0 = (k:Int)) (H l = some (.lst (B6 js))) (js.length <= 3000) (1 <= w) ((∀ i,i < js.length -> k ∈ ((js ++ js).drop i).take (min w.toNat js.length))) (∀ H',Aa H H' -> Q (.bl true) H')
theorem kn {fd  : FuncData} (T:Txt K mg ad aA aH aB aI aD aE aF aJ aK aM aG aC) (F:Fb K "_law_called_in_time" "_law_called_in_time" We ad.gJ fd):Ai P w K mg base (Bi P w) 1 ad.gJ fd ["row","who","wait"] (Yj K):=by
 refine F.okN Y9 (fun vs H Q E h=>?_) (fun aV A outer s H vs Q E hr h=>?_)
 ·rcases h with ⟨l,js,k,w0,w,rfl,rfl,hl,qU,hw,iU,q⟩ <;> rfl
 ·obtain ⟨l,js,k,w0,w,rfl,rfl,hl,qU,hw,iU,q⟩ := h
  refine ⟨_,(A6 (Ah (i:=3) Y9.nd rfl (Or.inl rfl) (Al Xu (pv 0) (pv 0))) (A6 (Co PassesOwn.never rfl (D7 (by rfl) T.bJ (A0 (Ba (C5 K) (by rfl) T.bS PySem.boot_len (A0 (pv 0) A7)) A7)) (Ax (i:=4) Y9.nd rfl (Or.inl rfl)) (Ab (Cg (Bc (W9 K) (pv 1) (F0 (F7 K) (pv 3) (Ej (pv 4)) (Ej (Al C7 (pv 4) (Ba (Vc rfl) (by rfl) T.tZ boot_min (A0 (pv 2) (A0 (Ba (C5 K) (by rfl) T.bS PySem.boot_len (A0 (pv 0) A7)) A7)))))) rfl) (Ab (Ak Fo)) As))) (Ab (Ak Fo)))),?_⟩
  have hjn:=Ez js
  refine ⟨_,rfl,_,rfl,l,l,_,_,rfl,rfl,hl,hl,Nat.le_of_lt (Bp (by omega)),fun P hP=>?_⟩
  rw [R7]
  have s1:Aa H (upd H P (.lst (B6 (js ++ js)))):=Aa.upd hP
  have e1:(upd H P (.lst (B6 (js ++ js)))) P = some (.lst (B6 (js ++ js))):=A5
  generalize upd H P (.lst (B6 (js ++ js))) = H1 at s1 e1 ⊢
  refine ⟨_,rfl,l,_,rfl,.inl (B9.of (s1 _ _ hl)),_,rfl,by omega,by omega,?_⟩
  refine Ey (n:=((B6 js).length:Int).toNat) (fun i σ H'=>∃ (v4:Option V),σ = [some (.ref l),some (.int k),some (.int w),some (.ref P),v4] /\ Aa H1 H') ⟨none,rfl,Aa.refl _⟩ ?_ ?_
  ·rintro i σ H' hi ⟨v4,rfl,s'⟩
   have fH:i < js.length:=by omega
   refine ⟨_,rfl,_,rfl,_,rfl,_,rfl,_,rfl,_,rfl,_,rfl,l,_,rfl,.inl (B9.of (s' _ _ (s1 _ _ hl))),_,_,rfl,_,_,rfl,rfl,_,rfl,P,_,rfl,B9.of (s' _ _ e1),fun U hU=>?_⟩
   have UQ:(if ((B6 js).length:Int) < w then ((B6 js).length:Int) else w) = ((min w.toNat js.length:Nat):Int):=by
    rw [hjn]
    split <;> omega
   have UR:Iv (B6 (js ++ js)) (some (0 + (i:Int))) (some (0 + (i:Int) + (if ((B6 js).length:Int) < w then ((B6 js).length:Int) else w))) = B6 (((js ++ js).drop i).take (min w.toNat js.length)):=by
    rw [UQ,show (0:Int) + (i:Int) = ((i:Nat):Int) by omega,show ((i:Nat):Int) + ((min w.toNat js.length:Nat):Int) = ((i + min w.toNat js.length:Nat):Int) by omega,Wx (by rw [Ez,List.length_append]; omega),Nat.add_sub_cancel_left]
    unfold B6
    rw [<- List.map_drop,<- List.map_take]
   rw [UR]
   refine ⟨U,_,rfl,.inl (B9.of A5),rfl,W5 _,_,rfl,?_⟩
   rw [Xi,decide_eq_true (iU i fH)]
   exact Dk rfl ⟨_,rfl,s'.trans (Aa.upd hU)⟩
  rintro σ H' ⟨v4,rfl,s'⟩
  exact q _ (s1.trans s')
def Ym (K:PySem.W.Frag):Sp:=fun vs H Q _=>qx fun (a D l r:Addr) (ws:List Int) (cm:Option Int) (ps:List ((List Int × Int) × V)) (lead row:List Nat)=>K7 (vs = [.ref a,.ref D,.ref l,.ref r]) (B8 H a ws cm) (ws.length <= 8) (H D = some (.dT ps)) (H l = some (.lst (B6 lead))) (H r = some (.lst (B6 row))) (Z7 ws cm ps lead row) (Za ws cm ps) ((lead ++ row).length <= 3000) (∀ H',Aa H H' -> Q (.bl true) H')
theorem kr {fd oY:FuncData} (T:Txt K mg ad aA aH aB aI aD aE aF aJ aK aM aG aC) (F:Fb K "_law_goes_round" "_law_goes_round" Wh ad.gK fd) (oZ:Ai P w K mg base (Bi P w) 1 ad.dG oY ["hall","standing","who"] (Tf K)) (pA:Ay K oY ["hall","standing","who"] []):Ai P w K mg base (Bi P w) 2 ad.gK fd ["hall","calls","lead","row"] (Ym K):=by
 refine F.okN Rg (fun vs H Q E h=>?_) (fun aV A outer s H vs Q E hr h=>?_)
 ·rcases h with ⟨a,D,l,r,ws,cm,ps,lead,row,rfl,ha,h8,hD,hl,rZ,uI,fI,hlen,q⟩ <;> rfl
 ·obtain ⟨a,D,l,r,ws,cm,ps,lead,row,rfl,ha,h8,hD,hl,rZ,uI,fI,hlen,q⟩ := h
  refine ⟨_,(A6 (Ah (i:=4) Rg.nd rfl (Or.inl rfl) (Cw A7)) (A6 (Ah (i:=5) Rg.nd rfl (Or.inl rfl) (Bt (A0 (Bg (Be K) (pv 0) A8 (fun _ _=>rfl)) (A0 A8 A7)))) (A6 (Co PassesOwn.never rfl (Dm (w':=Px K _) (Dn (Al Xu (pv 2) (pv 3)))) (Ax (i:=6) Rg.nd rfl (Or.inl rfl)) (A6 (Cg (PW.pt (G0 (Bc (gu K hr) (pv 5) (pv 4) rfl) (G0 (J2 (J1 (Ep hr) (pv 5) (pv 1)) rfl) (Li (Bc Xw (Ei (Ep hr) (pv 1) (pv 5) (fun _ _=>rfl)) (pv 6) (Bh _)))))) (Ab (Ak Fo)) As) (A6 (Ce (Dx (u':=Ts K _ _ _ _) (Eh PySem.F.plainAttrs_list PySem.F.slot_list_append PySem.F.type_list_append D0 (pv 4) (A0 (pv 5) A7)))) (Ab (Ah (i:=5) Rg.nd rfl (Or.inl rfl) (Af oZ (hr.mono (by decide)) rfl T.EX T.k_x17 pA .nil B0 (A0 (pv 0) (A0 (pv 5) (A0 (pv 6) A7))))))))) (Ab (Ak (aq (Db (gv hr) (pv 3) (Cw A7) (Bh _)) (Lb (Db (Sk hr) (pv 5) (Bg (Be K) (pv 4) (Ba (C5 K) (by rfl) T.bS PySem.boot_len (A0 (pv 2) A7)) (fun _ _=>rfl)) (Bh _))))))))),?_⟩
  obtain ⟨wt,bU,bZ⟩ := id ha
  obtain ⟨sQ,uJ,US⟩ := id uI
  have happ:(lead ++ row).length = lead.length + row.length:=List.length_append
  have hj1:=Ez lead
  have MB:=Ez row
  refine ⟨Bf,fun S hS0=>?_⟩
  have s1:Aa H (upd H S (.lst [])):=Aa.upd hS0
  have e1:(upd H S (.lst [])) S = some (.lst []):=A5
  generalize upd H S (.lst []) = H1 at s1 e1 ⊢
  refine ⟨_,rfl,a,_,_,_,rfl,rfl,.inr (Cj.of (s1 _ _ bU)),rfl,Bf,fun b0 tO=>?_⟩
  have s2:Aa H1 (upd H1 b0 (.tup [.ref wt,.int 0])):=Aa.upd tO
  have e2:(upd H1 b0 (.tup [.ref wt,.int 0])) b0 = some (.tup [.ref wt,.int 0]):=A5
  generalize upd H1 b0 (.tup [.ref wt,.int 0]) = H2 at s2 e2 ⊢
  have FP:=s1.trans s2
  refine ⟨_,rfl,_,rfl,l,r,_,_,rfl,rfl,FP _ _ hl,FP _ _ rZ,Nat.le_of_lt (Bp (by omega)),fun CL CV=>?_⟩
  rw [R7]
  have s3:Aa H2 (upd H2 CL (.lst (B6 (lead ++ row)))):=Aa.upd CV
  have e3:(upd H2 CL (.lst (B6 (lead ++ row)))) CL = some (.lst (B6 (lead ++ row))):=A5
  generalize upd H2 CL (.lst (B6 (lead ++ row))) = H3 at s3 e3 ⊢
  have hSC:S ≠ CL:=Ae (s2 _ _ e1) CV
  have MO:=FP.trans s3
  refine ⟨CL,rfl,.inl ⟨⟨_,B9.of e3⟩,?_⟩⟩
  refine D3 (K:=K) (a:=CL) (xs:=B6 (lead ++ row)) (fun i σ H'=>Ma fun (b:Addr) (es:List V) (v6:Option V)=>Py (σ = [some (.ref a),some (.ref D),some (.ref l),some (.ref r),some (.ref S),some (.ref b),v6]) (Aa H H') (H' CL = some (.lst (B6 (lead ++ row)))) (H' S = some (.lst es)) (An (Fr H') ((List.range i).map fun t=>Cm ws cm ((lead ++ row).take t)) es) (E9 H' b (Cm ws cm ((lead ++ row).take i)))) ⟨b0,[],none,rfl,MO,e3,s3 _ _ (s2 _ _ e1),An.nil,⟨wt,s3 _ _ e2,MO _ _ bZ⟩⟩ (by rintro i σ H' _ ⟨_,_,_,_,_,e,_⟩; exact B9.of e) ?_ ?_
  ·rintro i y σ H' hy ⟨b,es,v6,rfl,s',UT,w8,jC,hb⟩
   unfold B6 at hy
   rw [List.getElem?_map] at hy
   obtain ⟨jj,hx,rfl⟩ := Option.map_eq_some_iff.mp hy
   have hi:=(List.getElem?_eq_some_iff.mp hx).1
   have hv:=sQ.wg i jj hx
   obtain ⟨FL,hbd,j2,ej,hjw,hz,hs⟩ := fI.2 _ _ hv
   have FK:j2 = jj:=by
    injection ej with z
    omega
   rw [FK] at hjw hz hs
   have NF:=jC.1
   rw [List.length_map,List.length_range] at NF
   have dg:D2 H' D (.ref b) (some (.int (jj:Int))):=by
    rw [<- hv]
    exact D2.t (s' _ _ hD) hb
   have UU:((((List.range i).map fun t=>Cm ws cm ((lead ++ row).take t)).map dS).any fun e=>PyData.eqv e (dS (Cm ws cm ((lead ++ row).take i)))) = false:=by
    rw [List.any_eq_false]
    intro d hd
    obtain ⟨k,hk,rfl⟩ := List.mem_map.mp hd
    obtain ⟨t,ht,rfl⟩ := List.mem_map.mp hk
    rw [S8,decide_eq_false (sQ.CN t i (List.mem_range.mp ht) hi)]
    exact Bool.false_ne_true
   refine ⟨_,rfl,_,rfl,S,es,dS (Cm ws cm ((lead ++ row).take i)),_,rfl,B9.of w8,Y6 hb,Y8 (fun k v h=>Yt h) jC,(by rw [Qd]; decide),_,rfl,false,fun _ Q1 z1=>⟨_,rfl,_,rfl,D,_,rfl,D2.t (s' _ _ hD) hb,_,rfl,false,fun _ Q2 z2=>⟨_,rfl,_,rfl,D,_,rfl,dg,_,rfl,rfl,_,rfl,by simpa using z2⟩,?_⟩,Dk ?_ ?_⟩
   ·rw [hv]
    exact z1
   ·rw [if_neg (by decide),UU]
    rfl
   refine ⟨_,rfl,.inl ⟨rfl,_,B9.of w8⟩,_,rfl,S,_,_,rfl,rfl,w8,Bp (by omega),?_⟩
   have t4:Ar H' (upd H' S (.lst (es ++ [.ref b]))):=Ar.lst w8
   have e4:(upd H' S (.lst (es ++ [.ref b]))) S = some (.lst (es ++ [.ref b])):=A5
   have c4:(upd H' S (.lst (es ++ [.ref b]))) CL = some (.lst (B6 (lead ++ row))):=(Ac hSC.symm).trans UT
   have s4:Aa H (upd H' S (.lst (es ++ [.ref b]))):=s'.new hS0
   generalize upd H' S (.lst (es ++ [.ref b])) = H4 at t4 e4 c4 s4 ⊢
   have hb4:E9 H4 b (Cm ws cm ((lead ++ row).take i)):=hb.up t4
   refine ⟨_,rfl,_,rfl,_,rfl,a,b,ws,(Cm ws cm ((lead ++ row).take i)).1,cm,(Cm ws cm ((lead ++ row).take i)).2,_,jj,rfl,rfl,ha.same s4,hb4,hjw,FL,h8,hz,fun p H5 s5 hp=>?_⟩
   have est:Cm ws cm ((lead ++ row).take (i + 1)) = (Bb ws (Cm ws cm ((lead ++ row).take i)).1 jj false,0):=by
    rw [Ij hx,G9]
    refine Prod.ext rfl ?_
    show max ((Cm ws cm ((lead ++ row).take i)).2 - 1) 0 = 0
    rw [Yr]
    decide
   refine ⟨p,es ++ [.ref b],_,rfl,s4.trans s5,s5 _ _ c4,s5 _ _ e4,?_,?_⟩
   ·rw [List.range_succ,List.map_append]
    obtain ⟨bu,UW,UX⟩ := id hb4
    exact (jC.imp fun _ _ y=>Fr.up (t4.trans (Ar.of s5)) y).append (An.one ⟨b,bu,rfl,s5 _ _ UW,s5 _ _ UX⟩)
   ·rw [est]
    exact hp
  rintro σ H4 ⟨b,es,v6,rfl,s4,hCL4,PK,jC,hb⟩
  rw [Ez] at jC hb
  rw [List.take_length] at hb
  have NF:=jC.1
  rw [List.length_map,List.length_range] at NF
  refine ⟨_,rfl,Bf,fun e0 OW=>?_⟩
  have s5:Aa H4 (upd H4 e0 (.lst [])):=Aa.upd OW
  have e5:(upd H4 e0 (.lst [])) e0 = some (.lst []):=A5
  generalize upd H4 e0 (.lst []) = H5 at s5 e5 ⊢
  have hr5:H5 r = some (.lst ((row.map fun (j:Nat)=>(j:Int)).map V.int)):=by
   rw [<- Gi]
   exact s5 _ _ (s4 _ _ rZ)
  have UY:=jC.imp fun _ _ y=>Fr.up (Ar.of s5) y
  have hb5:E9 H5 b (Cm ws cm (lead ++ row)):=hb.up (Ar.of s5)
  obtain ⟨u,hu⟩ : ∃ u,es[lead.length]? = some u:=⟨es[lead.length]'(by omega),List.getElem?_eq_getElem _⟩
  have dQ:=UY.2 lead.length (Cm ws cm lead) u (by rw [List.getElem?_map,List.getElem?_range (by omega)]; show some (Cm ws cm ((lead ++ row).take lead.length)) = _; rw [List.take_left' rfl]) hu
  have jD:Q8 es ((B6 lead).length:Nat) = some u:=by
   rw [hj1]
   exact Oj hu
  refine ⟨_,_,Ux hr5,Ux (ws:=[]) e5,(by rw [Kl]; decide),_,(fun d H'=>d = true /\ H' = H5),rfl,(fun z=>?_),(fun _=>⟨_,rfl,_,rfl,_,rfl,l,_,rfl,.inl (B9.of (s5 _ _ (s4 _ _ hl))),S,_,_,_,rfl,rfl,.inl (B9.of (s5 _ _ PK)),jD,dS (Cm ws cm (lead ++ row)),dS (Cm ws cm lead),Y6 hb5,Yt dQ,(by rw [Qd]; decide),_,rfl,?_,rfl⟩),?_⟩
  ·rw [if_pos rfl,S7] at z
   have fA:row.map (fun (j:Nat)=>(j:Int)) ≠ []:=fun y=>by
    have:=congrArg List.length y
    rw [List.length_map] at this
    simp at this
    rw [this] at uJ
    simp at uJ
   rw [decide_eq_false fA] at z
   cases z
  ·rw [if_neg (by decide),S8,decide_eq_true US]
  rintro d6 H6 ⟨rfl,rfl⟩
  exact q _ (s4.trans s5)
def Pj (K:PySem.W.Frag):Sp:=fun vs H Q _=>U4 fun (a:Addr) (ns:List Int)=>Hl (vs = [.ref a]) (B9 K H a (ns.map V.int)) (ns.length <= 63) ((∀ z ∈ ns,intBits z <= 2 ^ 20)) (∀ H',Q (.bl true) H')
theorem fm {fd pB fT fV pC pD uK uL pE uM cN pF:FuncData} (T:Txt K mg ad aA aH aB aI aD aE aF aJ aK aM aG aC) (F:Fb K "law" "law" Ih ad.eT fd) (pG:Ai P w K mg base (Bi P w) 2 ad.dB pB ["script"] (Tl K)) (pH:Ay K pB ["script"] []) (gY:Ai P w K mg base (Bi P w) 8 ad.cI fT ["hall"] (Pl K aA)) (gZ:Ay K fT ["hall"] []) (eY:Ai P w K mg base (Bi P w) 9 ad.cJ fV ["hall"] (Pk K aA)) (eZ:Ay K fV ["hall"] []) (pI:Ai P w K mg base (Bi P w) 10 ad.dD pC ["hall"] (Tc K)) (pJ:Ay K pC ["hall"] []) (pK:Ai P w K mg base (Bi P w) 2 ad.dC pD ["script"] (Tm K)) (pL:Ay K pD ["script"] []) (xc:Ai P w K mg base (Bi P w) 2 ad.gK uK ["hall","calls","lead","row"] (Ym K)) (xf:Ay K uK ["hall","calls","lead","row"] []) (xg:Ai P w K mg base (Bi P w) 2 ad.gI uL ["script"] (Yo K)) (xh:Ay K uL ["script"] []) (kZ:Ai P w K mg base (Bi P w) 1 ad.dH pE ["some","many"] (Td K)) (lA:Ay K pE ["some","many"] []) (xi:Ai P w K mg base (Bi P w) 1 ad.gJ uM ["row","who","wait"] (Yj K)) (xj:Ay K uM ["row","who","wait"] []) (bE:Ai P w K mg base (Bi P w) 1 ad.bX cN ["script","k"] (Lu K)) (bG:Ay K cN ["script","k"] []) (pM:Ai P w K mg base (Bi P w) 1 ad.dE pF ["cell"] (Tn K)) (pN:Ay K pF ["cell"] []):Ai P w K mg base (Bi P w) 11 ad.eT fd ["script"] (Pj K):=by
 refine F.okN Es (fun vs H Q E h=>?_) (fun aV A outer s H vs Q E hr h=>?_)
 ·rcases h with ⟨a,ns,rfl,hS,hlen,iM,q⟩ <;> rfl
 ·obtain ⟨a,ns,rfl,hS,hlen,iM,q⟩ := h
  refine ⟨_,(A6 (Cg (Bc Gz (Al Br (Al Cr (Af bE (hr.mono (by decide)) rfl T.cL T.k_x11 bG .nil B0 (A0 (pv 0) (A0 A8 A7))) A8) A8) A8 (Bh _)) (Ab (Ak (Af pI (hr.mono (by decide)) rfl T.EV T.k_x12 pJ .nil B0 (A0 (Af xg (hr.mono (by decide)) rfl T.QA T.k_x7 xh .nil B0 (A0 (pv 0) A7)) A7)))) As) (A6 (Cg (Bc Gz (Al Br (Al Cr (Af bE (hr.mono (by decide)) rfl T.cL T.k_x11 bG .nil B0 (A0 (pv 0) (A0 A8 A7))) A8) A8) A8 (Bh _)) (Ab (Ak (Db (Sk hr) (Af eY (hr.mono (by decide)) rfl T.kU T.k_x10 eZ .nil B0 (A0 (Af pM (hr.mono (by decide)) rfl T.EW T.k_x27 pN .nil B0 (A0 (Af bE (hr.mono (by decide)) rfl T.cL T.k_x11 bG .nil B0 (A0 (pv 0) (A0 A8 A7))) A7)) A7)) (Bt (A0 (Cw A7) (A0 (Cw (A0 A8 A7)) A7))) (Bh _)))) As) (A6 (Ah (i:=1) Es.nd rfl (Or.inl rfl) (Db Gz (Al Br (Al Cr (Af bE (hr.mono (by decide)) rfl T.cL T.k_x11 bG .nil B0 (A0 (pv 0) (A0 A8 A7))) A8) A8) A8 (Bh _))) (A6 (Ah (i:=2) Es.nd rfl (Or.inl rfl) (Af pG (hr.mono (by decide)) rfl T.ET T.k_x25 pH .nil B0 (A0 (pv 0) A7))) (A6 (E6 (D4 (pv 1)) (Ab (Ah (i:=2) Es.nd rfl (Or.inl rfl) (Af pK (hr.mono (by decide)) rfl T.EU T.k_x26 pL .nil B0 (A0 (pv 0) A7)))) As) (A6 (Ah (i:=3) Es.nd rfl (Or.inl rfl) (Af gY (hr.mono (by decide)) rfl T.tV T.k_x16 gZ .nil B0 (A0 (pv 2) A7))) (A6 (Ah (i:=4) Es.nd rfl (Or.inl rfl) (Af eY (hr.mono (by decide)) rfl T.kU T.k_x10 eZ .nil B0 (A0 (pv 2) A7))) (A6 (Cg (Bc L8 (pv 3) Cy (Bh _)) (Ab (Ak (Db L8 (pv 4) Cy (Bh _)))) As) (A6 (Cg (PW.pt (G0 (Dr (D4 (Ba (Gd K) (by rfl) T.aX boot_isinstance (A0 (pv 4) (A0 (R8 (by rfl) T.bI boot_tuple) A7))))) (Li (Bc Xw (Ba (C5 K) (by rfl) T.bS PySem.boot_len (A0 (pv 4) A7)) A8 (Bh _))))) (Ab (Ak Fo)) As) (A6 (Ah (i:=5) Es.nd rfl (Or.inl rfl) (Ba (C5 K) (by rfl) T.bS PySem.boot_len (A0 (Bg (Be K) (pv 2) A8 (fun _ _=>rfl)) A7))) (A6 (Cg (PW.pt (G0 (Dr (D4 (Af kZ (hr.mono (by decide)) rfl T.tX T.k_x13 lA .nil B0 (A0 (Bg (Be K) (pv 4) A8 (fun _ _=>rfl)) (A0 (pv 5) A7))))) (Li (Dr (D4 (Af kZ (hr.mono (by decide)) rfl T.tX T.k_x13 lA .nil B0 (A0 (Bg (Be K) (pv 4) A8 (fun _ _=>rfl)) (A0 (pv 5) A7)))))))) (Ab (Ak Fo)) As) (A6 (Ah (i:=6) Es.nd rfl (Or.inl rfl) (Cc Hr (by rfl) T.jZ boot_list (A0 (Bg (Be K) (pv 4) A8 (fun _ _=>rfl)) A7))) (A6 (Ah (i:=7) Es.nd rfl (Or.inl rfl) (Cc Hr (by rfl) T.jZ boot_list (A0 (Bg (Be K) (pv 4) A8 (fun _ _=>rfl)) A7))) (A6 (Cg (Dr (D4 (Af xc (hr.mono (by decide)) rfl T.QC T.k_x4 xf .nil B0 (A0 (pv 2) (A0 (Cc (Kf K (kc hr) rfl) (by rfl) T.nG boot_dict (A0 (pv 3) A7)) (A0 (pv 6) (A0 (pv 7) A7))))))) (Ab (Ak Fo)) As) (A6 (Co PassesOwn.never rfl (D7 (by rfl) T.bJ (A0 (pv 5) A7)) (Ax (i:=8) Es.nd rfl (Or.inl rfl)) (Ab (Cg (Dr (D4 (Af xi (hr.mono (by decide)) rfl T.QB T.k_x1 xj .nil B0 (A0 (pv 7) (A0 (pv 8) (A0 (Bg (Be K) (Bg (Be K) (pv 2) A8 (fun _ _=>rfl)) (pv 8) (fun _ _=>rfl)) A7)))))) (Ab (Ak Fo)) As))) (A6 (Ce (Dx (u':=Ts K _ _ _ _) (Eh PySem.F.plainAttrs_list PySem.F.slot_list_append PySem.F.type_list_append D0 (Bg (Be K) (pv 4) A8 (fun _ _=>rfl)) (A0 A8 A7)))) (A6 (Ce (Dx (u':=iw K _ _ _) (So PySem.F.plainAttrs_list PySem.F.slot_list_clear PySem.F.type_list_clear Xr (Bg (Be K) (pv 4) A8 (fun _ _=>rfl))))) (Ab (Ak (Y3 (pv 1) (Y3 (Db Xw (Al Br (Al Cr (Af bE (hr.mono (by decide)) rfl T.cL T.k_x11 bG .nil B0 (A0 (pv 0) (A0 A8 A7))) A8) A8) A8 (Bh _)) (Lb (Db (Sk hr) (Af eY (hr.mono (by decide)) rfl T.kU T.k_x10 eZ .nil B0 (A0 (pv 2) A7)) (Bt (A0 (pv 6) (A0 (pv 7) A7))) (Bh _)))))))))))))))))))))))),?_⟩
  refine ⟨_,rfl,a,ns,_,rfl,hS,by decide,_,_,rfl,rfl,⟨by decide,by decide⟩,_,_,rfl,rfl,(by first | (show (0:Int) < _; decide) | simp),rfl,_,rfl,?_⟩
  refine Gv (fun _=>?_) (fun _=>?_)
  ·refine ⟨_,rfl,a,ns,rfl,hS,hlen,iM,fun h ws cm H1 s1 ha hb fL eJ hp=>?_⟩
   exact ⟨h,ws,cm,rfl,ha,hb,fL,eJ,hp,fun H2 s2=>q H2⟩
  refine ⟨_,rfl,a,ns,_,rfl,hS,by decide,_,_,rfl,rfl,⟨by decide,by decide⟩,_,_,rfl,rfl,(by first | (show (0:Int) < _; decide) | simp),rfl,_,rfl,?_⟩
  refine Gv (fun _=>?_) (fun _=>?_)
  ·refine ⟨_,rfl,a,ns,_,rfl,hS,by decide,_,rfl,fun p w cm H1 s1 ha aP hw2 mC=>?_⟩
   refine .inl ⟨p,[w],cm,rfl,ha,aP,(fun tv H2 s2 hr hv=>by rw [Vz hw2 mC hr] at hv; cases hv),fun p3 l r lead row ps tv H2 s2 hl hr lr ep el er nN hv hk uI hle UZ=>?_⟩
   obtain ⟨rfl,rfl⟩ := uI.uniq (Sh hk)
   refine ⟨Bf,fun E1 UE=>?_⟩
   have s3:Aa H2 (upd H2 E1 (.lst [])):=Aa.upd UE
   have e3:(upd H2 E1 (.lst [])) E1 = some (.lst []):=A5
   generalize upd H2 E1 (.lst []) = H3 at s3 e3 ⊢
   refine ⟨Bf,fun E2 hE2=>?_⟩
   have s4:Aa H3 (upd H3 E2 (.lst [.int 0])):=Aa.upd hE2
   have e4:(upd H3 E2 (.lst [.int 0])) E2 = some (.lst [.int 0]):=A5
   generalize upd H3 E2 (.lst [.int 0]) = H4 at s4 e4 ⊢
   refine ⟨Bf,fun T0 hT0=>?_⟩
   have s5:Aa H4 (upd H4 T0 (.tup [.ref E1,.ref E2])):=Aa.upd hT0
   have e5:(upd H4 T0 (.tup [.ref E1,.ref E2])) T0 = some (.tup [.ref E1,.ref E2]):=A5
   generalize upd H4 T0 (.tup [.ref E1,.ref E2]) = H5 at s5 e5 ⊢
   have GS:=(s3.trans s4).trans s5
   refine ⟨_,_,Pd (GS _ _ ep) (GS _ _ el) (GS _ _ er),Pd (lead:=[]) (row:=[0]) e5 (s5 _ _ (s4 _ _ e3)) (s5 _ _ e4),N0 _ _,?_⟩
   rw [if_neg (by decide),Uh]
   exact q _
  refine ⟨_,rfl,a,ns,_,rfl,hS,by decide,_,_,rfl,rfl,⟨by decide,by decide⟩,_,_,rfl,rfl,(by first | (show (0:Int) < _; decide) | simp),rfl,?_⟩
  dsimp only
  generalize decide (V.int (Ck ns 0 / 8 % 64) = V.int 7) = fr
  refine ⟨_,rfl,a,ns,rfl,hS,hlen,iM,fun EC ws0 cm0 H1 s1 MC VA=>?_⟩
  refine ⟨_,rfl,_,rfl,(fun σ' H'=>Ma fun (hp:Addr) (ws:List Int) (cm:Option Int)=>Jm (σ' = [some (.ref a),some (.bl fr),some (.ref hp),none,none,none,none,none,none]) (Aa H H') (B8 H' hp ws cm) (Du ws cm)),fun _=>?_,fun _=>⟨EC,ws0,cm0,rfl,s1,MC,VA⟩,?_⟩
  ·refine ⟨_,rfl,a,ns,rfl,s1.seq hS,fun hp ws cm H2 s2 ha aP=>?_⟩
   exact ⟨hp,ws,cm,rfl,s1.trans s2,ha,aP⟩
  rintro σ H2 ⟨hp,ws,cm,rfl,s2,ha,aP⟩
  have h8:=aP.2.2.2.1
  have dM:∀ x ∈ ws,1 <= x:=fun x hx=>(aP.1 x hx).1
  refine ⟨_,rfl,.inl ⟨hp,ws,cm,rfl,ha,aP,(fun tv H3 s3 hr tT hv=>?_),fun p us ps tv H3 s3 hpn ep hr tT hv hk hall=>?_⟩⟩
  ·refine ⟨_,rfl,.inl ⟨hp,ws,cm,rfl,ha.same s3,aP,(fun VB H4 s4 CW HC=>?_),fun p3 l r lead row lV VB H4 s4 FN HD lr sR el er CW HC _ _ _ _=>(Tx hr CW hv HC).elim⟩⟩
   exact ⟨_,rfl,rfl,_,rfl,N8 rfl ⟨_,rfl,rfl,q _⟩⟩
  refine ⟨_,rfl,.inl ⟨hp,ws,cm,rfl,ha.same s3,aP,(fun VB H4 s4 CW HC=>(Tx CW hr HC hv).elim),fun p3 l r lead row lV VB H4 s4 FN HD lr sR el er CW HC UK uI hle UZ=>?_⟩⟩
  have eps:lV = ps:=Jn.uniq CW hr UK hk
  subst eps
  have fI:=Na hk
  refine ⟨_,rfl,rfl,_,rfl,Dk rfl ?_⟩
  refine ⟨_,rfl,_,"tuple","tuple",true,rfl,.tup sR,Kt,_,rfl,false,fun _ Q1 z1=>⟨_,rfl,p3,_,rfl,.inr (Cj.of sR),rfl,_,rfl,z1⟩,Dk rfl ?_⟩
  have s24:=s3.trans s4
  have VC:=ha.same s24
  obtain ⟨wt,bU,bZ⟩ := id VC
  refine ⟨_,rfl,hp,_,_,_,rfl,rfl,.inr (Cj.of bU),rfl,wt,_,rfl,.inr (Cj.of bZ),?_⟩
  have hml:((ws.map V.int).length:Int) = (ws.length:Int):=by rw [List.length_map]
  refine ⟨_,rfl,p3,_,_,_,rfl,rfl,.inr (Cj.of sR),rfl,_,rfl,l,lead,_,rfl,el,(fun j hj=>by have:=UZ j (List.mem_append_left _ hj); omega),_,rfl,false,fun _ Q1 z1=>⟨_,rfl,p3,_,_,_,rfl,rfl,.inr (Cj.of sR),rfl,_,rfl,r,row,_,rfl,er,(fun j hj=>by have:=UZ j (List.mem_append_right _ hj); omega),_,rfl,z1⟩,Dk rfl ?_⟩
  refine ⟨_,rfl,p3,_,_,_,rfl,rfl,.inr (Cj.of sR),rfl,l,_,rfl,.inl (B9.of el),fun L1 VD=>?_⟩
  have s5:Aa H4 (upd H4 L1 (.lst (B6 lead))):=Aa.upd VD
  have e5:(upd H4 L1 (.lst (B6 lead))) L1 = some (.lst (B6 lead)):=A5
  generalize upd H4 L1 (.lst (B6 lead)) = H5 at s5 e5 ⊢
  refine ⟨_,rfl,p3,_,_,_,rfl,rfl,.inr (Cj.of (s5 _ _ sR)),rfl,r,_,rfl,.inl (B9.of (s5 _ _ er)),fun R1 VE=>?_⟩
  have s6:Aa H5 (upd H5 R1 (.lst (B6 row))):=Aa.upd VE
  have e6:(upd H5 R1 (.lst (B6 row))) R1 = some (.lst (B6 row)):=A5
  generalize upd H5 R1 (.lst (B6 row)) = H6 at s6 e6 ⊢
  have VF:=s5.trans s6
  have TM:=hall.1
  have UG:Df [] lV = lV:=J5 lV [] hk.1.nd
  have HE:An (Z5 H6) lV us:=hall.imp fun _ _ y=>Z5.up (Ar.of (s4.trans VF)) y
  refine ⟨_,rfl,_,rfl,p,us,lV,rfl,B9.of ((s4.trans VF) _ _ ep),TM,(fun j u p e1 e2=>HE.2 j p u e2 e1),fun d hd=>?_⟩
  rw [UG]
  have s7:Aa H6 (upd H6 d (.dT lV)):=Aa.upd hd
  have e7:(upd H6 d (.dT lV)) d = some (.dT lV):=A5
  generalize upd H6 d (.dT lV) = H7 at s7 e7 ⊢
  have s47:=VF.trans s7
  refine ⟨_,rfl,_,rfl,hp,d,L1,R1,ws,cm,lV,lead,row,rfl,VC.same s47,h8,e7,(s6.trans s7) _ _ e5,s7 _ _ e6,uI,fI,hle,fun H8 s8=>⟨_,rfl,Dk rfl ?_⟩⟩
  have s48:=s47.trans s8
  have MN:row.length <= 3000:=by
   rw [List.length_append] at hle
   omega
  refine ⟨_,rfl,_,rfl,by omega,by omega,?_⟩
  refine Ey (n:=((ws.map V.int).length:Int).toNat) (fun i σ H'=>∃ (v8:Option V),σ = [some (.ref a),some (.bl fr),some (.ref hp),some (.ref p),some (.ref p3),some (.int ((ws.map V.int).length:Nat)),some (.ref L1),some (.ref R1),v8] /\ Aa H8 H') ⟨none,rfl,Aa.refl _⟩ ?_ ?_
  ·rintro i σ H' hi ⟨v8,rfl,s'⟩
   have fH:i < ws.length:=by omega
   have uG:=s48.trans s'
   have UP:Q8 (ws.map V.int) (0 + (i:Int)) = some (.int (ws.getD i 0)):=Ke fH (by omega)
   have QK:=dM _ (List.mem_of_getElem? (i:=i) (a:=ws.getD i 0) (by rw [List.getD_eq_getElem?_getD,List.getElem?_eq_getElem fH]; rfl))
   refine ⟨_,rfl,_,rfl,_,rfl,hp,_,_,_,rfl,rfl,.inr (Cj.of (uG _ _ bU)),rfl,_,rfl,wt,_,_,_,rfl,rfl,.inr (Cj.of (uG _ _ bZ)),UP,R1,row,i,_,_,rfl,by omega,s' _ _ (s8 _ _ (s7 _ _ e6)),MN,QK,(fun t ht=>Zz uI fI fH QK ht),fun H9 s9=>⟨_,rfl,Dk rfl ⟨_,rfl,s'.trans s9⟩⟩⟩
  rintro σ H9 ⟨v8,rfl,s9⟩
  have CY:=s48.trans s9
  have GY:=CY _ _ el
  have er9:=CY _ _ er
  have nL1:l ≠ L1:=Ae el VD
  have nR1:l ≠ R1:=Ae (s5 _ _ el) VE
  have nL2:r ≠ L1:=Ae er VD
  have nR2:r ≠ R1:=Ae (s5 _ _ er) VE
  refine ⟨_,rfl,p3,_,_,_,rfl,rfl,.inr (Cj.of (CY _ _ sR)),rfl,.inl ⟨rfl,_,B9.of GY⟩,l,_,_,rfl,rfl,GY,Bp (by rw [Ez]; rw [List.length_append] at hle; omega),?_⟩
  have mE:Ar H9 (upd H9 l (.lst (B6 lead ++ [.int 0]))):=Ar.lst GY
  have sI:∀ c o,c ≠ l -> H9 c = some o -> (upd H9 l (.lst (B6 lead ++ [.int 0]))) c = some o:=fun c o n e=>(Ac n).trans e
  have HH:Aa H3 (upd H9 l (.lst (B6 lead ++ [.int 0]))):=(s4.trans CY).new FN
  generalize upd H9 l (.lst (B6 lead ++ [.int 0])) = rL at mE sI HH ⊢
  have xk:=sI _ _ lr.symm er9
  refine ⟨_,rfl,p3,_,_,_,rfl,rfl,.inr (Cj.of (mE _ _ (CY _ _ sR))),rfl,.inl ⟨rfl,_,B9.of xk⟩,r,_,rfl,rfl,xk,?_⟩
  have t11:Ar rL (upd rL r (.lst [])):=Ar.lst xk
  have VG:∀ c o,c ≠ r -> rL c = some o -> (upd rL r (.lst [])) c = some o:=fun c o n e=>(Ac n).trans e
  have kS:B9 K (upd rL r (.lst [])) a (ns.map V.int):=((s2.trans s3).trans (HH.new HD)).seq hS
  generalize upd rL r (.lst []) = LW at t11 VG kS ⊢
  have VH:B8 LW hp ws cm:=(VC.same CY).up (mE.trans t11)
  have VI:=VG _ _ nL2.symm (sI _ _ nL1.symm ((s6.trans (s7.trans (s8.trans s9))) _ _ e5))
  have VJ:=VG _ _ nR2.symm (sI _ _ nR1.symm ((s7.trans (s8.trans s9)) _ _ e6))
  refine ⟨_,rfl,fr,(fun d _=>d = true),rfl,(fun z=>rfl),(fun z=>⟨_,rfl,a,ns,_,rfl,kS,by decide,_,_,rfl,rfl,⟨by decide,by decide⟩,_,_,rfl,rfl,(by first | (show (0:Int) < _; decide) | simp),rfl,_,(fun d _=>d = true),rfl,(fun z=>rfl),(fun z=>⟨_,rfl,.inl ⟨hp,ws,cm,rfl,VH,aP,(fun tv4 HI gM VL hv4=>(Tx VL hr hv4 hv).elim),fun p4 l4 r4 lead4 row4 ps4 tv4 HI gM _ _ _ ep4 el4 er4 VL hv4 hk4 VM _ _=>?_⟩⟩),fun d H' hd=>⟨_,rfl,hd⟩⟩),fun d H' hd=>?_⟩
  ·have VN:ps4 = lV:=Jn.uniq VL hr hk4 hk
   subst VN
   obtain ⟨rfl,rfl⟩ := VM.uniq uI
   refine ⟨_,rfl,_,rfl,Bf,fun T1 vT=>?_⟩
   have lT:Aa HI (upd HI T1 (.tup [.ref L1,.ref R1])):=Aa.upd vT
   have e13:(upd HI T1 (.tup [.ref L1,.ref R1])) T1 = some (.tup [.ref L1,.ref R1]):=A5
   generalize upd HI T1 (.tup [.ref L1,.ref R1]) = H13 at lT e13 ⊢
   refine ⟨_,_,Pd (lT _ _ ep4) (lT _ _ el4) (lT _ _ er4),Pd e13 (lT _ _ (gM _ _ VI)) (lT _ _ (gM _ _ VJ)),N0 _ _,_,rfl,?_⟩
   rw [if_neg (by decide),Uh]
  ·rw [show d = true from hd]
   exact q _
end
theorem all_mk {l : PySem.W.OpenLaw} {w : World} {K : PySem.W.Frag} {h : Heap} {mg : Str -> Option Value} {fa : Addr} (X : K.In h) (G : h.Ns mainGlobals mg) (hfa : mg "law" = some (.ref fa)) {cF cH gC gD gE gF bV bW fN cS cT cU gG cV gH cW cX cY cZ cI cJ bX cK dA dB dC gI dD dE dG dH gJ gK eT aA aH aB aI aD aE aF aJ aK aM aG aC : Addr} {xl xm xn xo HJ HK HL HM HN HP HQ HR xp kI xq xr HS HU xu xv xw xx xy xA HV HW xB xC HY HZ xD xE xF xG xH xI xJ xK xM xN xO xP xQ xR xS xU xV xW xX xY xZ y0 IA IB y8 y9 ya yb yc yd ye yf IC ID IE IG yg pO : Option Addr} {yh yi IH II IJ IK yj yk IL yl ym yn IM yo IP yp yq yr yt yu yv yw yx yy yz yA IQ yB yC yD yE IT IU yF : Array (Option Value)} {yG yH yI yJ pP yK yL yM yN yO pQ yP IV IW IX IY uN IZ JA JB JC JD uO JE JF JG JH JI uP JJ JK JL JM JN uQ JO yQ kJ kK kL iO kM yR yS yT yU pR yV JP JQ JR JS uR JT yW yX yY yZ pS z6 z7 z8 z9 za pT zb zc zd ze zf pU zg JU JV JW JX uS JY zh zi zj zk pV zl JZ KA KC KD uT KG zm zo zp zq pW zr zt zu zv zw pX zx zy zz zA zB pY zC zD zE zF zG pZ zH zI zJ zK zL qA zM zN zO zP zQ qB zR zS zT zU zV qC zW zX zY zZ AA qD AB AD AE AF AG qE AH AI AJ AK AL qF AM AN AO AQ AR qG AS KH KI KJ KL uU KN AU AV AW AX qH AY AZ BA BB BC qI BD BE BF BG BH qJ BI BJ BK BL BM qK BN KO KP KQ KR uV KS KU KW KY KZ uW LA BO qL qM qN kN qO : Value} {iP : Addr} {BP : Value} {BQ : Option Addr} {BR : Nat} {BS : Array (Option Value)}
  (a_x18:PySem.W.nsIn K mainGlobals "beginning" = some (some (.ref cF))) (l_x18:K.lookup cF = some ⟨yG,xl,.func (PySem.W.fnOf "beginning" "beginning" (Ao Ny) (Aj Ny) (A9 Ny) .none yH yI yJ xm pP yK),yh⟩) (c_x18:PySem.W.codeIn K pP "beginning" = true) (k_x18:PySem.W.keepIn K (.ref cF) = true)
  (a_x21:PySem.W.nsIn K mainGlobals "may_lose" = some (some (.ref cH))) (l_x21:K.lookup cH = some ⟨yL,xn,.func (PySem.W.fnOf "may_lose" "may_lose" (Ao Nz) (Aj Nz) (A9 Nz) .none yM yN yO xo pQ yP),yi⟩) (c_x21:PySem.W.codeIn K pQ "may_lose" = true) (k_x21:PySem.W.keepIn K (.ref cH) = true)
  (a_x8:PySem.W.nsIn K mainGlobals "is_listener" = some (some (.ref gC))) (l_x8:K.lookup gC = some ⟨IV,HJ,.func (PySem.W.fnOf "is_listener" "is_listener" (Ao Wk) (Aj Wk) (A9 Wk) .none IW IX IY HK uN IZ),IH⟩) (c_x8:PySem.W.codeIn K uN "is_listener" = true) (k_x8:PySem.W.keepIn K (.ref gC) = true)
  (a_x2:PySem.W.nsIn K mainGlobals "refuse_wrong_turn" = some (some (.ref gD))) (l_x2:K.lookup gD = some ⟨JA,HL,.func (PySem.W.fnOf "refuse_wrong_turn" "refuse_wrong_turn" (Ao Wf) (Aj Wf) (A9 Wf) .none JB JC JD HM uO JE),II⟩) (c_x2:PySem.W.codeIn K uO "refuse_wrong_turn" = true) (k_x2:PySem.W.keepIn K (.ref gD) = true)
  (a_x9:PySem.W.nsIn K mainGlobals "left_behind" = some (some (.ref gE))) (l_x9:K.lookup gE = some ⟨JF,HN,.func (PySem.W.fnOf "left_behind" "left_behind" (Ao Sx) (Aj Sx) (A9 Sx) .none JG JH JI HP uP JJ),IJ⟩) (c_x9:PySem.W.codeIn K uP "left_behind" = true) (k_x9:PySem.W.keepIn K (.ref gE) = true)
  (a_x5:PySem.W.nsIn K mainGlobals "quiet_behind" = some (some (.ref gF))) (l_x5:K.lookup gF = some ⟨JK,HQ,.func (PySem.W.fnOf "quiet_behind" "quiet_behind" (Ao Wi) (Aj Wi) (A9 Wi) .none JL JM JN HR uQ JO),IK⟩) (c_x5:PySem.W.codeIn K uQ "quiet_behind" = true) (k_x5:PySem.W.keepIn K (.ref gF) = true)
  (a_x30:PySem.W.nsIn K mainGlobals "after" = some (some (.ref bV))) (l_x30:K.lookup bV = some ⟨yQ,xp,.func (PySem.W.fnOf "after" "after" (Ao Fq) (Aj Fq) (A9 Fq) (.ref iP) kJ kK kL kI iO kM),yj⟩) (c_x30:PySem.W.codeIn K iO "after" = true) (k_x30:PySem.W.keepIn K (.ref bV) = true) (t_x30:K.lookup iP = some ⟨BP,BQ,.seq #[Value.bool false] BR,BS⟩)
  (a_x14:PySem.W.nsIn K mainGlobals "all_behind" = some (some (.ref bW))) (l_x14:K.lookup bW = some ⟨yR,xq,.func (PySem.W.fnOf "all_behind" "all_behind" (Ao Nv) (Aj Nv) (A9 Nv) .none yS yT yU xr pR yV),yk⟩) (c_x14:PySem.W.codeIn K pR "all_behind" = true) (k_x14:PySem.W.keepIn K (.ref bW) = true)
  (a_x6:PySem.W.nsIn K mainGlobals "quiet_values" = some (some (.ref fN))) (l_x6:K.lookup fN = some ⟨JP,HS,.func (PySem.W.fnOf "quiet_values" "quiet_values" (Ao Wj) (Aj Wj) (A9 Wj) .none JQ JR JS HU uR JT),IL⟩) (c_x6:PySem.W.codeIn K uR "quiet_values" = true) (k_x6:PySem.W.keepIn K (.ref fN) = true)
  (a_x22:PySem.W.nsIn K mainGlobals "how_many" = some (some (.ref cS))) (l_x22:K.lookup cS = some ⟨yW,xu,.func (PySem.W.fnOf "how_many" "how_many" (Ao O0) (Aj O0) (A9 O0) .none yX yY yZ xv pS z6),yl⟩) (c_x22:PySem.W.codeIn K pS "how_many" = true) (k_x22:PySem.W.keepIn K (.ref cS) = true)
  (a_x23:PySem.W.nsIn K mainGlobals "all_left" = some (some (.ref cT))) (l_x23:K.lookup cT = some ⟨z7,xw,.func (PySem.W.fnOf "all_left" "all_left" (Ao Lp) (Aj Lp) (A9 Lp) .none z8 z9 za xx pT zb),ym⟩) (c_x23:PySem.W.codeIn K pT "all_left" = true) (k_x23:PySem.W.keepIn K (.ref cT) = true)
  (a_x19:PySem.W.nsIn K mainGlobals "standings" = some (some (.ref cU))) (l_x19:K.lookup cU = some ⟨zc,xy,.func (PySem.W.fnOf "standings" "standings" (Ao Ln) (Aj Ln) (A9 Ln) .none zd ze zf xA pU zg),yn⟩) (c_x19:PySem.W.codeIn K pU "standings" = true) (k_x19:PySem.W.keepIn K (.ref cU) = true)
  (a_x3:PySem.W.nsIn K mainGlobals "calls_by_standing" = some (some (.ref gG))) (l_x3:K.lookup gG = some ⟨JU,HV,.func (PySem.W.fnOf "calls_by_standing" "calls_by_standing" (Ao Wg) (Aj Wg) (A9 Wg) .none JV JW JX HW uS JY),IM⟩) (c_x3:PySem.W.codeIn K uS "calls_by_standing" = true) (k_x3:PySem.W.keepIn K (.ref gG) = true)
  (a_x28:PySem.W.nsIn K mainGlobals "ways_to" = some (some (.ref cV))) (l_x28:K.lookup cV = some ⟨zh,xB,.func (PySem.W.fnOf "ways_to" "ways_to" (Ao O4) (Aj O4) (A9 O4) .none zi zj zk xC pV zl),yo⟩) (c_x28:PySem.W.codeIn K pV "ways_to" = true) (k_x28:PySem.W.keepIn K (.ref cV) = true)
  (a_x0:PySem.W.nsIn K mainGlobals "without_calls_left" = some (some (.ref gH))) (l_x0:K.lookup gH = some ⟨JZ,HY,.func (PySem.W.fnOf "without_calls_left" "without_calls_left" (Ao Wd) (Aj Wd) (A9 Wd) .none KA KC KD HZ uT KG),IP⟩) (c_x0:PySem.W.codeIn K uT "without_calls_left" = true) (k_x0:PySem.W.keepIn K (.ref gH) = true)
  (a_x31:PySem.W.nsIn K mainGlobals "ranks" = some (some (.ref cW))) (l_x31:K.lookup cW = some ⟨zm,xD,.func (PySem.W.fnOf "ranks" "ranks" (Ao Lq) (Aj Lq) (A9 Lq) .none zo zp zq xE pW zr),yp⟩) (c_x31:PySem.W.codeIn K pW "ranks" = true) (k_x31:PySem.W.keepIn K (.ref cW) = true)
  (a_x32:PySem.W.nsIn K mainGlobals "worth" = some (some (.ref cX))) (l_x32:K.lookup cX = some ⟨zt,xF,.func (PySem.W.fnOf "worth" "worth" (Ao O6) (Aj O6) (A9 O6) .none zu zv zw xG pX zx),yq⟩) (c_x32:PySem.W.codeIn K pX "worth" = true) (k_x32:PySem.W.keepIn K (.ref cX) = true)
  (a_x15:PySem.W.nsIn K mainGlobals "call_worth" = some (some (.ref cY))) (l_x15:K.lookup cY = some ⟨zy,xH,.func (PySem.W.fnOf "call_worth" "call_worth" (Ao Lm) (Aj Lm) (A9 Lm) .none zz zA zB xI pY zC),yr⟩) (c_x15:PySem.W.codeIn K pY "call_worth" = true) (k_x15:PySem.W.keepIn K (.ref cY) = true)
  (a_x20:PySem.W.nsIn K mainGlobals "best_call" = some (some (.ref cZ))) (l_x20:K.lookup cZ = some ⟨zD,xJ,.func (PySem.W.fnOf "best_call" "best_call" (Ao Lo) (Aj Lo) (A9 Lo) .none zE zF zG xK pZ zH),yt⟩) (c_x20:PySem.W.codeIn K pZ "best_call" = true) (k_x20:PySem.W.keepIn K (.ref cZ) = true)
  (a_x16:PySem.W.nsIn K mainGlobals "kept_paper" = some (some (.ref cI))) (l_x16:K.lookup cI = some ⟨zI,xM,.func (PySem.W.fnOf "kept_paper" "kept_paper" (Ao Nw) (Aj Nw) (A9 Nw) .none zJ zK zL xN qA zM),yu⟩) (c_x16:PySem.W.codeIn K qA "kept_paper" = true) (k_x16:PySem.W.keepIn K (.ref cI) = true)
  (a_x10:PySem.W.nsIn K mainGlobals "paper_round" = some (some (.ref cJ))) (l_x10:K.lookup cJ = some ⟨zN,xO,.func (PySem.W.fnOf "paper_round" "paper_round" (Ao Nq) (Aj Nq) (A9 Nq) .none zO zP zQ xP qB zR),yv⟩) (c_x10:PySem.W.codeIn K qB "paper_round" = true) (k_x10:PySem.W.keepIn K (.ref cJ) = true)
  (a_x11:PySem.W.nsIn K mainGlobals "_law_cell_at" = some (some (.ref bX))) (l_x11:K.lookup bX = some ⟨zS,xQ,.func (PySem.W.fnOf "_law_cell_at" "_law_cell_at" (Ao Nr) (Aj Nr) (A9 Nr) .none zT zU zV xR qC zW),yw⟩) (c_x11:PySem.W.codeIn K qC "_law_cell_at" = true) (k_x11:PySem.W.keepIn K (.ref bX) = true)
  (a_x29:PySem.W.nsIn K mainGlobals "_law_sum" = some (some (.ref cK))) (l_x29:K.lookup cK = some ⟨zX,xS,.func (PySem.W.fnOf "_law_sum" "_law_sum" (Ao O5) (Aj O5) (A9 O5) .none zY zZ AA xU qD AB),yx⟩) (c_x29:PySem.W.codeIn K qD "_law_sum" = true) (k_x29:PySem.W.keepIn K (.ref cK) = true)
  (a_x24:PySem.W.nsIn K mainGlobals "_law_calm" = some (some (.ref dA))) (l_x24:K.lookup dA = some ⟨AD,xV,.func (PySem.W.fnOf "_law_calm" "_law_calm" (Ao O1) (Aj O1) (A9 O1) .none AE AF AG xW qE AH),yy⟩) (c_x24:PySem.W.codeIn K qE "_law_calm" = true) (k_x24:PySem.W.keepIn K (.ref dA) = true)
  (a_x25:PySem.W.nsIn K mainGlobals "_law_hall" = some (some (.ref dB))) (l_x25:K.lookup dB = some ⟨AI,xX,.func (PySem.W.fnOf "_law_hall" "_law_hall" (Ao Ii) (Aj Ii) (A9 Ii) .none AJ AK AL xY qF AM),yz⟩) (c_x25:PySem.W.codeIn K qF "_law_hall" = true) (k_x25:PySem.W.keepIn K (.ref dB) = true)
  (a_x26:PySem.W.nsIn K mainGlobals "_law_four" = some (some (.ref dC))) (l_x26:K.lookup dC = some ⟨AN,xZ,.func (PySem.W.fnOf "_law_four" "_law_four" (Ao O2) (Aj O2) (A9 O2) .none AO AQ AR y0 qG AS),yA⟩) (c_x26:PySem.W.codeIn K qG "_law_four" = true) (k_x26:PySem.W.keepIn K (.ref dC) = true)
  (a_x7:PySem.W.nsIn K mainGlobals "_law_too_many" = some (some (.ref gI))) (l_x7:K.lookup gI = some ⟨KH,IA,.func (PySem.W.fnOf "_law_too_many" "_law_too_many" (Ao Sw) (Aj Sw) (A9 Sw) .none KI KJ KL IB uU KN),IQ⟩) (c_x7:PySem.W.codeIn K uU "_law_too_many" = true) (k_x7:PySem.W.keepIn K (.ref gI) = true)
  (a_x12:PySem.W.nsIn K mainGlobals "_law_refused" = some (some (.ref dD))) (l_x12:K.lookup dD = some ⟨AU,y8,.func (PySem.W.fnOf "_law_refused" "_law_refused" (Ao Nt) (Aj Nt) (A9 Nt) .none AV AW AX y9 qH AY),yB⟩) (c_x12:PySem.W.codeIn K qH "_law_refused" = true) (k_x12:PySem.W.keepIn K (.ref dD) = true)
  (a_x27:PySem.W.nsIn K mainGlobals "_law_just" = some (some (.ref dE))) (l_x27:K.lookup dE = some ⟨AZ,ya,.func (PySem.W.fnOf "_law_just" "_law_just" (Ao O3) (Aj O3) (A9 O3) .none BA BB BC yb qI BD),yC⟩) (c_x27:PySem.W.codeIn K qI "_law_just" = true) (k_x27:PySem.W.keepIn K (.ref dE) = true)
  (a_x17:PySem.W.nsIn K mainGlobals "_law_behind" = some (some (.ref dG))) (l_x17:K.lookup dG = some ⟨BE,yc,.func (PySem.W.fnOf "_law_behind" "_law_behind" (Ao Nx) (Aj Nx) (A9 Nx) .none BF BG BH yd qJ BI),yD⟩) (c_x17:PySem.W.codeIn K qJ "_law_behind" = true) (k_x17:PySem.W.keepIn K (.ref dG) = true)
  (a_x13:PySem.W.nsIn K mainGlobals "_law_numbers" = some (some (.ref dH))) (l_x13:K.lookup dH = some ⟨BJ,ye,.func (PySem.W.fnOf "_law_numbers" "_law_numbers" (Ao Nu) (Aj Nu) (A9 Nu) .none BK BL BM yf qK BN),yE⟩) (c_x13:PySem.W.codeIn K qK "_law_numbers" = true) (k_x13:PySem.W.keepIn K (.ref dH) = true)
  (a_x1:PySem.W.nsIn K mainGlobals "_law_called_in_time" = some (some (.ref gJ))) (l_x1:K.lookup gJ = some ⟨KO,IC,.func (PySem.W.fnOf "_law_called_in_time" "_law_called_in_time" (Ao We) (Aj We) (A9 We) .none KP KQ KR ID uV KS),IT⟩) (c_x1:PySem.W.codeIn K uV "_law_called_in_time" = true) (k_x1:PySem.W.keepIn K (.ref gJ) = true)
  (a_x4:PySem.W.nsIn K mainGlobals "_law_goes_round" = some (some (.ref gK))) (l_x4:K.lookup gK = some ⟨KU,IE,.func (PySem.W.fnOf "_law_goes_round" "_law_goes_round" (Ao Wh) (Aj Wh) (A9 Wh) .none KW KY KZ IG uW LA),IU⟩) (c_x4:PySem.W.codeIn K uW "_law_goes_round" = true) (k_x4:PySem.W.keepIn K (.ref gK) = true)
  (a_law:PySem.W.nsIn K mainGlobals "law" = some (some (.ref eT))) (l_law:K.lookup eT = some ⟨BO,yg,.func (PySem.W.fnOf "law" "law" (Ao Ih) (Aj Ih) (A9 Ih) .none qL qM qN pO kN qO),yF⟩) (c_law:PySem.W.codeIn K kN "law" = true) (k_law:PySem.W.keepIn K (.ref eT) = true)
  {eG:Nat} (y_MOST_STANDINGS:PySem.W.nsIn K mainGlobals "MOST_STANDINGS" = some (some (.int 3000 eG))) (z_len:PySem.W.nsIn K mainGlobals "len" = some none) (z_max:PySem.W.nsIn K mainGlobals "max" = some none) (z_tuple:PySem.W.nsIn K mainGlobals "tuple" = some none) (z_range:PySem.W.nsIn K mainGlobals "range" = some none) (z_min:PySem.W.nsIn K mainGlobals "min" = some none) (z_sorted:PySem.W.nsIn K mainGlobals "sorted" = some none) (z_dict:PySem.W.nsIn K mainGlobals "dict" = some none) (z_ValueError:PySem.W.nsIn K mainGlobals "ValueError" = some none) (z_isinstance:PySem.W.nsIn K mainGlobals "isinstance" = some none) (z_list:PySem.W.nsIn K mainGlobals "list" = some none) (z_bool:PySem.W.nsIn K mainGlobals "bool" = some none) (z_int:PySem.W.nsIn K mainGlobals "int" = some none) (ac_TooMany:PySem.W.nsIn K mainGlobals "TooMany" = some (some (.ref aA))) (ac_NoHall:PySem.W.nsIn K mainGlobals "NoHall" = some (some (.ref aH))) (ac_NoListener:PySem.W.nsIn K mainGlobals "NoListener" = some (some (.ref aB))) (ac_NoLoss:PySem.W.nsIn K mainGlobals "NoLoss" = some (some (.ref aI))) (ac_NoWheel:PySem.W.nsIn K mainGlobals "NoWheel" = some (some (.ref aD))) (ac_NoChain:PySem.W.nsIn K mainGlobals "NoChain" = some (some (.ref aE))) (ac_TooMuch:PySem.W.nsIn K mainGlobals "TooMuch" = some (some (.ref aF))) (ac_NoPart:PySem.W.nsIn K mainGlobals "NoPart" = some (some (.ref aJ))) (ac_Unsafe:PySem.W.nsIn K mainGlobals "Unsafe" = some (some (.ref aK))) (ac_NoRow:PySem.W.nsIn K mainGlobals "NoRow" = some (some (.ref aM))) (ac_NoStand:PySem.W.nsIn K mainGlobals "NoStand" = some (some (.ref aG))) (ac_RoundError:PySem.W.nsIn K mainGlobals "RoundError" = some (some (.ref aC))) (e_TooMany:PySem.W.excIn K aA [.type "ValueError",.type "Exception",.type "BaseException",.type "object"] "ValueError.__new__" = true) (b_NoHall:PySem.W.subIn K (.ref aH) (.type "BaseException") = some true) (s_TooMany_NoHall:PySem.W.subIn K (.ref aA) (.ref aH) = some false) (b_NoListener:PySem.W.subIn K (.ref aB) (.type "BaseException") = some true) (s_TooMany_NoListener:PySem.W.subIn K (.ref aA) (.ref aB) = some false) (b_NoLoss:PySem.W.subIn K (.ref aI) (.type "BaseException") = some true) (s_TooMany_NoLoss:PySem.W.subIn K (.ref aA) (.ref aI) = some false) (b_NoWheel:PySem.W.subIn K (.ref aD) (.type "BaseException") = some true) (s_TooMany_NoWheel:PySem.W.subIn K (.ref aA) (.ref aD) = some false) (b_NoChain:PySem.W.subIn K (.ref aE) (.type "BaseException") = some true) (s_TooMany_NoChain:PySem.W.subIn K (.ref aA) (.ref aE) = some false) (b_TooMuch:PySem.W.subIn K (.ref aF) (.type "BaseException") = some true) (s_TooMany_TooMuch:PySem.W.subIn K (.ref aA) (.ref aF) = some false) (b_NoPart:PySem.W.subIn K (.ref aJ) (.type "BaseException") = some true) (s_TooMany_NoPart:PySem.W.subIn K (.ref aA) (.ref aJ) = some false) (b_Unsafe:PySem.W.subIn K (.ref aK) (.type "BaseException") = some true) (s_TooMany_Unsafe:PySem.W.subIn K (.ref aA) (.ref aK) = some false) (b_NoRow:PySem.W.subIn K (.ref aM) (.type "BaseException") = some true) (s_TooMany_NoRow:PySem.W.subIn K (.ref aA) (.ref aM) = some false) (b_NoStand:PySem.W.subIn K (.ref aG) (.type "BaseException") = some true) (s_TooMany_NoStand:PySem.W.subIn K (.ref aA) (.ref aG) = some false) (i_TooMany_RoundError:PySem.W.kitOne K (.ref aA) (.ref aC) = some true) (i_TooMany_ValueError:PySem.W.kitOne K (.ref aA) (.type "ValueError") = some true) :
  ∃ fd:FuncData,(∀ (s:Shared) (v:Value),BindsTo s fd ⟨[v],[]⟩ [("script",v)]) /\ ∀ base:Heap,K.In base -> base.Ns mainGlobals mg -> Ai l.prog w K mg base (Bi l.prog w) 11 fa fd ["script"] (Pj K):=by
 have e:=hfa.symm.trans (PySem.W.mg_of X G a_law)
 cases e
 have T:Txt K mg ⟨cF,cH,gC,gD,gE,gF,bV,bW,fN,cS,cT,cU,gG,cV,gH,cW,cX,cY,cZ,cI,cJ,bX,cK,dA,dB,dC,gI,dD,dE,dG,dH,gJ,gK,fa⟩ aA aH aB aI aD aE aF aJ aK aM aG aC:=⟨PySem.W.mg_of X G a_x18,k_x18,PySem.W.mg_of X G a_x21,k_x21,PySem.W.mg_of X G a_x8,k_x8,PySem.W.mg_of X G a_x2,k_x2,PySem.W.mg_of X G a_x9,k_x9,PySem.W.mg_of X G a_x5,k_x5,PySem.W.mg_of X G a_x30,k_x30,PySem.W.mg_of X G a_x14,k_x14,PySem.W.mg_of X G a_x6,k_x6,PySem.W.mg_of X G a_x22,k_x22,PySem.W.mg_of X G a_x23,k_x23,PySem.W.mg_of X G a_x19,k_x19,PySem.W.mg_of X G a_x3,k_x3,PySem.W.mg_of X G a_x28,k_x28,PySem.W.mg_of X G a_x0,k_x0,PySem.W.mg_of X G a_x31,k_x31,PySem.W.mg_of X G a_x32,k_x32,PySem.W.mg_of X G a_x15,k_x15,PySem.W.mg_of X G a_x20,k_x20,PySem.W.mg_of X G a_x16,k_x16,PySem.W.mg_of X G a_x10,k_x10,PySem.W.mg_of X G a_x11,k_x11,PySem.W.mg_of X G a_x29,k_x29,PySem.W.mg_of X G a_x24,k_x24,PySem.W.mg_of X G a_x25,k_x25,PySem.W.mg_of X G a_x26,k_x26,PySem.W.mg_of X G a_x7,k_x7,PySem.W.mg_of X G a_x12,k_x12,PySem.W.mg_of X G a_x27,k_x27,PySem.W.mg_of X G a_x17,k_x17,PySem.W.mg_of X G a_x13,k_x13,PySem.W.mg_of X G a_x1,k_x1,PySem.W.mg_of X G a_x4,k_x4,PySem.W.mg_of X G a_law,k_law,PySem.W.mg_none_of X G z_len,PySem.W.mg_none_of X G z_max,PySem.W.mg_none_of X G z_tuple,PySem.W.mg_none_of X G z_range,PySem.W.mg_none_of X G z_min,PySem.W.mg_none_of X G z_sorted,PySem.W.mg_none_of X G z_dict,PySem.W.mg_none_of X G z_ValueError,PySem.W.mg_none_of X G z_isinstance,PySem.W.mg_none_of X G z_list,PySem.W.mg_none_of X G z_bool,PySem.W.mg_none_of X G z_int,⟨_,PySem.W.mg_of X G y_MOST_STANDINGS⟩,PySem.W.mg_of X G ac_TooMany,PySem.W.mg_of X G ac_NoHall,PySem.W.mg_of X G ac_NoListener,PySem.W.mg_of X G ac_NoLoss,PySem.W.mg_of X G ac_NoWheel,PySem.W.mg_of X G ac_NoChain,PySem.W.mg_of X G ac_TooMuch,PySem.W.mg_of X G ac_NoPart,PySem.W.mg_of X G ac_Unsafe,PySem.W.mg_of X G ac_NoRow,PySem.W.mg_of X G ac_NoStand,PySem.W.mg_of X G ac_RoundError,e_TooMany,b_NoHall,s_TooMany_NoHall,b_NoListener,s_TooMany_NoListener,b_NoLoss,s_TooMany_NoLoss,b_NoWheel,s_TooMany_NoWheel,b_NoChain,s_TooMany_NoChain,b_TooMuch,s_TooMany_TooMuch,b_NoPart,s_TooMany_NoPart,b_Unsafe,s_TooMany_Unsafe,b_NoRow,s_TooMany_NoRow,b_NoStand,s_TooMany_NoStand,i_TooMany_RoundError,i_TooMany_ValueError⟩
 have uX:=Bj (st:=Ny) l_x18 c_x18 k_x18
 have uY:=Bj (st:=Nz) l_x21 c_x21 k_x21
 have LB:=Bj (st:=Wk) l_x8 c_x8 k_x8
 have LC:=Bj (st:=Wf) l_x2 c_x2 k_x2
 have LD:=Bj (st:=Sx) l_x9 c_x9 k_x9
 have LF:=Bj (st:=Wi) l_x5 c_x5 k_x5
 have LG:Q0 K "after" "after" Fq bV _:=⟨⟨_,_,_,_,_,_,_,_,_,_,rfl,l_x30,c_x30⟩⟩
 have uZ:=Bj (st:=Nv) l_x14 c_x14 k_x14
 have LH:=Bj (st:=Wj) l_x6 c_x6 k_x6
 have v9:=Bj (st:=O0) l_x22 c_x22 k_x22
 have vc:=Bj (st:=Lp) l_x23 c_x23 k_x23
 have vd:=Bj (st:=Ln) l_x19 c_x19 k_x19
 have LI:=Bj (st:=Wg) l_x3 c_x3 k_x3
 have vf:=Bj (st:=O4) l_x28 c_x28 k_x28
 have LJ:=Bj (st:=Wd) l_x0 c_x0 k_x0
 have vg:=Bj (st:=Lq) l_x31 c_x31 k_x31
 have vh:=Bj (st:=O6) l_x32 c_x32 k_x32
 have vk:=Bj (st:=Lm) l_x15 c_x15 k_x15
 have vn:=Bj (st:=Lo) l_x20 c_x20 k_x20
 have vo:=Bj (st:=Nw) l_x16 c_x16 k_x16
 have vp:=Bj (st:=Nq) l_x10 c_x10 k_x10
 have vq:=Bj (st:=Nr) l_x11 c_x11 k_x11
 have vt:=Bj (st:=O5) l_x29 c_x29 k_x29
 have vv:=Bj (st:=O1) l_x24 c_x24 k_x24
 have vx:=Bj (st:=Ii) l_x25 c_x25 k_x25
 have vy:=Bj (st:=O2) l_x26 c_x26 k_x26
 have LK:=Bj (st:=Sw) l_x7 c_x7 k_x7
 have vz:=Bj (st:=Nt) l_x12 c_x12 k_x12
 have vA:=Bj (st:=O3) l_x27 c_x27 k_x27
 have vB:=Bj (st:=Nx) l_x17 c_x17 k_x17
 have vC:=Bj (st:=Nu) l_x13 c_x13 k_x13
 have LL:=Bj (st:=We) l_x1 c_x1 k_x1
 have LM:=Bj (st:=Wh) l_x4 c_x4 k_x4
 have LN:=Bj (st:=Ih) l_law c_law k_law
 have fS:=uX.binds (ps:=["hall"]) fun _ _ _ _ _ _ us hl=>by obtain ⟨_,rfl⟩ := Gb hl; rfl
 have gU:=uY.binds (ps:=["hall","standing"]) fun _ _ _ _ _ _ us hl=>by obtain ⟨_,_,rfl⟩ := Ty hl; rfl
 have wk:=LB.binds (ps:=["hall","who"]) fun _ _ _ _ _ _ us hl=>by obtain ⟨_,_,rfl⟩ := Ty hl; rfl
 have wq:=LC.binds (ps:=["hall","standing","who","lost"]) fun _ _ _ _ _ _ us hl=>by obtain ⟨_,_,_,_,rfl⟩ := Yx hl; rfl
 have wx:=LD.binds (ps:=["hall","standing","who","lost"]) fun _ _ _ _ _ _ us hl=>by obtain ⟨_,_,_,_,rfl⟩ := Yx hl; rfl
 have wA:=LF.binds (ps:=["hall","standing","lost"]) fun _ _ _ _ _ _ us hl=>by obtain ⟨_,_,_,rfl⟩ := Rk hl; rfl
 have jH:Ay K (PySem.W.fnOf "after" "after" (Ao Fq) (Aj Fq) (A9 Fq) (.ref iP) kJ kK kL kI iO kM) ["hall","standing","who","lost"] []:=fun s us hK hl=>by
  have h4:us.length = 4:=by simpa using hl
  obtain ⟨_,_,_,_,rfl⟩ := Yx h4
  exact BindsTo.of_defaults rfl (hK _ _ t_x30) rfl rfl rfl
 have bL:Ay K (PySem.W.fnOf "after" "after" (Ao Fq) (Aj Fq) (A9 Fq) (.ref iP) kJ kK kL kI iO kM) ["hall","standing","who","lost"] [Value.bool false]:=fun s us hK hl=>by
  have h4:us.length = 3:=by simpa using hl
  obtain ⟨_,_,_,rfl⟩ := Rk h4
  exact BindsTo.of_defaults rfl (hK _ _ t_x30) rfl rfl rfl
 have eF:=uZ.binds (ps:=["hall","standing","who"]) fun _ _ _ _ _ _ us hl=>by obtain ⟨_,_,_,rfl⟩ := Rk hl; rfl
 have lQ:=LH.binds (ps:=["hall"]) fun _ _ _ _ _ _ us hl=>by obtain ⟨_,rfl⟩ := Gb hl; rfl
 have nU:=v9.binds (ps:=["hall"]) fun _ _ _ _ _ _ us hl=>by obtain ⟨_,rfl⟩ := Gb hl; rfl
 have nR:=vc.binds (ps:=["waits"]) fun _ _ _ _ _ _ us hl=>by obtain ⟨_,rfl⟩ := Gb hl; rfl
 have nX:=vd.binds (ps:=["hall"]) fun _ _ _ _ _ _ us hl=>by obtain ⟨_,rfl⟩ := Gb hl; rfl
 have wN:=LI.binds (ps:=["hall"]) fun _ _ _ _ _ _ us hl=>by obtain ⟨_,rfl⟩ := Gb hl; rfl
 have oE:=vf.binds (ps:=["pending"]) fun _ _ _ _ _ _ us hl=>by obtain ⟨_,rfl⟩ := Gb hl; rfl
 have wQ:=LJ.binds (ps:=["pending","ways","ranked"]) fun _ _ _ _ _ _ us hl=>by obtain ⟨_,_,_,rfl⟩ := Rk hl; rfl
 have oS:=vg.binds (ps:=["hall"]) fun _ _ _ _ _ _ us hl=>by obtain ⟨_,rfl⟩ := Gb hl; rfl
 have oJ:=vh.binds (ps:=["table","behind"]) fun _ _ _ _ _ _ us hl=>by obtain ⟨_,_,rfl⟩ := Ty hl; rfl
 have oN:=vk.binds (ps:=["hall","table","standing","who"]) fun _ _ _ _ _ _ us hl=>by obtain ⟨_,_,_,_,rfl⟩ := Yx hl; rfl
 have oV:=vn.binds (ps:=["hall","table","standing"]) fun _ _ _ _ _ _ us hl=>by obtain ⟨_,_,_,rfl⟩ := Rk hl; rfl
 have gZ:=vo.binds (ps:=["hall"]) fun _ _ _ _ _ _ us hl=>by obtain ⟨_,rfl⟩ := Gb hl; rfl
 have eZ:=vp.binds (ps:=["hall"]) fun _ _ _ _ _ _ us hl=>by obtain ⟨_,rfl⟩ := Gb hl; rfl
 have bG:=vq.binds (ps:=["script","k"]) fun _ _ _ _ _ _ us hl=>by obtain ⟨_,_,rfl⟩ := Ty hl; rfl
 have hX:=vt.binds (ps:=["cells"]) fun _ _ _ _ _ _ us hl=>by obtain ⟨_,rfl⟩ := Gb hl; rfl
 have jL:=vv.binds (ps:=["cell","room"]) fun _ _ _ _ _ _ us hl=>by obtain ⟨_,_,rfl⟩ := Ty hl; rfl
 have pH:=vx.binds (ps:=["script"]) fun _ _ _ _ _ _ us hl=>by obtain ⟨_,rfl⟩ := Gb hl; rfl
 have pL:=vy.binds (ps:=["script"]) fun _ _ _ _ _ _ us hl=>by obtain ⟨_,rfl⟩ := Gb hl; rfl
 have xh:=LK.binds (ps:=["script"]) fun _ _ _ _ _ _ us hl=>by obtain ⟨_,rfl⟩ := Gb hl; rfl
 have pJ:=vz.binds (ps:=["hall"]) fun _ _ _ _ _ _ us hl=>by obtain ⟨_,rfl⟩ := Gb hl; rfl
 have pN:=vA.binds (ps:=["cell"]) fun _ _ _ _ _ _ us hl=>by obtain ⟨_,rfl⟩ := Gb hl; rfl
 have pA:=vB.binds (ps:=["hall","standing","who"]) fun _ _ _ _ _ _ us hl=>by obtain ⟨_,_,_,rfl⟩ := Rk hl; rfl
 have lA:=vC.binds (ps:=["some","many"]) fun _ _ _ _ _ _ us hl=>by obtain ⟨_,_,rfl⟩ := Ty hl; rfl
 have xj:=LL.binds (ps:=["row","who","wait"]) fun _ _ _ _ _ _ us hl=>by obtain ⟨_,_,_,rfl⟩ := Rk hl; rfl
 have xf:=LM.binds (ps:=["hall","calls","lead","row"]) fun _ _ _ _ _ _ us hl=>by obtain ⟨_,_,_,_,rfl⟩ := Yx hl; rfl
 refine ⟨PySem.W.fnOf "law" "law" (Ao Ih) (Aj Ih) (A9 Ih) .none qL qM qN pO kN qO,fun s v=>.of_eq rfl,fun base _ _=>?_⟩
 have fR:Ai l.prog w K mg base (Bi l.prog w) 1 _ _ ["hall"] (Pm K):=g8 T uX
 have gT:Ai l.prog w K mg base (Bi l.prog w) 1 _ _ ["hall","standing"] (Pn K):=gd T uY
 have wj:Ai l.prog w K mg base (Bi l.prog w) 1 _ _ ["hall","who"] (Yp K):=l0 T LB
 have wm:Ai l.prog w K mg base (Bi l.prog w) 2 _ _ ["hall","standing","who","lost"] (Yk K):=ko T LC wj wk gT gU
 have wu:Ai l.prog w K mg base (Bi l.prog w) 3 _ _ ["hall","standing","who","lost"] (Yq K):=l5 T LD wm wq
 have wy:Ai l.prog w K mg base (Bi l.prog w) 1 _ _ ["hall","standing","lost"] (Yn K):=kx T LF
 have fP:Ai l.prog w K mg base (Bi l.prog w) 4 _ _ ["hall","standing","who","lost"] (Pp K):=gn T LG wu wx wy wA
 have eC:Ai l.prog w K mg base (Bi l.prog w) 5 _ _ ["hall","standing","who"] (Lv K):=fw T uZ gT gU fP jH bL
 have lP:Ai l.prog w K mg base (Bi l.prog w) 1 _ _ ["hall"] (V0 K):=ky T LH
 have nS:Ai l.prog w K mg base (Bi l.prog w) 2 _ _ ["hall"] (Ti K):=ge T v9 lP lQ
 have nQ:Ai l.prog w K mg base (Bi l.prog w) 1 _ _ ["waits"] (Tj K):=gf T vc
 have nW:Ai l.prog w K mg base (Bi l.prog w) 3 _ _ ["hall"] (Tg K aA):=g9 T vd nQ nR nS nU lP lQ
 have wM:Ai l.prog w K mg base (Bi l.prog w) 6 _ _ ["hall"] (Yl K aA):=kq T LI nW nX eC eF
 have oD:Ai l.prog w K mg base (Bi l.prog w) 1 _ _ ["pending"] (To K):=gl T vf
 have wO:Ai l.prog w K mg base (Bi l.prog w) 1 _ _ ["pending","ways","ranked"] (Yi K):=km T LJ
 have oQ:Ai l.prog w K mg base (Bi l.prog w) 7 _ _ ["hall"] (Tp K aA):=gp T vg wM wN oD oE wO wQ
 have oI:Ai l.prog w K mg base (Bi l.prog w) 1 _ _ ["table","behind"] (Tq K):=gq T vh
 have oM:Ai l.prog w K mg base (Bi l.prog w) 6 _ _ ["hall","table","standing","who"] (Te K):=fz T vk oI oJ eC eF
 have oU:Ai l.prog w K mg base (Bi l.prog w) 7 _ _ ["hall","table","standing"] (Th K):=gc T vn oM oN
 have gY:Ai l.prog w K mg base (Bi l.prog w) 8 _ _ ["hall"] (Pl K aA):=g0 T vo oQ oS fR fS oU oV eC eF
 have eY:Ai l.prog w K mg base (Bi l.prog w) 9 _ _ ["hall"] (Pk K aA):=fo T vp gY gZ fR fS fP jH bL
 have bE:Ai l.prog w K mg base (Bi l.prog w) 1 _ _ ["script","k"] (Lu K):=fq T vq
 have hJ:Ai l.prog w K mg base (Bi l.prog w) 1 _ _ ["cells"] (Po K):=gm T vt
 have jK:Ai l.prog w K mg base (Bi l.prog w) 1 _ _ ["cell","room"] (Tk K):=gh T vv
 have pG:Ai l.prog w K mg base (Bi l.prog w) 2 _ _ ["script"] (Tl K):=gi T vx hJ hX bE bG jK jL
 have pK:Ai l.prog w K mg base (Bi l.prog w) 2 _ _ ["script"] (Tm K):=gj T vy bE bG
 have xg:Ai l.prog w K mg base (Bi l.prog w) 2 _ _ ["script"] (Yo K):=kz T LK hJ hX
 have pI:Ai l.prog w K mg base (Bi l.prog w) 10 _ _ ["hall"] (Tc K):=ft T vz eY eZ
 have pM:Ai l.prog w K mg base (Bi l.prog w) 1 _ _ ["cell"] (Tn K):=gk T vA
 have oZ:Ai l.prog w K mg base (Bi l.prog w) 1 _ _ ["hall","standing","who"] (Tf K):=g7 T vB
 have kZ:Ai l.prog w K mg base (Bi l.prog w) 1 _ _ ["some","many"] (Td K):=fu T vC
 have xi:Ai l.prog w K mg base (Bi l.prog w) 1 _ _ ["row","who","wait"] (Yj K):=kn T LL
 have xc:Ai l.prog w K mg base (Bi l.prog w) 2 _ _ ["hall","calls","lead","row"] (Ym K):=kr T LM oZ pA
 exact fm T LN pG pH gY gZ eY eZ pI pJ pK pL xc xf xg xh kZ lA xi xj bE bG pM pN
theorem walk {l : PySem.W.OpenLaw} {q : Program} {loose : List Str} {XP : (Str -> Option Value) -> Heap -> Prop} {YP : World -> Heap -> Prop} {d : DefRec} {K : Params -> PySem.W.Frag} (hn : l.most = some 63) (OF : d.params.defaults = [])
  (hY:∀ (w:World) (h:Heap),YP w h -> (K w.params).In h)
  (F:∀ (w:World) (mg:Str -> Option Value) (fa:Addr) (h:Heap),(K w.params).In h -> h.Ns mainGlobals mg -> mg d.name = some (.ref fa) ->
   ∃ fd:FuncData,(∀ (s:Shared) (u:Value),BindsTo s fd ⟨[u],[]⟩ [("script",u)]) /\ ∀ base:Heap,(K w.params).In base -> base.Ns mainGlobals mg -> Ai l.prog w (K w.params) mg base (Bi l.prog w) 11 fa fd ["script"] (Pj (K w.params))) :
  PySem.W.WalkO q loose XP YP l.row.toRowW d [] (fun f vs=>PySem.call f vs) :=
 L2.mK (n:=63) (k:=11) (x := "script") (CX:=fun w=>Bi l.prog w) (sp:=fun w=>Pj (K w.params)) hn (by decide) OF ⟨rfl,by decide,by decide⟩ hY F (fun _ _ a ns hl hb _ hS=>⟨a,ns,rfl,hS,hl,hb,fun _=>rfl⟩) fun _ _ _ _ _ ⟨_,_,_,_,_,_,_,_,q⟩=>q
end Law
namespace PySem.W.Fast
theorem tw16539198959742902495:True:=trivial
theorem tw591145425967755565:True:=trivial
theorem tw5715205086320422024:True:=trivial
theorem tw14253274158420902830:True:=trivial
theorem tw13548667710567444648:True:=trivial
theorem tw16325615723514088821:True:=trivial
theorem tw13481007009211321092:True:=trivial
theorem tw16328165916798399142:True:=trivial
theorem tw10548599611808074776:True:=trivial
theorem tw8602401244175693981:True:=trivial
theorem tw9420263565143205246:True:=trivial
theorem tw8727158108875997191:True:=trivial
theorem tw4481735813082384206:True:=trivial
theorem tw6086445690459735964:True:=trivial
theorem tw3036033016261748695:True:=trivial
theorem tw9411617199731621912:True:=trivial
theorem tw13512035190252474187:True:=trivial
theorem tw11155851972608352155:True:=trivial
theorem tw6559527431370943951:True:=trivial
theorem tw6580387069521341996:True:=trivial
theorem tw2975399423166634235:True:=trivial
theorem tw7779971614745142355:True:=trivial
theorem tw417530021790237289:True:=trivial
theorem tw14582863821425906849:True:=trivial
theorem tw17268284193474439972:True:=trivial
theorem tw11928457074691048194:True:=trivial
theorem tw3654204930768788405:True:=trivial
theorem tw16748889590041076815:True:=trivial
theorem tw6803760356909567414:True:=trivial
theorem tw625107403431838860:True:=trivial
theorem tw14527303517178351915:True:=trivial
theorem tw13183632803458300960:True:=trivial
theorem tw7358759456684117548:True:=trivial
theorem tw5710962323831122716:True:=trivial
theorem tw8320671854687918795:True:=trivial
theorem tw14053952858735372705:True:=trivial
theorem tw14622939467429518488:True:=trivial
theorem tw4520122059838544627:True:=trivial
theorem tw13929772390388538278:True:=trivial
theorem tw1516088627742021481:True:=trivial
theorem tw13007896252972352790:True:=trivial
theorem tw12020930306298347272:True:=trivial
theorem tw7891607321371538469:True:=trivial
theorem tw11721934664481900573:True:=trivial
theorem tw1795787070156318316:True:=trivial
theorem tw948711586884670746:True:=trivial
theorem tw18079234609735050575:True:=trivial
theorem tw4751517806116531726:True:=trivial
theorem tw5471195220673022282:True:=trivial
theorem tw6725999362319978842:True:=trivial
theorem tw9563444461543821795:True:=trivial
theorem tw18365404490517072128:True:=trivial
theorem tw15903557434331047395:True:=trivial
theorem tw14115937392429934097:True:=trivial
theorem tw15738942256368845295:True:=trivial
theorem tw13075295445754476262:True:=trivial
theorem tw13820080838535247928:True:=trivial
theorem tw935078067870574456:True:=trivial
theorem tw477285224543142909:True:=trivial
theorem tw18160905787305469425:True:=trivial
theorem tw17801959822040515603:True:=trivial
theorem tw15866088812676868687:True:=trivial
theorem tw18439491011351573080:True:=trivial
theorem tw9419143121824201217:True:=trivial
theorem tw9757196438555023647:True:=trivial
theorem tw2671432607158720485:True:=trivial
theorem tw17454960981979732066:True:=trivial
theorem tw9169626867590418080:True:=trivial
theorem tw10758467338485302223:True:=trivial
theorem tw11975361551113334444:True:=trivial
theorem tw6500383050837701016:True:=trivial
theorem tw1487836428999748042:True:=trivial
theorem tw6264660816400529194:True:=trivial
theorem tw13298746687955591270:True:=trivial
theorem tw13600691927847310636:True:=trivial
theorem tw4706785099936020817:True:=trivial
theorem tw903236385432633274:True:=trivial
theorem tw2616825258822380656:True:=trivial
theorem tw1936356029771731695:True:=trivial
theorem tw10476400734888638662:True:=trivial
theorem tw7417230405871028998:True:=trivial
theorem tw2591720457988921990:True:=trivial
theorem tw593189678979028062:True:=trivial
theorem tw13543479715433723825:True:=trivial
theorem tw1476911260697480545:True:=trivial
theorem tw18195551143813139473:True:=trivial
theorem tw71180633426676436:True:=trivial
theorem tw14412190572469615659:True:=trivial
theorem tw18039370224148813575:True:=trivial
theorem tw5620298515566496325:True:=trivial
theorem tw4654948244434268394:True:=trivial
theorem tw10080678116662892583:True:=trivial
theorem tw15896785179477445511:True:=trivial
theorem tw3395964751927163263:True:=trivial
theorem tw15009518126648724098:True:=trivial
theorem tw9611009802883786890:True:=trivial
end PySem.W.Fast
open PySem PySem.W PyProof.Rows
set_option maxRecDepth 100000 in
set_option maxHeartbeats 0 in
theorem PySem.Challenge.cw_roundcall_k76_whole_papers_round_holds : PySem.Challenge.rw_roundcall_k76_whole_papers_round.Holds := by
 w_on; o_law; k_head; (case hw=>w_witness2)
 k_fill
 refine Law.walk (l:=PySem.Challenge.rw_roundcall_k76_whole_papers_round) rfl rfl (fun w h Y=>PySem.W.kIn_of Y) ?F
 case F =>
  intro w mg fa h KX G hmg
  refine' Law.all_mk KX G hmg ?a_x18 ?l_x18 ?c_x18 ?k_x18 ?a_x21 ?l_x21 ?c_x21 ?k_x21 ?a_x8 ?l_x8 ?c_x8 ?k_x8 ?a_x2 ?l_x2 ?c_x2 ?k_x2 ?a_x9 ?l_x9 ?c_x9 ?k_x9 ?a_x5 ?l_x5 ?c_x5 ?k_x5 ?a_x30 ?l_x30 ?c_x30 ?k_x30 ?t_x30 ?a_x14 ?l_x14 ?c_x14 ?k_x14 ?a_x6 ?l_x6 ?c_x6 ?k_x6 ?a_x22 ?l_x22 ?c_x22 ?k_x22 ?a_x23 ?l_x23 ?c_x23 ?k_x23 ?a_x19 ?l_x19 ?c_x19 ?k_x19 ?a_x3 ?l_x3 ?c_x3 ?k_x3 ?a_x28 ?l_x28 ?c_x28 ?k_x28 ?a_x0 ?l_x0 ?c_x0 ?k_x0 ?a_x31 ?l_x31 ?c_x31 ?k_x31 ?a_x32 ?l_x32 ?c_x32 ?k_x32 ?a_x15 ?l_x15 ?c_x15 ?k_x15 ?a_x20 ?l_x20 ?c_x20 ?k_x20 ?a_x16 ?l_x16 ?c_x16 ?k_x16 ?a_x10 ?l_x10 ?c_x10 ?k_x10 ?a_x11 ?l_x11 ?c_x11 ?k_x11 ?a_x29 ?l_x29 ?c_x29 ?k_x29 ?a_x24 ?l_x24 ?c_x24 ?k_x24 ?a_x25 ?l_x25 ?c_x25 ?k_x25 ?a_x26 ?l_x26 ?c_x26 ?k_x26 ?a_x7 ?l_x7 ?c_x7 ?k_x7 ?a_x12 ?l_x12 ?c_x12 ?k_x12 ?a_x27 ?l_x27 ?c_x27 ?k_x27 ?a_x17 ?l_x17 ?c_x17 ?k_x17 ?a_x13 ?l_x13 ?c_x13 ?k_x13 ?a_x1 ?l_x1 ?c_x1 ?k_x1 ?a_x4 ?l_x4 ?c_x4 ?k_x4 ?a_law ?l_law ?c_law ?k_law ?y_MOST_STANDINGS ?z_len ?z_max ?z_tuple ?z_range ?z_min ?z_sorted ?z_dict ?z_ValueError ?z_isinstance ?z_list ?z_bool ?z_int ?ac_TooMany ?ac_NoHall ?ac_NoListener ?ac_NoLoss ?ac_NoWheel ?ac_NoChain ?ac_TooMuch ?ac_NoPart ?ac_Unsafe ?ac_NoRow ?ac_NoStand ?ac_RoundError ?e_TooMany ?b_NoHall ?s_TooMany_NoHall ?b_NoListener ?s_TooMany_NoListener ?b_NoLoss ?s_TooMany_NoLoss ?b_NoWheel ?s_TooMany_NoWheel ?b_NoChain ?s_TooMany_NoChain ?b_TooMuch ?s_TooMany_TooMuch ?b_NoPart ?s_TooMany_NoPart ?b_Unsafe ?s_TooMany_Unsafe ?b_NoRow ?s_TooMany_NoRow ?b_NoStand ?s_TooMany_NoStand ?i_TooMany_RoundError ?i_TooMany_ValueError
  (case a_x18=>k_is)
  (case l_x18=>k_is)
  (case c_x18=>k_is)
  (case k_x18=>k_is)
  (case a_x21=>k_is)
  (case l_x21=>k_is)
  (case c_x21=>k_is)
  (case k_x21=>k_is)
  (case a_x8=>k_is)
  (case l_x8=>k_is)
  (case c_x8=>k_is)
  (case k_x8=>k_is)
  (case a_x2=>k_is)
  (case l_x2=>k_is)
  (case c_x2=>k_is)
  (case k_x2=>k_is)
  (case a_x9=>k_is)
  (case l_x9=>k_is)
  (case c_x9=>k_is)
  (case k_x9=>k_is)
  (case a_x5=>k_is)
  (case l_x5=>k_is)
  (case c_x5=>k_is)
  (case k_x5=>k_is)
  (case a_x30=>k_is)
  (case l_x30=>k_is)
  (case c_x30=>k_is)
  (case k_x30=>k_is)
  (case t_x30=>k_is)
  (case a_x14=>k_is)
  (case l_x14=>k_is)
  (case c_x14=>k_is)
  (case k_x14=>k_is)
  (case a_x6=>k_is)
  (case l_x6=>k_is)
  (case c_x6=>k_is)
  (case k_x6=>k_is)
  (case a_x22=>k_is)
  (case l_x22=>k_is)
  (case c_x22=>k_is)
  (case k_x22=>k_is)
  (case a_x23=>k_is)
  (case l_x23=>k_is)
  (case c_x23=>k_is)
  (case k_x23=>k_is)
  (case a_x19=>k_is)
  (case l_x19=>k_is)
  (case c_x19=>k_is)
  (case k_x19=>k_is)
  (case a_x3=>k_is)
  (case l_x3=>k_is)
  (case c_x3=>k_is)
  (case k_x3=>k_is)
  (case a_x28=>k_is)
  (case l_x28=>k_is)
  (case c_x28=>k_is)
  (case k_x28=>k_is)
  (case a_x0=>k_is)
  (case l_x0=>k_is)
  (case c_x0=>k_is)
  (case k_x0=>k_is)
  (case a_x31=>k_is)
  (case l_x31=>k_is)
  (case c_x31=>k_is)
  (case k_x31=>k_is)
  (case a_x32=>k_is)
  (case l_x32=>k_is)
  (case c_x32=>k_is)
  (case k_x32=>k_is)
  (case a_x15=>k_is)
  (case l_x15=>k_is)
  (case c_x15=>k_is)
  (case k_x15=>k_is)
  (case a_x20=>k_is)
  (case l_x20=>k_is)
  (case c_x20=>k_is)
  (case k_x20=>k_is)
  (case a_x16=>k_is)
  (case l_x16=>k_is)
  (case c_x16=>k_is)
  (case k_x16=>k_is)
  (case a_x10=>k_is)
  (case l_x10=>k_is)
  (case c_x10=>k_is)
  (case k_x10=>k_is)
  (case a_x11=>k_is)
  (case l_x11=>k_is)
  (case c_x11=>k_is)
  (case k_x11=>k_is)
  (case a_x29=>k_is)
  (case l_x29=>k_is)
  (case c_x29=>k_is)
  (case k_x29=>k_is)
  (case a_x24=>k_is)
  (case l_x24=>k_is)
  (case c_x24=>k_is)
  (case k_x24=>k_is)
  (case a_x25=>k_is)
  (case l_x25=>k_is)
  (case c_x25=>k_is)
  (case k_x25=>k_is)
  (case a_x26=>k_is)
  (case l_x26=>k_is)
  (case c_x26=>k_is)
  (case k_x26=>k_is)
  (case a_x7=>k_is)
  (case l_x7=>k_is)
  (case c_x7=>k_is)
  (case k_x7=>k_is)
  (case a_x12=>k_is)
  (case l_x12=>k_is)
  (case c_x12=>k_is)
  (case k_x12=>k_is)
  (case a_x27=>k_is)
  (case l_x27=>k_is)
  (case c_x27=>k_is)
  (case k_x27=>k_is)
  (case a_x17=>k_is)
  (case l_x17=>k_is)
  (case c_x17=>k_is)
  (case k_x17=>k_is)
  (case a_x13=>k_is)
  (case l_x13=>k_is)
  (case c_x13=>k_is)
  (case k_x13=>k_is)
  (case a_x1=>k_is)
  (case l_x1=>k_is)
  (case c_x1=>k_is)
  (case k_x1=>k_is)
  (case a_x4=>k_is)
  (case l_x4=>k_is)
  (case c_x4=>k_is)
  (case k_x4=>k_is)
  (case a_law=>k_is)
  (case l_law=>k_is)
  (case c_law=>k_is)
  (case k_law=>k_is)
  (case y_MOST_STANDINGS=>k_is)
  (case z_len=>k_is)
  (case z_max=>k_is)
  (case z_tuple=>k_is)
  (case z_range=>k_is)
  (case z_min=>k_is)
  (case z_sorted=>k_is)
  (case z_dict=>k_is)
  (case z_ValueError=>k_is)
  (case z_isinstance=>k_is)
  (case z_list=>k_is)
  (case z_bool=>k_is)
  (case z_int=>k_is)
  (case ac_TooMany=>k_is)
  (case ac_NoHall=>k_is)
  (case ac_NoListener=>k_is)
  (case ac_NoLoss=>k_is)
  (case ac_NoWheel=>k_is)
  (case ac_NoChain=>k_is)
  (case ac_TooMuch=>k_is)
  (case ac_NoPart=>k_is)
  (case ac_Unsafe=>k_is)
  (case ac_NoRow=>k_is)
  (case ac_NoStand=>k_is)
  (case ac_RoundError=>k_is)
  (case e_TooMany=>k_exc)
  (case b_NoHall=>k_is)
  (case s_TooMany_NoHall=>k_is)
  (case b_NoListener=>k_is)
  (case s_TooMany_NoListener=>k_is)
  (case b_NoLoss=>k_is)
  (case s_TooMany_NoLoss=>k_is)
  (case b_NoWheel=>k_is)
  (case s_TooMany_NoWheel=>k_is)
  (case b_NoChain=>k_is)
  (case s_TooMany_NoChain=>k_is)
  (case b_TooMuch=>k_is)
  (case s_TooMany_TooMuch=>k_is)
  (case b_NoPart=>k_is)
  (case s_TooMany_NoPart=>k_is)
  (case b_Unsafe=>k_is)
  (case s_TooMany_Unsafe=>k_is)
  (case b_NoRow=>k_is)
  (case s_TooMany_NoRow=>k_is)
  (case b_NoStand=>k_is)
  (case s_TooMany_NoStand=>k_is)
  (case i_TooMany_RoundError=>kit_is)
  (case i_TooMany_ValueError=>kit_is)
