import PyProof.Rows.All
import Wide.All
import OpenK.AllK
import Wide.FinOn
import Lean
import PyProof.EqAt
import PyProof.EqKinds
import PyProof.TupleCall
import PySem.Challenge.RW_roundcall_k39_too_many_for_papers
/-! THE HAND LAYER, for ints, bools, texts, own classes, LISTS and tuples (index, slices, in, append, pop ..), calls, loops. Paste it whole ahead of your own text; what your proof does not reach may be deleted. -/
set_option Elab.async false
set_option linter.all false
set_option maxRecDepth 100000
set_option maxHeartbeats 4000000
set_option bootstrap.genMatcherCode false
namespace L2
local macro_rules | `(tactic| omega) => `(tactic| lia)
open PySem PySem.Spec PyProof.Rows
abbrev Ct:=Sum Int Str
def Ha:Ct -> Value -> Bool
 | .inl k,v=>Value.isInt k v
 | .inr x,v=>Value.isStrOf x v
def n8 (w:World):Ct -> Int
 | .inl k=>hashInt k
 | .inr x=>hashStr w x
theorem Bu:∀ {k:Ct} {v:Value},Ha k v = true -> (∃ i t,k = Sum.inl i /\ v = Value.int i t) \/ (∃ x t,k = Sum.inr x /\ v = Value.str x t)
 | .inl i,v,h=>by
  obtain ⟨t,e⟩ := Value.isInt_shape (k:=i) (v:=v) h
  exact .inl ⟨i,t,rfl,e⟩
 | .inr x,v,h=>by
  obtain ⟨t,e⟩ := Value.isStrOf_shape (x:=x) (v:=v) h
  exact .inr ⟨x,t,rfl,e⟩
theorem Ub (i:Int) (t:Tok):Ha (.inl i) (.int i t) = true:=by simp [Ha,Value.isInt]
theorem Ty (x:Str) (t:Tok):Ha (.inr x) (.str x t) = true:=by simp [Ha,Value.isStrOf]
theorem bv (a b:Int):decide ((Sum.inl a:Ct) = Sum.inl b) = (a == b):=by
 by_cases e:a = b
 ·subst e; simp
 ·have h:¬ (Sum.inl a:Ct) = Sum.inl b:=fun q=>e (Sum.inl.inj q)
  rw [decide_eq_false h]
  exact (beq_eq_false_iff_ne.mpr e).symm
theorem ai (a b:Str):decide ((Sum.inr a:Ct) = Sum.inr b) = decide (a = b):=by
 by_cases e:a = b
 ·subst e; simp
 ·have h:¬ (Sum.inr a:Ct) = Sum.inr b:=fun q=>e (Sum.inr.inj q)
  rw [decide_eq_false h,decide_eq_false e]
theorem bq (a:Int) (b:Str):decide ((Sum.inl a:Ct) = Sum.inr b) = false:=decide_eq_false (fun q=>nomatch q)
theorem cy (a:Str) (b:Int):decide ((Sum.inr a:Ct) = Sum.inl b) = false:=decide_eq_false (fun q=>nomatch q)
def Cp (prog:Program) (w:World):PySem.KeyKind prog w Ct where
 is:=Ha
 hash:=n8 w
 inj:=fun v a b ha hb=>by
  rcases Bu ha with ⟨i,t,rfl,rfl⟩ | ⟨x,t,rfl,rfl⟩
  ·rcases Bu hb with ⟨j,u,rfl,e⟩ | ⟨y,u,rfl,e⟩
   ·injection e with e1 _; rw [e1]
   ·exact nomatch e
  ·rcases Bu hb with ⟨j,u,rfl,e⟩ | ⟨y,u,rfl,e⟩
   ·exact nomatch e
   ·injection e with e1 _; rw [e1]
 byValue:=fun k v h=>by
  rcases Bu h with ⟨i,t,rfl,rfl⟩ | ⟨x,t,rfl,rfl⟩ <;> rfl
 pyHash:=fun hv h=>by
  rcases Bu hv with ⟨i,t,rfl,rfl⟩ | ⟨x,t,rfl,rfl⟩
  ·exact wpAny_pyHash_int h
  ·exact wpAny_pyHash_str h
 eqBool:=fun hu hv h=>by
  rcases Bu hu with ⟨i,t,rfl,rfl⟩ | ⟨x,t,rfl,rfl⟩
  ·rcases Bu hv with ⟨j,u,rfl,rfl⟩ | ⟨y,u,rfl,rfl⟩
   ·rw [bv] at h; exact wpAny_eqBool_int h
   ·rw [bq] at h; exact SeqAt.EqAt.int_str i t y u _ _ _ _ h
  ·rcases Bu hv with ⟨j,u,rfl,rfl⟩ | ⟨y,u,rfl,rfl⟩
   ·rw [cy] at h; exact SeqAt.EqAt.str_int x t j u _ _ _ _ h
   ·rw [ai] at h; exact wpAny_eqBool_str h
 «strs» := fun k x t v h=>by
  rcases Bu h with ⟨i,u,rfl,e⟩ | ⟨y,u,rfl,e⟩
  ·exact nomatch e
  ·injection e with e1 _
   subst e1
   cases v <;> rfl
theorem P1 (prog:Program) (w:World) (i:Int) (t:Tok):(Cp prog w).is (.inl i) (.int i t) = true:=Ub i t
theorem Pq (prog:Program) (w:World) (x:Str) (t:Tok):(Cp prog w).is (.inr x) (.str x t) = true:=Ty x t
inductive V where
 | aW | bl (b:Bool) | int (i:Int) | str (x:Str) | lB (b:Array UInt8) | zp (b:UInt64) | ref (a:Addr) | ty (n:String)
 deriving DecidableEq
def Ao:V -> Value -> Prop
 | .aW,u=>u = Value.none
 | .bl b,u=>u = Value.bool b
 | .int i,u=>∃ t,u = Value.int i t
 | .str x,u=>∃ t,u = Value.str x t
 | .lB b,u=>∃ t,u = Value.bytes b t
 | .zp b,u=>∃ t,u = Value.float b t
 | .ref a,u=>u = Value.ref a
 | .ty n,u=>u = Value.type n
abbrev An:List V -> List Value -> Prop:=Paired Ao
theorem An.length {xs:List V} {us:List Value} (r:An xs us):xs.length = us.length:=Paired.length r
theorem An.get:∀ {xs:List V} {us:List Value} {i:Nat} {x:V},An xs us -> xs[i]? = some x -> ∃ u,us[i]? = some u /\ Ao x u
 | _,_,_,_,.nil,e=>by simp at e
 | _,_,0,_,.cons r _,e=>by simp at e; subst e; exact ⟨_,rfl,r⟩
 | _,_,i + 1,x,.cons _ t,e=>by
  obtain ⟨u,h1,h2⟩ := An.get (i:=i) (x:=x) t (by simpa using e)
  exact ⟨u,by simpa using h1,h2⟩
theorem An.set {x:V} {u:Value} (r:Ao x u):∀ {xs:List V} {us:List Value} (i:Nat),An xs us -> An (xs.set i x) (us.set i u)
 | _,_,_,.nil=>.nil
 | _,_,0,.cons _ t=>.cons r t
 | _,_,i + 1,.cons q t=>.cons q (An.set r i t)
theorem An.append {xs ys:List V} {us ws:List Value} (h:An xs us) (s:An ys ws):An (xs ++ ys) (us ++ ws):=by
 induction h with
 | nil=>exact s
 | cons r t ih=>exact .cons r ih
theorem An.take:∀ {xs:List V} {us:List Value} (n:Nat),An xs us -> An (xs.take n) (us.take n)
 | _,_,0,_=>.nil
 | _,_,_ + 1,.nil=>.nil
 | _,_,n + 1,.cons r t=>.cons r (An.take n t)
theorem An.drop:∀ {xs:List V} {us:List Value} (n:Nat),An xs us -> An (xs.drop n) (us.drop n)
 | _,_,0,r=>r
 | _,_,_ + 1,.nil=>.nil
 | _,_,n + 1,.cons _ t=>An.drop n t
def Ir:Option V -> Option Value -> Prop
 | some v,some u=>Ao v u
 | none,none=>True
 | _,_=>False
def KV {κ:Type}:List (κ × V) -> List (κ × Value) -> Prop:=Paired fun (p:κ × V) (q:κ × Value)=>p.1 = q.1 /\ Ao p.2 q.2
def kV:Ct -> V
 | .inl i=>.int i
 | .inr x=>.str x
section
variable {prog:Program} {w:World}
def Bk (prog:Program) (w:World) (h:Heap) (k:List Int × Int) (a:Addr):Prop :=
 ∃ o n u t,h.get? a = some o /\ o.cls = .type "tuple" /\ o.data = .seq #[.ref u,.int k.2 t] n /\ IsTupleKey (intKind prog w) h k.1 u
theorem Bk.typeIs {s:Shared} {k:List Int × Int} {a:Addr} (x:Bk prog w s.heap k a):s.TypeIs (.ref a) "tuple" := let ⟨o,_,_,_,ho,hc,_⟩ := x; ⟨o,ho,hc⟩
theorem Bk.inj {h:Heap} {a:Addr} {x y:List Int × Int} (hx:Bk prog w h x a) (hy:Bk prog w h y a):x = y:=by
 obtain ⟨o,n,u,t,ho,_,hd,hi⟩ := hx
 obtain ⟨o',n',u',t',lC,_,oP,qQ⟩ := hy
 obtain rfl:o = o':=Option.some.inj (ho.symm.trans lC)
 rw [hd] at oP
 injection oP with h1 _
 simp only [Array.mk.injEq,List.cons.injEq,Value.ref.injEq,Value.int.injEq,and_true] at h1
 obtain ⟨rfl,h2,_⟩ := h1
 exact Prod.ext (hi.inj qQ) h2
theorem Bk.keeps {h h':Heap} {k:List Int × Int} {a d:Addr} {o:Obj} {es ep} (x:Bk prog w h k a) (ho:h.get? d = some o) (hd:o.data = .dict es ep) (hs:Heap.SameBut d h h'):Bk prog w h' k a:=by
 obtain ⟨o',n,u,t,lC,hc,oP,hi⟩ := x
 have dX:a ≠ d:=by
  rintro rfl
  obtain rfl:o' = o:=Option.some.inj (lC.symm.trans ho)
  rw [hd] at oP
  exact nomatch oP
 exact ⟨o',n,u,t,(hs.2 a dX).trans lC,hc,oP,hi.keeps ho hd hs⟩
def Ft (prog:Program) (w:World) (k:List Int × Int):Int:=reduceHash (Builtin.Tuple.tupleHashOf [tupleKeyHash (intKind prog w) k.1,(intKind prog w).hash k.2])
theorem Rf {A : Around} {E : Value -> Shared -> Prop} {s : Shared} {k : List Int × Int} {a : Addr} {Q : Int -> Shared -> Prop} (hu : A.units + 8 < cLine) (hk : Bk prog w s.heap k a) (h : Q (Ft prog w k) { s with toks := s.toks + (k.1.length + 3) }) :
  wpAny (model prog w) A (pyHash (.ref a)) Q E s:=by
 have hT:=hk.typeIs
 obtain ⟨o,n,u,t,ho,_,hd,hi⟩ := hk
 unfold pyHash
 first | unfold pyHashByItsType | skip
 first | refine wpAny_bind (wpAny_cRoomFor_or (.inr (by omega)) ?_) | skip
 refine wpAny_bind (wpAny_specialOf hT F.slot_tuple_hash.lookup ?_)
 show wpAny _ _ (if (some (Value.builtin "tuple.__hash__") == some Value.none) = true then _ else _) Q E s
 rw [if_neg (by rw [beq_builtin_none]; exact Bool.false_ne_true)]
 refine wpAny_bind (wpAny_specialOf hT F.slot_tuple_hash.lookup ?_)
 show wpAny _ _ (callSpecialIfBoundUnlessNone? (.ref a) "__hash__" _ >>= _) Q E s
 refine wpAny_bind (wpAny_callSpecialIfBoundUnlessNone?_slot hT F.slot_tuple_hash (wpAny_call_entry F.slot_tuple_hash hT F.entry_tuple_hash ?_ (F.args_tuple_hash_1 _)))
 show wpAny _ _ (Builtin.Tuple.tupleItemsOf (.ref a) >>= _) _ _ s
 refine wpAny_bind (wpAny_tupleItemsOf ho hd ?_)
 refine wpAny_bind ?_
 rw [<- Array.forIn_toList]
 show wpAny _ _ (forIn [Value.ref u,Value.int k.2 t] _ _) _ _ _
 rw [List.forIn_cons]
 have tZ:A.in1.units < cLine:=by
  first | (show A.units + 1 < cLine; omega) | (show A.units < cLine; omega) | (simp only [Around.in1]; omega)
 refine wpAny_bind (wpAny_bind (wpAny_pyHash_tuple (knd:=intKind prog w) tZ hi ?_))
 refine wpAny_pure ?_
 show wpAny _ _ (forIn [Value.int k.2 t] _ _) _ _ _
 rw [List.forIn_cons]
 refine wpAny_bind (wpAny_bind ((intKind prog w).pyHash (k:=k.2) (by simp [intKind,Value.isInt]) ?_))
 refine wpAny_pure ?_
 show wpAny _ _ (forIn [] _ _) _ _ _
 rw [List.forIn_nil]
 refine wpAny_pure ?_
 show wpAny _ _ (retInt (Builtin.Tuple.tupleHashOf [tupleKeyHash (intKind prog w) k.1,(intKind prog w).hash k.2])) _ _ _
 refine wpAny_ret_mkInt ?_
 generalize e:Builtin.Tuple.tupleHashOf [tupleKeyHash (intKind prog w) k.1,(intKind prog w).hash k.2] = z
 show wpAny _ _ (if (decide (-(2:Int) ^ 63 <= z) && decide (z < 2 ^ 63)) = true then _ else _) Q E _
 unfold Ft reduceHash at h
 rw [e] at h
 by_cases hr:(decide (-(2:Int) ^ 63 <= z) && decide (z < 2 ^ 63)) = true
 ·rw [if_pos hr]
  rw [if_pos hr] at h
  exact wpAny_pure (by simpa [Nat.add_assoc] using h)
 ·rw [if_neg hr]
  rw [if_neg hr] at h
  exact wpAny_bind (wpAny_rule (wpAny_pure (by simpa [Nat.add_assoc] using h)))
theorem Wx {A : Around} {E : Value -> Shared -> Prop} {s : Shared} {x y : List Int × Int} {a b : Addr} {Q : Bool -> Shared -> Prop} (hu : A.units + 8 < cLine) (hx : Bk prog w s.heap x a) (hy : Bk prog w s.heap y b) (h : Q (decide (x = y)) s) :
  wpAny (model prog w) A (eqBool (.ref a) (.ref b)) Q E s:=by
 unfold eqBool
 try with_reducible refine wpAny_holding ?_
 show wpAny _ _ (if (Value.ref a == Value.ref b) = true then _ else _) Q E s
 by_cases zq:(Value.ref a == Value.ref b) = true
 ·rw [if_pos zq]
  have e:a = b:=by have:=eq_of_beq zq; injection this
  subst e
  obtain rfl:=hx.inj hy
  exact wpAny_bind (wpAny_rule (wpAny_pure (by simpa using h)))
 ·rw [if_neg zq]
  refine wpAny_bind (wpAny_richCompare_same_room (op := .Eq) hx.typeIs hy.typeIs F.slot_tuple_eq
   (wpAny_call_entry F.slot_tuple_eq hx.typeIs F.entry_tuple_eq ?_ (F.args_tuple_eq_2 _ _)) (by omega))
  have hTb:=hy.typeIs
  obtain ⟨oa,na,ua,ta,hoa,_,hda,hia⟩ := hx
  obtain ⟨ob,nb,ub,tb,hob,_,kA,hib⟩ := hy
  show wpAny _ _ (isInstance (.ref b) (.type "tuple") >>= _) _ _ s
  refine wpAny_bind (wpAny_isInstance hTb isSubtype_tuple_tuple ?_)
  simp only [Bool.not_true,Bool.false_eq_true,if_false]
  refine wpAny_bind (wpAny_tupleItemsOf hoa hda ?_)
  refine wpAny_bind (wpAny_tupleItemsOf hob kA ?_)
  refine wpAny_bind ?_
  show wpAny _ _ (forIn [(Value.ref ua,Value.ref ub),(Value.int x.2 ta,Value.int y.2 tb)] _ _) _ _ _
  rw [List.forIn_cons]
  have tZ:A.in1.units < cLine:=by
   first | (show A.units + 1 < cLine; omega) | (show A.units < cLine; omega) | (simp only [Around.in1]; omega)
  refine wpAny_bind (wpAny_bind (wpAny_eqBool_tuple (knd:=intKind prog w) tZ hia hib ?_))
  by_cases h1:x.1 = y.1
  ·rw [decide_eq_true h1]
   simp only [Bool.not_true,Bool.false_eq_true,if_false]
   refine wpAny_pure ?_
   show wpAny _ _ (forIn [(Value.int x.2 ta,Value.int y.2 tb)] _ _) _ _ _
   rw [List.forIn_cons]
   refine wpAny_bind (wpAny_bind ((intKind prog w).eqBool (a:=x.2) (b:=y.2) (by simp [intKind,Value.isInt]) (by simp [intKind,Value.isInt]) ?_))
   by_cases h2:x.2 = y.2
   ·rw [decide_eq_true h2]
    simp only [Bool.not_true,Bool.false_eq_true,if_false]
    refine wpAny_pure ?_
    show wpAny _ _ (forIn [] _ _) _ _ _
    rw [List.forIn_nil]
    refine wpAny_pure ?_
    have e:decide (x = y) = true:=decide_eq_true (Prod.ext h1 h2)
    rw [e] at h
    exact wpAny_pure ⟨_,rfl,(fun e=>nomatch e),wpAny_truthy_bool h⟩
   ·rw [decide_eq_false h2]
    simp only [Bool.not_false,if_true]
    have e:decide (x = y) = false:=decide_eq_false fun z=>h2 (by rw [z])
    rw [e] at h
    exact wpAny_bind (wpAny_pure (wpAny_pure (wpAny_pure (wpAny_pure ⟨_,rfl,(fun e=>nomatch e),wpAny_truthy_bool h⟩))))
  ·rw [decide_eq_false h1]
   simp only [Bool.not_false,if_true]
   have e:decide (x = y) = false:=decide_eq_false fun z=>h1 (by rw [z])
   rw [e] at h
   exact wpAny_bind (wpAny_pure (wpAny_pure (wpAny_pure (wpAny_pure ⟨_,rfl,(fun e=>nomatch e),wpAny_truthy_bool h⟩))))
theorem dz {A:Around} {E:Value -> Shared -> Prop} {s:Shared} {ks:List Int} {a:Addr} {Q:Bool -> Shared -> Prop} (hk:IsTupleKey (intKind prog w) s.heap ks a) (h:Q true s):wpAny (model prog w) A (eqIsQuiet 7 (.ref a)) Q E s:=by
 have hT:=hk.typeIs
 obtain ⟨o,items,n,ho,_,hd,hi⟩ := hk
 unfold eqIsQuiet
 refine wpAny_bind (wpAny_specialOf hT F.slot_tuple_eq.lookup ?_)
 show wpAny _ _ (isInstance (.ref a) (.type "tuple") >>= _) _ _ s
 refine wpAny_bind (wpAny_isInstance hT isSubtype_tuple_tuple ?_)
 simp only [Bool.not_true,Bool.false_eq_true,if_false]
 refine wpAny_bind (wpAny_seqItems ho hd ?_)
 refine wpAny_bind ?_
 show wpAny _ _ (forIn items _ _) _ _ s
 rw [<- Array.forIn_toList]
 refine wpAny_forIn_list _ (fun rest r s'=>r.1 = none /\ s' = s /\ ∀ v ∈ rest,carriedByValue v = true) _ ?_ ?_ _ _ ⟨rfl,rfl,hi.byValue⟩
 ·rintro v rest r s' ⟨hr,rfl,hall⟩
  rw [eqIsQuiet_byValue _ (hall v List.mem_cons_self)]
  refine wpAny_bind (wpAny_pure ?_)
  simp only [Bool.not_true,Bool.false_eq_true,if_false]
  exact wpAny_pure ⟨rfl,rfl,fun u HY=>hall u (List.mem_cons_of_mem _ HY)⟩
 ·rintro ⟨r1,r2⟩ s' ⟨hr,rfl,_⟩
  simp only at hr
  subst hr
  exact wpAny_pure h
theorem Q5 {A:Around} {E:Value -> Shared -> Prop} {s:Shared} {k:List Int × Int} {a:Addr} {Q:Bool -> Shared -> Prop} (hk:Bk prog w s.heap k a) (h:Q true s):wpAny (model prog w) A (eqIsQuiet 8 (.ref a)) Q E s:=by
 have hT:=hk.typeIs
 obtain ⟨o,n,u,t,ho,_,hd,hi⟩ := hk
 unfold eqIsQuiet
 refine wpAny_bind (wpAny_specialOf hT F.slot_tuple_eq.lookup ?_)
 show wpAny _ _ (isInstance (.ref a) (.type "tuple") >>= _) _ _ s
 refine wpAny_bind (wpAny_isInstance hT isSubtype_tuple_tuple ?_)
 simp only [Bool.not_true,Bool.false_eq_true,if_false]
 refine wpAny_bind (wpAny_seqItems ho hd ?_)
 refine wpAny_bind ?_
 show wpAny _ _ (forIn #[Value.ref u,Value.int k.2 t] _ _) _ _ s
 rw [<- Array.forIn_toList]
 show wpAny _ _ (forIn [Value.ref u,Value.int k.2 t] _ _) _ _ s
 rw [List.forIn_cons]
 refine wpAny_bind (wpAny_bind (dz hi ?_))
 simp only [Bool.not_true,Bool.false_eq_true,if_false]
 refine wpAny_pure ?_
 show wpAny _ _ (forIn [Value.int k.2 t] _ _) _ _ s
 rw [List.forIn_cons,eqIsQuiet_byValue _ rfl]
 refine wpAny_bind (wpAny_bind (wpAny_pure ?_))
 simp only [Bool.not_true,Bool.false_eq_true,if_false]
 refine wpAny_pure ?_
 show wpAny _ _ (forIn [] _ _) _ _ s
 rw [List.forIn_nil]
 exact wpAny_pure (wpAny_pure h)
def C7 (prog:Program) (w:World):HeapKind prog w (List Int × Int) where
 is:=Bk prog w
 hash:=Ft prog w
 draws:=fun k=>k.1.length + 3
 room:=fun A=>A.units + 8 < cLine
 inj:=fun hx hy=>hx.inj hy
 keeps:=fun x ho hd hs=>x.keeps ho hd hs
 pyHash:=fun hu hk h=>Rf hu hk h
 eqBool:=fun hu hx hy h=>Wx hu hx hy h
 quiet:=fun hk h=>Q5 hk h
end
set_option genInjectivity false in
set_option genSizeOf false in
inductive HO where
  | lst (xs:List V)
  | tup (xs:List V)
  | dK (kvs:List (Ct × V)) | dT (kvs:List ((List Int × Int) × V))
  | set (S:Int -> Bool) (n:Nat)
  | ins (C dx:Addr) (fs:List (Str × V))
  | own (x:Addr)
  | xd (fs:List (Str × V))
  | met (f x:Addr)
  | GB (lo hi:Int)
  | bK (o:Obj) (u:HO)
  | oQ (ps:Array Value)
  | ext (φ:Heap -> Prop)
abbrev Hp:=Addr -> Option HO
def F4 (H:Hp) (b:Addr) (k:List Int × Int):Prop := ∃ u,H b = some (.tup [.ref u,.int k.2]) /\ H u = some (.tup (k.1.map V.int))
theorem F4.up {H H2:Hp} {b:Addr} {k:List Int × Int} (ht:∀ b xs,H b = some (.tup xs) -> H2 b = some (.tup xs)) (h:F4 H b k):F4 H2 b k:=let ⟨u,a1,a2⟩ := h; ⟨u,ht _ _ a1,ht _ _ a2⟩
def upd (H:Hp) (a:Addr) (o:HO):Hp:=fun b=>if b = a then some o else H b
theorem A5 {H:Hp} {a:Addr} {o:HO}:upd H a o a = some o:=by unfold upd; rw [if_pos rfl]
theorem Aa {H:Hp} {a b:Addr} {o:HO} (h:b ≠ a):upd H a o b = H b:=by unfold upd; rw [if_neg h]
theorem Bh {H:Hp} {a b:Addr} {o u:HO} (h:H a = some o) (h':H b = some u) (d:o ≠ u):a ≠ b:=by
 intro e; subst e; rw [h] at h'; exact d (Option.some.inj h')
theorem Aj {H:Hp} {a b:Addr} {o:HO} (h:H a = some o) (h':H b = none):a ≠ b:=by
 intro e; subst e; rw [h] at h'; cases h'
section
variable (P:Program) (w:World)
def Bg (H:Hp) (h:Heap) (a:Addr):HO -> Prop
 | .lst xs=>xs.length <= sizeLine /\ ∃ (aH:List Value) (n:Nat),An xs aH /\ h.get? a = some { cls := .type "list",data := .seq aH.toArray n }
 | .tup xs=>(xs.length <= sizeLine /\ ∃ o,h.get? a = some o /\ o.dict = none) /\ ∃ aH:List Value,An xs aH /\ IsTup h a aH.toArray
 | .dK kvs=>kvs.length <= sizeLine /\ (a == sysModules) = false /\ ∃ vs,KV kvs vs /\ h.DictOf (Cp P w) a vs
 | .dT kvs => kvs.length <= sizeLine /\ (a == sysModules) = false /\ ∃ xs : List ((List Int × Int) × Addr × Value),
   Paired (fun (p:(List Int × Int) × V) (q:(List Int × Int) × Addr × Value)=>p.1 = q.1 /\ F4 H q.2.1 p.1 /\ Ao p.2 q.2.2) kvs xs /\
   ∃ o es ep,h.get? a = some o /\ o.ExactDict /\ o.data = .dict es ep /\ es.toList = xs.map (entryOfKey (C7 P w)) /\ (xs.map (·.1)).Nodup
 | .set S n=>h.SetOf (intKind P w) a S n
 | .ins C dx fs => H dx = some (.own a) /\ fs.length <= 1000 /\ dx ≠ a /\ h.get? a = some (PySem.W.instObj C dx) /\
   ∃ mA,h.Ns1 dx mA /\ (∀ f,Ir (fs.lookup f) (mA f)) /\ PySem.Within mA (fs.map (·.1))
 | .own _=>∃ o,h.get? a = some o
 | .xd fs=>∃ mA,h.Ns1 a mA /\ ∀ f,Ir (fs.lookup f) (mA f)
 | .GB lo hi=>∃ t u v,h.get? a = some { cls := .type "range",data := .fields #[.int lo t,.int hi u,.int 1 v] }
 | .bK o u=>h.get? a = some o /\ Bg H h a u
 | .oQ ps=>h.get? a = some { cls := .none,data := .fields ps }
 | .met f x=>h.get? a = some (PySem.W.methodObj (.ref f) (.ref x))
 | .ext φ=>φ h /\ (∃ o,h.get? a = some o) /\ ∀ h1 h2:Heap,φ h1 -> (∀ o,h1.get? a = some o -> h2.get? a = some o) -> φ h2
def Fe (H:Hp) (h:Heap):Prop := ∀ a o,H a = some o -> Bg P w H h a o
end
section
variable {P:Program} {w:World} {H H':Hp} {h h':Heap} {a:Addr} {o:HO}
theorem Bg.lt (x:Bg P w H h a o):a < h.objs.size:=by
 cases o with
 | lst xs=>obtain ⟨_,_,_,_,e⟩ := x; exact Heap.lt_size e
 | tup xs=>obtain ⟨_,_,_,p⟩ := x; exact p.lt
 | dK kvs=>obtain ⟨_,_,_,_,o,_,_,e,_⟩ := x; exact Heap.lt_size e
 | dT kvs=>obtain ⟨_,_,_,_,o,_,_,e,_⟩ := x; exact Heap.lt_size e
 | set S n=>obtain ⟨o,_,_,_,e,_⟩ := x; exact Heap.lt_size e
 | ins C dx fs=>obtain ⟨_,_,_,e,_⟩ := x; exact Heap.lt_size e
 | own y=>obtain ⟨_,e⟩ := x; exact Heap.lt_size e
 | xd fs=>obtain ⟨_,⟨_,_,_,e,_⟩,_⟩ := x; exact Heap.lt_size e
 | GB lo hi=>obtain ⟨_,_,_,e⟩ := x; exact Heap.lt_size e
 | bK ob u=>obtain ⟨e,_⟩ := x; exact Heap.lt_size e
 | oQ ps=>exact Heap.lt_size (show h.get? a = some _ from x)
 | met f y=>exact Heap.lt_size (show h.get? a = some _ from x)
 | ext φ=>obtain ⟨_,⟨_,e⟩,_⟩ := x; exact Heap.lt_size e
theorem Paired.zr {α β:Type} {F G:α -> β -> Prop} {l₁:List α} {l₂:List β} (h:Paired F l₁ l₂) (f:∀ a b,F a b -> G a b):Paired G l₁ l₂:=by
 induction h with
 | nil=>exact .nil
 | cons r t ih=>exact .cons (f _ _ r) ih
theorem Bg.cZ (x : Bg P w H h a o) (k : ∀ b u, (b = a \/ H b = some (.own a)) -> h.get? b = some u -> h'.get? b = some u)
  (ho:∀ b,H b = some (.own a) -> H' b = some (.own a)) (ht:∀ b xs,H b = some (.tup xs) -> H' b = some (.tup xs)):Bg P w H' h' a o:=by
 induction o with
 | lst xs=>obtain ⟨z,aH,n,r,e⟩ := x; exact ⟨z,aH,n,r,k _ _ (.inl rfl) e⟩
 | tup xs=>obtain ⟨z,aH,r,ob,e,c⟩ := x; exact ⟨⟨z.1,let ⟨o,e2,d⟩ := z.2; ⟨o,k _ _ (.inl rfl) e2,d⟩⟩,aH,r,ob,k _ _ (.inl rfl) e,c⟩
 | dK kvs=>obtain ⟨z,y,vs,r,ob,es,ep,e,c⟩ := x; exact ⟨z,y,vs,r,ob,es,ep,k _ _ (.inl rfl) e,c⟩
 | dT kvs =>
  obtain ⟨z,y,xs,r,ob,es,ep,e,c⟩ := x
  exact ⟨z,y,xs,Paired.zr r fun p q z=>⟨z.1,z.2.1.up ht,z.2.2⟩,ob,es,ep,k _ _ (.inl rfl) e,c⟩
 | set S n=>obtain ⟨ob,es,ep,t,e,c⟩ := x; exact ⟨ob,es,ep,t,k _ _ (.inl rfl) e,c⟩
 | ins C dx fs =>
  obtain ⟨d,z,ne,e,mA,⟨od,es,ep,e2,c⟩,r⟩ := x
  exact ⟨ho _ d,z,ne,k _ _ (.inl rfl) e,mA,⟨od,es,ep,k _ _ (.inr d) e2,c⟩,r⟩
 | own y=>obtain ⟨ob,e⟩ := x; exact ⟨ob,k _ _ (.inl rfl) e⟩
 | xd fs=>obtain ⟨mA,⟨od,es,ep,e,c⟩,r⟩ := x; exact ⟨mA,⟨od,es,ep,k _ _ (.inl rfl) e,c⟩,r⟩
 | GB lo hi=>obtain ⟨t,u,v,e⟩ := x; exact ⟨t,u,v,k _ _ (.inl rfl) e⟩
 | bK ob u ih=>obtain ⟨e,q⟩ := x; exact ⟨k _ _ (.inl rfl) e,ih q⟩
 | oQ ps =>
  have e:h.get? a = some { cls := .none,data := .fields ps }:=x
  show h'.get? a = some { cls := .none,data := .fields ps }
  exact k a _ (.inl rfl) e
 | met f y =>
  have e:h.get? a = some (PySem.W.methodObj (.ref f) (.ref y)):=x
  show h'.get? a = some (PySem.W.methodObj (.ref f) (.ref y))
  exact k a _ (.inl rfl) e
 | ext φ=>obtain ⟨p,⟨o,e⟩,st⟩ := x; exact ⟨st _ _ p fun o q=>k _ _ (.inl rfl) q,⟨o,k _ _ (.inl rfl) e⟩,st⟩
theorem Fe.lt (x:Fe P w H h) (e:H a = some o):a < h.objs.size:=(x a o e).lt
theorem Fe.fresh (x:Fe P w H h) (e:h.objs.size <= a):H a = none:=by
 cases q:H a with
 | none=>rfl
 | some u=>exact absurd (Nat.lt_of_lt_of_le (x.lt q) e) (Nat.lt_irrefl _)
theorem Fe.kept (x:Fe P w H h) (k:∀ b u,h.get? b = some u -> h'.get? b = some u):Fe P w H h':=fun a o e =>
 (x a o e).cZ (fun b u _ q=>k b u q) (fun _ q=>q) fun _ _ q=>q
theorem Fe.laid (x:Fe P w H h) (k:∀ b u,h.get? b = some u -> h'.get? b = some u) (hp:h.objs.size <= a) (new:Bg P w (upd H a o) h' a o):Fe P w (upd H a o) h':=fun b u e=>by
 have hn:=x.fresh hp
 by_cases hb:b = a
 ·subst hb; rw [A5] at e; cases e; exact new
 ·rw [Aa hb] at e
  exact (x b u e).cZ (fun c v _ q=>k c v q) (fun c q=>by rw [Aa (Aj q hn)]; exact q) fun c xs q=>by rw [Aa (Aj q hn)]; exact q
end
def Rd (H:Hp) (a:Addr) (u:HO):Prop:=H a = some u \/ ∃ o,H a = some (.bK o u)
theorem Rd.of {H:Hp} {a:Addr} {u:HO} (h:H a = some u):Rd H a u := .inl h
theorem Rd.ok {P:Program} {w:World} {H:Hp} {h:Heap} {a:Addr} {u:HO} (r:Rd H a u) (x:Fe P w H h):Bg P w H h a u:=by
 rcases r with r | ⟨o,r⟩
 ·exact x a u r
 ·obtain ⟨_,q⟩ := x a _ r
  exact q
def i7:Option HO -> Prop
 | some (.lst _)=>True
 | some (.dK _)=>True
 | some (.dT _)=>True
 | some (.set _ _)=>True
 | some (.ins _ _ _)=>True
 | some (.ext _)=>True
 | _=>False
section
variable {P:Program} {w:World} {H:Hp} {h h':Heap} {x e:Addr} {o':HO}
theorem Fe.write (ok : Fe P w H h) (mu : i7 (H x)) (he : e = x \/ H e = some (.own x)) (k : ∀ b u, b ≠ e -> h.get? b = some u -> h'.get? b = some u) (yX : ∃ u, h'.get? e = some u)
  (new:Bg P w (upd H x o') h' x o'):Fe P w (upd H x o') h':=fun b u q=>by
 have zt:∀ c y,H c = some (.own y) -> c ≠ x:=fun c y r z=>by subst z; rw [r] at mu; exact mu
 have HZ:∀ c xs,H c = some (.tup xs) -> c ≠ x:=fun c xs r z=>by subst z; rw [r] at mu; exact mu
 by_cases hb:b = x
 ·subst hb; rw [A5] at q; cases q; exact new
 ·rw [Aa hb] at q
  by_cases kB:b = e
  ·have q' : H b = some (.own x) := by
    rcases he with z | z
    ·exact absurd (kB.trans z) hb
    ·rw [kB]; exact z
   rw [q] at q'; cases q'
   obtain ⟨v,hv⟩ := yX
   exact ⟨v,by rw [kB]; exact hv⟩
  ·refine (ok b u q).cZ (fun c v hc r=>k c v ?_ r) (fun c r=>by rw [Aa (zt c b r)]; exact r) fun c xs r=>by rw [Aa (HZ c xs r)]; exact r
   rcases hc with rfl | hc
   ·exact kB
   ·rintro rfl
    rcases he with z | z
    ·exact zt c b hc z
    ·rw [hc] at z; cases z; exact hb rfl
end
structure Un (fs ex:List Addr) (H H':Hp) (h h':Heap):Prop where
 keep:∀ b o,h.get? b = some o -> H b = none -> b ∉ fs -> b ∉ ex -> h'.get? b = some o
 slot:∀ b o,h.get? b = some o -> H b = none -> b ∈ fs -> b ∉ ex -> ∃ sl,h'.get? b = some { o with slots:=sl }
 free:∀ b o,h.get? b = some o -> H b = none -> b ∉ ex -> H' b = none
 there:∀ b o,h.get? b = some o -> b ∉ ex -> ∃ o',h'.get? b = some o'
 cU:∀ b xs,H b = some (.tup xs) -> H' b = some (.tup xs)
 bU:∀ b o u,H b = some (.bK o u) -> H' b = some (.bK o u)
 cV:∀ b ps,H b = some (.oQ ps) -> ∃ more,H' b = some (.oQ (ps ++ more))
section
variable {fs uu ex ex':List Addr} {H H1 H2:Hp} {h h1 h2 h':Heap} {a x e:Addr} {o:HO}
theorem Un.any (u:Un fs ex H H1 h h1) {b:Addr} {ob:Obj} (q:h.get? b = some ob) (n:H b = none) (hx:b ∉ ex):∃ sl,h1.get? b = some { ob with slots:=sl }:=by
 by_cases hb:b ∈ fs
 ·exact u.slot b ob q n hb hx
 ·exact ⟨ob.slots,u.keep b ob q n hb hx⟩
theorem Un.trans (a:Un fs ex H H1 h h1) (b:Un fs ex H1 H2 h1 h2):Un fs ex H H2 h h2 where
 keep:=fun c ob q n hc hx=>b.keep c ob (a.keep c ob q n hc hx) (a.free c ob q n hx) hc hx
 slot:=fun c ob q n hc hx=>by
  obtain ⟨sl,e1⟩ := a.slot c ob q n hc hx
  obtain ⟨zu,e2⟩ := b.slot c _ e1 (a.free c ob q n hx) hc hx
  exact ⟨zu,e2⟩
 free:=fun c ob q n hx=>by
  obtain ⟨o',e1⟩ := a.there c ob q hx
  exact b.free c o' e1 (a.free c ob q n hx) hx
 there:=fun c ob q hx=>by
  obtain ⟨o',e1⟩ := a.there c ob q hx
  exact b.there c o' e1 hx
 cU:=fun c xs q=>b.cU c xs (a.cU c xs q)
 bU:=fun c ob xs q=>b.bU c ob xs (a.bU c ob xs q)
 cV:=fun c ps q=>by
  obtain ⟨m1,e1⟩ := a.cV c ps q
  obtain ⟨m2,e2⟩ := b.cV c _ e1
  exact ⟨m1 ++ m2,by rw [e2,Array.append_assoc]⟩
theorem Un.kept (k:∀ b u,h.get? b = some u -> h'.get? b = some u):Un fs ex H H h h' :=
 ⟨fun b ob q _ _ _=>k b ob q,fun b ob q _ _ _=>⟨ob.slots,k b ob q⟩,fun _ _ _ n _=>n,fun b ob q _=>⟨ob,k b ob q⟩,fun _ _ q=>q,fun _ _ _ q=>q,fun _ ps q=>⟨#[],by rw [q]; simp⟩⟩
theorem Un.refl:Un fs ex H H h h:=Un.kept fun _ _ q=>q
theorem Un.laid (k:∀ b u,h.get? b = some u -> h'.get? b = some u) (hp:h.objs.size <= a) (hn:H a = none):Un fs ex H (upd H a o) h h' where
 keep:=fun b u q _ _ _=>k b u q
 slot:=fun b u q _ _ _=>⟨u.slots,k b u q⟩
 free:=fun b u q n _=>by rw [Aa (Nat.ne_of_lt (Nat.lt_of_lt_of_le (Heap.lt_size q) hp))]; exact n
 there:=fun b u q _=>⟨u,k b u q⟩
 cU:=fun b xs q=>by rw [Aa (Aj q hn)]; exact q
 bU:=fun b u xs q=>by rw [Aa (Aj q hn)]; exact q
 cV:=fun b ps q=>⟨#[],by rw [Aa (Aj q hn),q]; simp⟩
theorem Un.write (mu:i7 (H x)) (he:e = x \/ H e = some (.own x)) (k:∀ b u,b ≠ e -> h.get? b = some u -> h'.get? b = some u) (yX:∃ u,h'.get? e = some u):Un fs ex H (upd H x o) h h':=by
 have hx:∀ b,H b = none -> b ≠ x:=fun b n z=>by subst z; rw [n] at mu; exact mu
 have hb:∀ b,H b = none -> b ≠ e:=fun b n z=>by
  subst z
  rcases he with r | r
  ·exact hx b n r
  ·rw [n] at r; cases r
 have hm:∀ b u,H b = some u -> ¬ i7 (some u) -> b ≠ x:=fun b u q nm z=>by subst z; rw [q] at mu; exact nm mu
 refine ⟨fun b u q n _ _=>k b u (hb b n) q,fun b u q n _ _=>⟨u.slots,k b u (hb b n) q⟩,fun b u q n _=>by rw [Aa (hx b n)]; exact n,fun b u q _=>?_,
  fun b xs q=>by rw [Aa (hm b _ q fun z=>z)]; exact q,fun b u xs q=>by rw [Aa (hm b _ q fun z=>z)]; exact q,fun b ps q=>⟨#[],by rw [Aa (hm b _ q fun z=>z),q]; simp⟩⟩
 by_cases kB:b = e
 ·subst kB; exact yX
 ·exact ⟨u,k b u kB q⟩
theorem Un.mono (u:Un fs ex H H1 h h1) (hs:∀ b ∈ fs,b ∈ uu) (hx:∀ b ∈ ex,b ∈ ex'):Un uu ex' H H1 h h1 :=
 ⟨fun b ob q n hb he=>u.keep b ob q n (fun z=>hb (hs b z)) fun z=>he (hx b z),fun _ _ q n _ he=>u.any q n fun z=>he (hx _ z),fun b ob q n he=>u.free b ob q n fun z=>he (hx b z),fun b ob q he=>u.there b ob q fun z=>he (hx b z),u.cU,u.bU,u.cV⟩
end
def jw (h:Heap) (H:Hp):List Addr:=(List.range h.objs.size).filter fun a=>(H a).isSome
def Nt (h:Heap) (H:Hp):Heap:=PySem.W.hideAll h (jw h H)
theorem Tq (h:Heap) (H:Hp):(Nt h H).objs.size = h.objs.size:=PySem.W.hideAll_size _ _
theorem Vh {h:Heap} {H:Hp} {b:Addr} {o:Obj} (e:h.get? b = some o) (n:H b = none):(Nt h H).get? b = some o :=
 PySem.W.hideAll_get _ e fun hm=>by
  have q:(H b).isSome = true:=(List.mem_filter.mp hm).2
  rw [n] at q; simp at q
theorem Z8 {h:Heap} {H:Hp} {b:Addr} {o:Obj} (e:(Nt h H).get? b = some o):h.get? b = some o /\ H b = none:=by
 have e':h.get? b = some o:=PySem.W.of_hideAll (jw h H) e
 refine ⟨e',?_⟩
 cases q:H b with
 | none=>rfl
 | some x =>
  have hm:b ∈ jw h H:=List.mem_filter.mpr ⟨List.mem_range.mpr (Heap.lt_size e'),by simp [q]⟩
  have z:(Nt h H).get? b = none:=PySem.W.hideAll_none (jw h H) hm
  rw [z] at e; cases e
def Y7 (g h:Heap) (L:Addr):List (Addr × Obj):=(List.range h.objs.size).filterMap fun a=>if a = L \/ (g.get? a).isSome = true then none else (h.get? a).map fun o=>(a,o)
def rest (g h:Heap) (L d:Addr):List (Addr × Obj):=(Y7 g h L).filter fun p=>decide (p.1 ≠ d)
structure Mod (K:PySem.W.Frag) (mg:Str -> Option Value) (base:Heap):Prop where
 hJ:K.In base
 glob:base.Ns mainGlobals mg
 blt:∃ mb,base.Ns builtinsNs mb /\ ∀ x:Str,x ≠ "__name__" -> mb x = bootBuiltins x
 nolimit:base.NoLimit
set_option genInjectivity false in
set_option genSizeOf false in
structure Cx where
 prog:Program
 w:World
 K:PySem.W.Frag
 mg:Str -> Option Value
 base:Heap
 A:Around
 N:List Str
 s₀:Shared
 H₀:Hp
 env:Env
 outer:List Env
 stack:List Env
 ex:List Addr
 fn:Str -> Bool
 calm:Bool
 pn:List (Addr × Obj)
 xe:Value -> Shared -> Prop
def dY (l:List Env):List Addr:=l.filterMap (·.frame)
abbrev Cx.fs (X:Cx):List Addr:=dY X.outer
def le (sc:Scope) (x:Str):Prop:=sc.names.lookup x = some .local \/ sc.names.lookup x = some .cell \/ sc.names.lookup x = some .free
def kd (sc:Scope) (x:Str):Prop:=sc.names.lookup x = some .local \/ sc.names.lookup x = some .cell
def ni (env:Env) (h:Heap) (m:Str -> Option Value) (x:Str) (u:Value):Prop :=
 (env.kindOf x = some .local /\ m x = some u) \/ ((env.kindOf x = some .cell \/ env.kindOf x = some .free) /\ ∃ c,env.cells.lookup x = some c /\ h.IsCell c (some u))
structure Cx.Ok (X:Cx):Prop where
 mod:Mod X.K X.mg X.base
 kind:X.env.scope.kind = .function
 glob:X.env.globals = mainGlobals
 blt:X.env.builtins = builtinsNs
 above:X.s₀.heap.objs.size <= X.env.locals
 inj:∀ x y c,X.env.cells.lookup x = some c -> X.env.cells.lookup y = some c -> x = y
 has:∀ x,(X.env.kindOf x = some .cell \/ X.env.kindOf x = some .free) -> ∃ c,X.env.cells.lookup x = some c
 uv:∀ x c,X.fn x = true -> X.env.cells.lookup x = some c -> X.s₀.heap.objs.size <= c
 hd:X.calm = true -> X.A.handled = none
 frames:X.A.frames = some X.stack
 yY:X.stack = X.outer \/ (X.stack = X.env :: X.outer /\ X.env.frame = some X.env.locals)
 zv:∀ b ∈ X.ex,b ≠ X.env.locals /\ ∀ x c,X.env.cells.lookup x = some c -> c ≠ b
 bs:∀ b o,X.base.get? b = some o -> X.s₀.heap.get? b = some o /\ X.H₀ b = none
 lD:X.base.objs.size <= X.s₀.heap.objs.size
 iR:∀ b o,X.base.get? b = some o -> b ∉ X.ex
 iT:∀ b ∈ X.ex,b ∉ X.fs
 dA:X.s₀.heap.FunFrames X.base X.outer
 pH:∀ b ∈ X.fs,X.H₀ b = none
structure Ae (X:Cx) (pins:List (Addr × Obj)) (σ:List (Option V)) (H:Hp) (s:Shared):Prop where
 ok:X.Ok
 os:s.os = X.s₀.os
 bare:AllBare s.gens
 base:Un X.fs X.ex X.H₀ H X.s₀.heap s.heap
 loc:∃ m,s.heap.Ns X.env.locals m /\ ∀ (i:Nat) (x:Str) (v:V),X.N[i]? = some x -> σ[i]? = some (some v) -> le X.env.scope x -> ∃ u,Ao v u /\ ni X.env s.heap m x u
 cell:∀ x c,X.env.cells.lookup x = some c -> ∃ v,s.heap.IsCell c v
 free:H X.env.locals = none
 bD:∀ x c,X.env.cells.lookup x = some c -> H c = none
 pin:∀ p ∈ X.pn ++ pins,s.heap.get? p.1 = some p.2 /\ H p.1 = none /\ p.1 ≠ X.env.locals /\ p.1 ∉ X.fs /\ ∀ v,p.2.data ≠ .cell v
 aR:Fe X.prog X.w H s.heap
 len:σ.length = X.N.length
section
variable {X:Cx} {pins:List (Addr × Obj)} {σ:List (Option V)} {H H':Hp} {s:Shared} {h':Heap}
theorem Cx.Ok.IA (ok:X.Ok) {b:Addr} {o:Obj} (e:X.base.get? b = some o):b ∉ X.fs:=fun hb=>by
 have:=(ok.dA.mem hb).1
 rw [e] at this; cases this
theorem Ae.bs (I:Ae X pins σ H s):∀ b o,X.base.get? b = some o -> s.heap.get? b = some o /\ H b = none:=fun b o e =>
 ⟨I.base.keep b o (I.ok.bs b o e).1 (I.ok.bs b o e).2 (I.ok.IA e) (I.ok.iR b o e),I.base.free b o (I.ok.bs b o e).1 (I.ok.bs b o e).2 (I.ok.iR b o e)⟩
theorem Ae.bk (I:Ae X pins σ H s):∀ b o,X.base.get? b = some o -> s.heap.get? b = some o:=fun b o e=>(I.bs b o e).1
theorem Ae.mod (I:Ae X pins σ H s):Mod X.K X.mg X.base:=I.ok.mod
theorem Ae.lI (I:Ae X pins σ H s):X.K.In s.heap:=I.ok.mod.hJ.keeps I.bk
theorem Ae.nolimit (I:Ae X pins σ H s):s.heap.NoLimit:=I.ok.mod.nolimit.keeps I.bk
theorem Ae.fr (I:Ae X pins σ H s):∃ m,Fr X.base X.env.locals s.heap m :=
 let ⟨m,hn,_⟩ := I.loc
 ⟨m,hn,I.bk,Nat.le_trans I.ok.lD I.ok.above⟩
theorem Ae.lt (I:Ae X pins σ H s):X.env.locals < s.heap.objs.size:=let ⟨_,hn,_⟩ := I.loc; hn.lt
theorem Ae.sz (I:Ae X pins σ H s):X.s₀.heap.objs.size <= s.heap.objs.size:=Nat.le_trans I.ok.above (Nat.le_of_lt I.lt)
theorem Ae.IB (I:Ae X pins σ H s) {a:Addr} (h:s.heap.objs.size <= a):a ∉ X.fs:=fun hb=>by
 obtain ⟨_,o,ho,_⟩ := I.ok.dA.mem hb
 exact absurd (Nat.lt_of_lt_of_le (Heap.lt_size ho) (Nat.le_trans I.sz h)) (Nat.lt_irrefl _)
theorem Ae.pI (I:Ae X pins σ H s):∀ x c,X.env.cells.lookup x = some c -> c ≠ X.env.locals:=fun x c e z=>by
 obtain ⟨v,o,ho,hd⟩ := I.cell x c e
 obtain ⟨m,⟨o',es,ep,lC,oP,_⟩,_⟩ := I.loc
 rw [z,lC] at ho; cases ho; rw [oP] at hd; cases hd
theorem Ae.dA (I:Ae X pins σ H s):s.heap.FunFrames X.base X.outer:=by
 have all:∀ (l:List Env),(∀ b ∈ dY l,b ∈ X.fs) -> X.s₀.heap.FunFrames X.base l -> s.heap.FunFrames X.base l:=by
  intro l
  induction l with
  | nil=>intro _ _; trivial
  | cons env r ih =>
   intro hs hl
   obtain ⟨hk,⟨L,o,hf,hn,ho,hd⟩,hr⟩ := hl
   have hL:L ∈ X.fs:=hs L (by unfold dY; rw [List.filterMap_cons,hf]; exact List.mem_cons_self)
   obtain ⟨sl,e⟩ := I.base.slot L o ho (I.ok.pH L hL) hL fun z=>I.ok.iT L z hL
   exact ⟨hk,⟨L,_,hf,hn,e,hd⟩,ih (fun b hb=>hs b (by unfold dY; rw [List.filterMap_cons,hf]; exact List.mem_cons_of_mem _ hb)) hr⟩
 exact all X.outer (fun _ hb=>hb) I.ok.dA
theorem Ae.stack (I:Ae X pins σ H s):s.heap.FunFrames X.base X.stack:=by
 rcases I.ok.yY with e | ⟨e,hf⟩
 ·rw [e]; exact I.dA
 ·rw [e]
  obtain ⟨m,hn,_⟩ := I.loc
  refine .cons (by rw [I.ok.kind]; decide) hf hn ?_ I.dA
  exact Heap.get?_none_of_le (Nat.le_trans I.ok.lD I.ok.above)
theorem Ae.iU (I:Ae X pins σ H s):∀ b ∈ dY X.stack,b ∈ X.env.locals :: X.fs:=fun b hb=>by
 rcases I.ok.yY with e | ⟨e,hf⟩
 ·rw [e] at hb; exact List.mem_cons_of_mem _ hb
 ·rw [e] at hb
  unfold dY at hb
  rw [List.filterMap_cons,hf] at hb
  exact hb
theorem Ae.cH (I:Ae X pins σ H s):∀ b ∈ dY X.stack,H b = none:=fun b hb=>by
 rcases List.mem_cons.mp (I.iU b hb) with e | hb
 ·rw [e]; exact I.free
 ·obtain ⟨_,o,ho,_⟩ := I.ok.dA.mem hb
  exact I.base.free b o ho (I.ok.pH b hb) fun z=>I.ok.iT b z hb
theorem Ae.step {g' : Array GenState} {t' : Nat} {d' : Drawn} {ch : List Addr} (I : Ae X pins σ H s)
  (fN:∀ b ∈ ch,(b ∈ X.ex \/ X.s₀.heap.objs.size <= b) /\ b ≠ X.env.locals /\ (∀ x c,X.env.cells.lookup x = some c -> c ≠ b) /\ ∀ p ∈ X.pn ++ pins,p.1 ≠ b)
  (keep:∀ b o,b ≠ X.env.locals -> b ∉ X.fs -> b ∉ ch -> s.heap.get? b = some o -> H b = none -> h'.get? b = some o)
  (slot:∀ b o,b ≠ X.env.locals -> b ∈ X.fs -> b ∉ ch -> s.heap.get? b = some o -> H b = none -> ∃ sl,h'.get? b = some { o with slots:=sl }) (free:∀ b o,b ∉ ch -> s.heap.get? b = some o -> H b = none -> H' b = none)
  (there:∀ b o,b ∉ ch -> s.heap.get? b = some o -> ∃ o',h'.get? b = some o')
  (cU:∀ b xs,H b = some (.tup xs) -> H' b = some (.tup xs)) (bU:∀ b o u,H b = some (.bK o u) -> H' b = some (.bK o u)) (cV:∀ b ps,H b = some (.oQ ps) -> ∃ more,H' b = some (.oQ (ps ++ more)))
  (ns:∀ m,s.heap.Ns X.env.locals m -> h'.Ns X.env.locals m) (aR:Fe X.prog X.w H' h') (hg:AllBare g') :
  Ae X pins σ H' { s with heap:=h',gens:=g',drawn:=d',toks:=t' }:=by
 have yZ:∀ b o,X.s₀.heap.get? b = some o -> b ≠ X.env.locals:=fun b o e=>Nat.ne_of_lt (Nat.lt_of_lt_of_le (Heap.lt_size e) I.ok.above)
 have GC:∀ b o,X.s₀.heap.get? b = some o -> b ∉ X.ex -> b ∉ ch:=fun b o e hx hb=>by
  rcases (fN b hb).1 with z | z
  ·exact hx z
  ·exact absurd (Nat.lt_of_lt_of_le (Heap.lt_size e) z) (Nat.lt_irrefl _)
 have cellK:∀ x c,X.env.cells.lookup x = some c -> ∀ v,s.heap.IsCell c v -> h'.IsCell c v:=fun x c e v ⟨o,ho,hd⟩=>by
  have zw:c ∉ ch:=fun z=>(fN c z).2.2.1 x c e rfl
  by_cases hc:c ∈ X.fs
  ·obtain ⟨sl,q⟩ := slot c o (I.pI x c e) hc zw ho (I.bD x c e)
   exact ⟨_,q,hd⟩
  ·exact ⟨o,keep c o (I.pI x c e) hc zw ho (I.bD x c e),hd⟩
 refine ⟨I.ok,I.os,hg,⟨fun b o e n hb hx=>?_,fun b o e n hb hx=>?_,fun b o e n hx=>?_,fun b o e hx=>?_,fun b xs e=>cU b xs (I.base.cU b xs e),fun b o xs e=>bU b o xs (I.base.bU b o xs e),fun b ps e=>?_⟩,?_,fun x c e=>?_,?_,fun x c e=>?_,fun p hp=>?_,aR,I.len⟩
 ·exact keep b o (yZ b o e) hb (GC b o e hx) (I.base.keep b o e n hb hx) (I.base.free b o e n hx)
 ·obtain ⟨sl,e1⟩ := I.base.slot b o e n hb hx
  obtain ⟨zu,e2⟩ := slot b _ (yZ b o e) hb (GC b o e hx) e1 (I.base.free b o e n hx)
  exact ⟨zu,e2⟩
 ·obtain ⟨o',e1⟩ := I.base.there b o e hx
  exact free b o' (GC b o e hx) e1 (I.base.free b o e n hx)
 ·obtain ⟨o',e1⟩ := I.base.there b o e hx
  exact there b o' (GC b o e hx) e1
 ·obtain ⟨m1,e1⟩ := I.base.cV b ps e
  obtain ⟨m2,e2⟩ := cV b _ e1
  exact ⟨m1 ++ m2,by rw [e2,Array.append_assoc]⟩
 ·obtain ⟨m,hn,hl⟩ := I.loc
  refine ⟨m,ns m hn,fun i x v e1 e2 e3=>?_⟩
  obtain ⟨u,r,l⟩ := hl i x v e1 e2 e3
  refine ⟨u,r,?_⟩
  rcases l with l | ⟨k,c,e,z⟩
  ·exact .inl l
  ·exact .inr ⟨k,c,e,cellK x c e _ z⟩
 ·obtain ⟨v,z⟩ := I.cell x c e
  exact ⟨v,cellK x c e v z⟩
 ·obtain ⟨m,⟨o,_,_,ho,_⟩,_⟩ := I.loc
  exact free _ o (fun z=>(fN _ z).2.1 rfl) ho I.free
 ·obtain ⟨v,o,ho,hd⟩ := I.cell x c e
  exact free c o (fun z=>(fN c z).2.2.1 x c e rfl) ho (I.bD x c e)
 ·obtain ⟨e,n,ne,nf,d⟩ := I.pin p hp
  have zw:p.1 ∉ ch:=fun z=>(fN p.1 z).2.2.2 p hp rfl
  exact ⟨keep p.1 p.2 ne nf zw e n,free p.1 p.2 zw e n,ne,nf,d⟩
theorem Ae.un {t':Nat} (I:Ae X pins σ H s) (u:Un X.fs [] H H' s.heap h') (aR:Fe X.prog X.w H' h'):Ae X pins σ H' { s with heap:=h',toks:=t' }:=by
 obtain ⟨m,⟨o,es,ep,ho,r⟩,_⟩ := id I.loc
 obtain ⟨sl,hL⟩ := u.any ho I.free (by simp)
 exact I.step (g':=s.gens) (d':=s.drawn) (ch:=[]) (fun _ z=>nomatch z) (fun b o _ hb _ e n=>u.keep b o e n hb (by simp)) (fun b o _ hb _ e n=>u.slot b o e n hb (by simp)) (fun b o _ e n=>u.free b o e n (by simp)) (fun b o _ e=>u.there b o e (by simp)) u.cU u.bU u.cV (fun m' hm=>by
  obtain ⟨o',pJ,pK,lC,r'⟩ := hm
  rw [ho] at lC; cases lC
  exact ⟨_,pJ,pK,hL,r'⟩) aR I.bare
theorem Ae.call {g' : Array GenState} {t' : Nat} {d' : Drawn} {ch : List Addr} (I : Ae X pins σ H s) (u : Un (dY X.stack) ch H H' s.heap h') (aR : Fe X.prog X.w H' h') (hg : AllBare g')
  (fN:∀ b ∈ ch,(b ∈ X.ex \/ X.s₀.heap.objs.size <= b) /\ b ≠ X.env.locals /\ (∀ x c,X.env.cells.lookup x = some c -> c ≠ b) /\ ∀ p ∈ X.pn ++ pins,p.1 ≠ b) :
  Ae X pins σ H' { s with heap:=h',gens:=g',drawn:=d',toks:=t' }:=by
 obtain ⟨m,⟨o,es,ep,ho,r⟩,_⟩ := id I.loc
 obtain ⟨sl,hL⟩ := u.any ho I.free fun z=>(fN _ z).2.1 rfl
 exact I.step (ch:=ch) fN (fun b o hL hb hc e n=>u.keep b o e n (fun z=>(List.mem_cons.mp (I.iU b z)).elim hL hb) hc) (fun b o _ _ hc e n=>u.any e n hc) (fun b o hc e n=>u.free b o e n hc) (fun b o hc e=>u.there b o e hc) u.cU u.bU u.cV (fun m' hm=>by
  obtain ⟨o',pJ,pK,lC,r'⟩ := hm
  rw [ho] at lC; cases lC
  exact ⟨_,pJ,pK,hL,r'⟩) aR hg
theorem Ae.turned {t' : Nat} {it : Addr} (I : Ae X pins σ H s) (k : ∀ b o, b ≠ it -> s.heap.get? b = some o -> h'.get? b = some o) (hn : H it = none) (hL : it ≠ X.env.locals)
  (h1:it ∈ X.ex \/ X.s₀.heap.objs.size <= it) (h2:∀ x c,X.env.cells.lookup x = some c -> c ≠ it) (h3:∀ p ∈ X.pn ++ pins,p.1 ≠ it):Ae X pins σ H { s with heap:=h',toks:=t' }:=by
 have nit:∀ b u,H b = some u -> b ≠ it:=fun b u e z=>by rw [z,hn] at e; cases e
 refine I.step (g':=s.gens) (d':=s.drawn) (ch:=[it]) (fun b hb=>?_) (fun b o _ _ hc e _=>k b o (fun z=>hc (by simp [z])) e) (fun b o _ _ hc e _=>⟨o.slots,k b o (fun z=>hc (by simp [z])) e⟩) (fun _ _ _ _ n=>n)
  (fun b o hc e=>⟨o,k b o (fun z=>hc (by simp [z])) e⟩) (fun _ _ e=>e) (fun _ _ _ e=>e) (fun b ps e=>⟨#[],by rw [e]; simp⟩) (fun m hm=>?_) (fun b u e=>?_) I.bare
 ·have e:b = it:=by simpa using hb
  subst e
  exact ⟨h1,hL,h2,h3⟩
 ·obtain ⟨o,es,ep,ho,r⟩ := hm
  exact ⟨o,es,ep,k _ o (Ne.symm hL) ho,r⟩
 ·refine (I.aR b u e).cZ (fun c v hc q=>k c v ?_ q) (fun _ q=>q) fun _ _ q=>q
  rcases hc with z | z
  ·rw [z]; exact nit b u e
  ·exact nit c _ z
theorem Ae.tok (I:Ae X pins σ H s) (t:Nat):Ae X pins σ H { s with toks:=t }:=I.un (h':=s.heap) (t':=t) Un.refl I.aR
theorem Ae.kept {t':Nat} (I:Ae X pins σ H s) (k:∀ b u,s.heap.get? b = some u -> h'.get? b = some u):Ae X pins σ H { s with heap:=h',toks:=t' }:=I.un (Un.kept k) (I.aR.kept k)
theorem Ae.laid {a : Addr} {o : HO} {t' : Nat} (I : Ae X pins σ H s) (k : ∀ b u, s.heap.get? b = some u -> h'.get? b = some u) (hp : s.heap.objs.size <= a) (new : Bg X.prog X.w (upd H a o) h' a o) :
  Ae X pins σ (upd H a o) { s with heap:=h',toks:=t' }:=I.un (Un.laid k hp (I.aR.fresh hp)) (I.aR.laid k hp new)
theorem Ae.write {x e : Addr} {o : HO} {t' : Nat} (I : Ae X pins σ H s) (mu : i7 (H x)) (he : e = x \/ H e = some (.own x)) (k : ∀ b u, b ≠ e -> s.heap.get? b = some u -> h'.get? b = some u) (yX : ∃ u, h'.get? e = some u)
  (new:Bg X.prog X.w (upd H x o) h' x o):Ae X pins σ (upd H x o) { s with heap:=h',toks:=t' }:=I.un (Un.write mu he k yX) (I.aR.write mu he k yX new)
theorem Ae.weak {σ':List (Option V)} (I:Ae X pins σ H s) (hl:σ'.length = σ.length) (w:∀ (i:Nat) v,σ'[i]? = some (some v) -> σ[i]? = some (some v)):Ae X pins σ' H s :=
 ⟨I.ok,I.os,I.bare,I.base,let ⟨m,hn,hl'⟩ := I.loc; ⟨m,hn,fun i x v e1 e2 e3=>hl' i x v e1 (w i v e2) e3⟩,I.cell,I.free,I.bD,I.pin,I.aR,hl.trans I.len⟩
theorem Ae.jQ {hU:List (Addr × Obj)} (I:Ae X pins σ H s) (h:∀ p ∈ hU,s.heap.get? p.1 = some p.2 /\ H p.1 = none /\ p.1 ≠ X.env.locals /\ p.1 ∉ X.fs /\ ∀ v,p.2.data ≠ .cell v):Ae X hU σ H s :=
 ⟨I.ok,I.os,I.bare,I.base,I.loc,I.cell,I.free,I.bD,fun p hp=>(List.mem_append.mp hp).elim (fun z=>I.pin p (List.mem_append_left _ z)) (h p),I.aR,I.len⟩
theorem Kp {N:List Str} (hN:N.Nodup) {i j:Nat} {x:Str} (a:N[i]? = some x) (b:N[j]? = some x):i = j:=by
 obtain ⟨h1,e1⟩ := List.getElem?_eq_some_iff.mp a
 obtain ⟨h2,e2⟩ := List.getElem?_eq_some_iff.mp b
 exact (List.getElem_inj hN).mp (e1.trans e2.symm)
theorem M6 {M : Model} {A : Around} {E : Value -> Shared -> Prop} {i : Nat} {x : Str} {v : V} {u : Value} {Q : Unit -> Shared -> Prop} (I : Ae X pins σ H s) (hN : X.N.Nodup) (hi : X.N[i]? = some x) (hx : kd X.env.scope x) (r : Ao v u)
  (h:∀ s',Ae X pins (σ.set i (some v)) H s' -> (∃ a,Heap.SameBut a s.heap s'.heap /\ (a = X.env.locals \/ X.env.cells.lookup x = some a)) -> Q () s') (hf:X.fn x = true \/ X.env.scope.names.lookup x = some .local:=by first | exact .inl rfl | exact .inr rfl | assumption):wpAny M A (storeName X.env x u) Q E s:=by
 obtain ⟨m,hn,hl⟩ := id I.loc
 have IC:(X.env.scope.kind == .class || (X.env.scope.kind == .module && X.env.locals != X.env.globals)) = false:=by rw [I.ok.kind]; rfl
 have hiσ:i < σ.length:=by rw [I.len]; exact (List.getElem?_eq_some_iff.mp hi).1
 have pI:=I.pI
 have tracked:∀ {a:Addr} {h':Heap},(∃ o,s.heap.get? a = some o /\ H a = none) -> Heap.SameBut a s.heap h' -> Fe X.prog X.w H h':=fun {a h'} ha hs b ob e=>by
  obtain ⟨_,_,qR⟩ := ha
  refine (I.aR b ob e).cZ (fun c w' hc q=>(hs.2 c ?_).trans q) (fun _ q=>q) fun _ _ q=>q
  rintro rfl
  rcases hc with rfl | hc
  ·rw [qR] at e; cases e
  ·rw [qR] at hc; cases hc
 rcases hx with hk | hk
 ·refine wpAny_storeName_local hk hn (fun h' ID hs=>?_) IC
  obtain ⟨oL,_,_,pL,_⟩ := id hn
  refine h _ ⟨I.ok,I.os,I.bare,⟨fun b o e n hb hx=>?_,fun b o e n hb hx=>?_,I.base.free,fun b o e hx=>?_,I.base.cU,I.base.bU,I.base.cV⟩,⟨_,ID,fun j y v' e1 e2 e3=>?_⟩,fun y c e=>?_,I.free,I.bD,fun p hp=>?_,tracked ⟨oL,pL,I.free⟩ hs,by simpa using I.len⟩ ⟨_,hs,.inl rfl⟩
  ·exact (hs.2 b (Nat.ne_of_lt (Nat.lt_of_lt_of_le (Heap.lt_size e) I.ok.above))).trans (I.base.keep b o e n hb hx)
  ·obtain ⟨sl,e1⟩ := I.base.slot b o e n hb hx
   exact ⟨sl,(hs.2 b (Nat.ne_of_lt (Nat.lt_of_lt_of_le (Heap.lt_size e) I.ok.above))).trans e1⟩
  ·obtain ⟨o',e1⟩ := I.base.there b o e hx
   exact ⟨o',(hs.2 b (Nat.ne_of_lt (Nat.lt_of_lt_of_le (Heap.lt_size e) I.ok.above))).trans e1⟩
  ·by_cases hj:j = i
   ·subst hj
    rw [hi] at e1; cases e1
    rw [List.getElem?_set_self hiσ] at e2
    cases e2
    exact ⟨u,r,.inl ⟨hk,by simp⟩⟩
   ·rw [List.getElem?_set_ne (Ne.symm hj)] at e2
    obtain ⟨u',r',q⟩ := hl j y v' e1 e2 e3
    refine ⟨u',r',?_⟩
    rcases q with ⟨k,e⟩ | ⟨k,c,e,z⟩
    ·refine .inl ⟨k,?_⟩
     have:y ≠ x:=fun e=>hj (Kp hN e1 (e ▸ hi))
     simp [this,e]
    ·exact .inr ⟨k,c,e,z.sameBut hs (pI y c e)⟩
  ·obtain ⟨w',z⟩ := I.cell y c e
   exact ⟨w',z.sameBut hs (pI y c e)⟩
  ·obtain ⟨e,n,ne,nf,d⟩ := I.pin p hp
   exact ⟨(hs.2 p.1 ne).trans e,n,ne,nf,d⟩
 ·have IE : X.fn x = true := by
   rcases hf with z | z
   ·exact z
   ·rw [z] at hk; cases hk
  obtain ⟨c,hc⟩ := I.ok.has x (.inl hk)
  obtain ⟨w',z⟩ := I.cell x c hc
  refine wpAny_storeName_cell I.ok.kind hk hc z (fun h' gB hs=>?_)
  obtain ⟨oc,hoc,IG⟩ := id z
  refine h { s with heap:=h' } ⟨I.ok,I.os,I.bare,⟨fun b o e n hb hx=>?_,fun b o e n hb hx=>?_,I.base.free,fun b o e hx=>?_,I.base.cU,I.base.bU,I.base.cV⟩,⟨m,hn.sameBut hs (Ne.symm (pI x c hc)),fun j y v' e1 e2 e3=>?_⟩,fun y c' e=>?_,I.free,I.bD,fun p hp=>?_,tracked ⟨oc,hoc,I.bD x c hc⟩ hs,by simpa using I.len⟩ ⟨c,hs,.inr hc⟩
  ·exact (hs.2 b (Nat.ne_of_lt (Nat.lt_of_lt_of_le (Heap.lt_size e) (I.ok.uv x c IE hc)))).trans (I.base.keep b o e n hb hx)
  ·obtain ⟨sl,e1⟩ := I.base.slot b o e n hb hx
   exact ⟨sl,(hs.2 b (Nat.ne_of_lt (Nat.lt_of_lt_of_le (Heap.lt_size e) (I.ok.uv x c IE hc)))).trans e1⟩
  ·obtain ⟨o',e1⟩ := I.base.there b o e hx
   exact ⟨o',(hs.2 b (Nat.ne_of_lt (Nat.lt_of_lt_of_le (Heap.lt_size e) (I.ok.uv x c IE hc)))).trans e1⟩
  ·by_cases hj:j = i
   ·subst hj
    rw [hi] at e1; cases e1
    rw [List.getElem?_set_self hiσ] at e2
    cases e2
    exact ⟨u,r,.inr ⟨.inl hk,c,hc,gB⟩⟩
   ·rw [List.getElem?_set_ne (Ne.symm hj)] at e2
    obtain ⟨u',r',q⟩ := hl j y v' e1 e2 e3
    refine ⟨u',r',?_⟩
    rcases q with q | ⟨k,c',e,z'⟩
    ·exact .inl q
    ·refine .inr ⟨k,c',e,z'.sameBut hs ?_⟩
     rintro rfl
     exact hj (Kp hN e1 (I.ok.inj _ _ _ e hc ▸ hi))
  ·by_cases hcc:c' = c
   ·subst hcc; exact ⟨_,gB⟩
   ·obtain ⟨w2,z2⟩ := I.cell y c' e
    exact ⟨w2,z2.sameBut hs hcc⟩
  ·obtain ⟨e,n,ne,nf,d⟩ := I.pin p hp
   refine ⟨(hs.2 p.1 ?_).trans e,n,ne,nf,d⟩
   intro q
   rw [q,hoc] at e
   have q':oc = p.2:=Option.some.inj e
   exact d w' (by rw [<- q']; exact IG)
theorem K4 {M : Model} {A : Around} {E : Value -> Shared -> Prop} {i : Nat} {x : Str} {v : V} {u : Value} {Q : Unit -> Shared -> Prop} (I : Ae X pins σ H s) (hN : X.N.Nodup) (hi : X.N[i]? = some x) (hx : kd X.env.scope x) (r : Ao v u)
  (h:∀ s',Ae X pins (σ.set i (some v)) H s' -> Q () s') (hf:X.fn x = true \/ X.env.scope.names.lookup x = some .local:=by first | exact .inl rfl | exact .inr rfl | assumption):wpAny M A (storeName X.env x u) Q E s :=
 M6 I hN hi hx r (fun s' I' _=>h s' I') hf
theorem Ae.qS {s' : Shared} {ch : List Addr} (I : Ae X pins σ H s) (ho : s'.os = s.os) (u : Un (dY X.stack) ch H H' s.heap s'.heap) (aR : Fe X.prog X.w H' s'.heap) (hg : AllBare s'.gens)
  (fN:∀ b ∈ ch,(b ∈ X.ex \/ X.s₀.heap.objs.size <= b) /\ b ≠ X.env.locals /\ (∀ x c,X.env.cells.lookup x = some c -> c ≠ b) /\ ∀ p ∈ X.pn ++ pins,p.1 ≠ b):Ae X pins σ H' s':=by
 obtain ⟨h',g',d',t',o'⟩ := s'
 have e:o' = s.os:=ho
 subst e
 exact I.call (g':=g') (t':=t') (d':=d') u aR hg fN
end
abbrev XK:=Value -> Option Addr -> Hp -> Prop
abbrev St:=List (Option V)
abbrev VK:=V -> Hp -> Prop
abbrev TE:=St -> Hp -> VK -> Prop
abbrev TT:=St -> Hp -> (Bool -> Hp -> Prop) -> Prop
abbrev TA:=St -> Hp -> (List V -> Hp -> Prop) -> Prop
set_option genInjectivity false in
set_option genSizeOf false in
structure Go where
 nx:St -> Hp -> Prop
 rt:VK
 bk:St -> Hp -> Prop:=fun _ _=>False
 ct:St -> Hp -> Prop:=fun _ _=>False
abbrev TS:=Go -> St -> Hp -> Prop
def EP (X:Cx) (pins:List (Addr × Obj)) (σ:St) (Q:VK) (u:Value) (s':Shared):Prop := ∃ v H',Ae X pins σ H' s' /\ Ao v u /\ Q v H'
def TP (X:Cx) (pins:List (Addr × Obj)) (σ:St) (Q:Bool -> Hp -> Prop) (b:Bool) (s':Shared):Prop := ∃ H',Ae X pins σ H' s' /\ Q b H'
def AP (X:Cx) (pins:List (Addr × Obj)) (σ:St) (Q:List V -> Hp -> Prop) (us:List Value) (s':Shared):Prop := ∃ vs H',Ae X pins σ H' s' /\ An vs us /\ Q vs H'
def SP (X:Cx) (pins:List (Addr × Obj)) (D:Go) (f:Flow) (s':Shared):Prop :=
 match f with
 | .next=>∃ σ' H',Ae X pins σ' H' s' /\ D.nx σ' H'
 | .brk=>∃ σ' H',Ae X pins σ' H' s' /\ D.bk σ' H'
 | .cont=>∃ σ' H',Ae X pins σ' H' s' /\ D.ct σ' H'
 | .ret u=>∃ v σ' H',Ae X pins σ' H' s' /\ Ao v u /\ D.rt v H'
def PE (X:Cx) (e:Expr) (t:TE):Prop :=
 ∀ (pins:List (Addr × Obj)) (s:Shared) (σ:St) (H:Hp) (Q:VK),Ae X pins σ H s -> t σ H Q -> wpAny (model X.prog X.w) X.A (eval e X.env) (EP X pins σ Q) X.xe s
def PT (X:Cx) (e:Expr) (t:TT):Prop :=
 ∀ (pins:List (Addr × Obj)) (s:Shared) (σ:St) (H:Hp) (Q:Bool -> Hp -> Prop),Ae X pins σ H s -> t σ H Q -> wpAny (model X.prog X.w) X.A (isTrue e X.env (eval e X.env)) (TP X pins σ Q) X.xe s
def PW (X:Cx) (e:Expr) (t:TT):Prop :=
 ∀ (whole:Sem Value) (pins:List (Addr × Obj)) (s:Shared) (σ:St) (H:Hp) (Q:Bool -> Hp -> Prop),Ae X pins σ H s -> t σ H Q -> wpAny (model X.prog X.w) X.A (isTrue e X.env whole) (TP X pins σ Q) X.xe s
theorem PW.pt {X:Cx} {e:Expr} {t:TT} (h:PW X e t):PT X e t:=h _
def PA (X:Cx) (es:List Expr) (t:TA):Prop :=
 ∀ (pos:Pos) (pins:List (Addr × Obj)) (s:Shared) (σ:St) (H:Hp) (Q:List V -> Hp -> Prop),Ae X pins σ H s -> t σ H Q -> wpAny (model X.prog X.w) X.A (spliced (backTo pos (starEach es X.env))) (AP X pins σ Q) X.xe s
def PS (X:Cx) (st:Stmt) (t:TS):Prop :=
 ∀ (pins:List (Addr × Obj)) (s:Shared) (σ:St) (H:Hp) (D:Go),Ae X pins σ H s -> t D σ H -> wpAny (model X.prog X.w) X.A (exec st X.env) (SP X pins D) X.xe s
def Ld (X:Cx) (st:List Stmt) (t:TS):Prop :=
 ∀ (pins:List (Addr × Obj)) (s:Shared) (σ:St) (H:Hp) (D:Go),Ae X pins σ H s -> t D σ H -> wpAny (model X.prog X.w) X.A (execs st X.env) (SP X pins D) X.xe s
theorem Bw {α:Type} {t:Sem α} {Q Q':α -> Shared -> Prop} {M:Model} {A:Around} {E:Value -> Shared -> Prop} {s:Shared} (h:wpAny M A t Q E s) (hQ:∀ a s,Q a s -> Q' a s):wpAny M A t Q' E s:=wpAny_mono h hQ fun _ _ x=>x
section
variable {X:Cx}
def gl (i:Nat):TE:=fun σ H Q=>∃ v,σ[i]? = some (some v) /\ Q v H
def tC (v:V):TE:=fun _ H Q=>Q v H
theorem ah {i:Nat} {x:Str} {pos:Pos} (hN:X.N[i]? = some x) (hv:le X.env.scope x) (hd:(x == ("__debug__" : Str)) = false:=by decide) (iV:(x == ("__classdict__" : Str)) = false:=by decide):PE X (.Name x pos) (gl i):=by
 intro pins s σ H Q I h
 obtain ⟨v,e,h⟩ := h
 obtain ⟨m,hn,hl⟩ := I.loc
 obtain ⟨u,r,l⟩ := hl i x v hN e hv
 have fin:EP X pins σ Q u s:=⟨v,H,I,r,h⟩
 rcases l with ⟨hk,hm⟩ | ⟨hk,c,hc,qT⟩
 ·exact wpAny_Name (wpAny_loadName_local I.ok.kind hk hn hm fin) hd
 ·rcases hk with hk | hk
  ·exact wpAny_Name (wpAny_loadName_cell I.ok.kind hk hc qT fin) hd
  ·exact wpAny_Name (wpAny_loadName_free I.ok.kind hk hc qT fin iV) hd
theorem Ac {i j pos}:PE X (.Constant (.int i) j pos) (tC (.int i)):=fun _ _ _ H _ I h=>wpAny_Constant_int ⟨.int i,H,I.tok _,⟨_,rfl⟩,h⟩
theorem Mv {b j pos}:PE X (.Constant (.bool b) j pos) (tC (.bl b)):=fun _ _ _ H _ I h=>Constant_bool ⟨.bl b,H,I,rfl,h⟩
theorem Dd {j pos}:PE X (.Constant .none j pos) (tC .aW):=fun _ _ _ H _ I h=>Constant_none ⟨.aW,H,I,rfl,h⟩
theorem dn {x j pos}:PE X (.Constant (.str x) j pos) (tC (.str x)):=fun _ _ _ H _ I h=>Calls.Constant_str ⟨.str x,H,I.tok _,⟨_,rfl⟩,h⟩
def Gl (X:Cx) (x:Str):Prop:=X.env.kindOf x = some .globalImplicit
theorem Jp {E : Value -> Shared -> Prop} {pins : List (Addr × Obj)} {s : Shared} {σ : St} {H : Hp} {x : Str} {u : Value} {pos : Pos} {Q : Value -> Shared -> Prop} (I : Ae X pins σ H s) (hg : Gl X x) (hm : X.mg x = some u) (h : Q u s)
  (hd:(x == ("__debug__" : Str)) = false:=by decide):wpAny (model X.prog X.w) X.A (eval (.Name x pos) X.env) Q E s :=
 Calls.Name_function_global I.ok.kind hg (Calls.loadGlobal_global (by rw [I.ok.glob]; exact I.mod.glob.keeps I.bk) hm h) hd
theorem Io {E : Value -> Shared -> Prop} {pins : List (Addr × Obj)} {s : Shared} {σ : St} {H : Hp} {x : Str} {u : Value} {pos : Pos} {Q : Value -> Shared -> Prop} (I : Ae X pins σ H s) (hg : Gl X x) (hm : X.mg x = none) (hv : bootBuiltins x = some u) (h : Q u s)
  (hn:x ≠ "__name__" := by decide) (hd:(x == ("__debug__" : Str)) = false:=by decide):wpAny (model X.prog X.w) X.A (eval (.Name x pos) X.env) Q E s:=by
 obtain ⟨mb,h1,h2⟩ := I.mod.blt
 exact Calls.Name_function_global I.ok.kind hg (Calls.loadGlobal_builtin (by rw [I.ok.glob]; exact I.mod.glob.keeps I.bk) hm (by rw [I.ok.blt]; exact h1.keeps I.bk) ((h2 x hn).trans hv) h) hd
theorem S8 {x:Str} {v:V} {u:Value} {pos:Pos} (hg:Gl X x) (hm:X.mg x = some u) (r:Ao v u) (hd:(x == ("__debug__" : Str)) = false:=by decide):PE X (.Name x pos) (tC v) :=
 fun _ _ _ H _ I h=>Jp I hg hm ⟨v,H,I,r,h⟩ hd
theorem Z2 {x:Str} {v:V} {u:Value} {pos:Pos} (hg:Gl X x) (hm:X.mg x = none) (hv:bootBuiltins x = some u) (r:Ao v u) (hn:x ≠ "__name__" := by decide) (hd:(x == ("__debug__" : Str)) = false:=by decide):PE X (.Name x pos) (tC v) :=
 fun _ _ _ H _ I h=>Io I hg hm hv ⟨v,H,I,r,h⟩ hn hd
def ki (ta tb:TE) (k:Int -> Int -> Hp -> Prop):St -> Hp -> Prop:=fun σ H=>ta σ H fun x H1=>tb σ H1 fun y H2=>∃ i j,x = .int i /\ y = .int j /\ k i j H2
def rf (ta tb:TE):TE:=fun σ H Q=>ki ta tb (fun i j H2=>Q (.int (i + j)) H2) σ H
def qp (ta tb:TE):TE:=fun σ H Q=>ki ta tb (fun i j H2=>Q (.int (i - j)) H2) σ H
def rj (ta tb:TE):TE:=fun σ H Q=>ki ta tb (fun i j H2=>(-(2 ^ 64) < i /\ i < 2 ^ 64) /\ Q (.int (i * j)) H2) σ H
variable {a b:Expr} {ta tb:TE} {pos:Pos}
def PC (X:Cx) (op:CmpOp) (a b:Expr) (t:TE):Prop :=
 ∀ (pins:List (Addr × Obj)) (s:Shared) (σ:St) (H:Hp) (Q:VK),Ae X pins σ H s -> t σ H Q ->
  wpAny (model X.prog X.w) X.A (eval a X.env) (fun v s₁=>wpAny (model X.prog X.w) X.A (eval b X.env) (fun u s₂=>wpAny (model X.prog X.w) X.A (compareOp op v u) (EP X pins σ Q) X.xe s₂) X.xe s₁) X.xe s
theorem Wa (b:Expr) {op:CmpOp} (h:op ≠ .In) (h2:op ≠ .NotIn):behindInMarks op b = false:=by
 have e1:(op == CmpOp.In) = false:=by cases op <;> first | rfl | exact absurd rfl h
 have e2:(op == CmpOp.NotIn) = false:=by cases op <;> first | rfl | exact absurd rfl h2
 cases b <;> simp [behindInMarks,e1,e2]
def U7 (p:Int -> Int -> Bool) (ta tb:TE):TE:=fun σ H Q=>ki ta tb (fun i j H2=>Q (.bl (p i j)) H2) σ H
abbrev uf:TE -> TE -> TE:=U7 fun i j=>decide (i < j)
abbrev ug:TE -> TE -> TE:=U7 fun i j=>decide (i <= j)
abbrev u7:TE -> TE -> TE:=U7 fun i j=>decide (j < i)
abbrev uk:TE -> TE -> TE:=U7 fun i j=>decide (j <= i)
abbrev u5:TE -> TE -> TE:=U7 fun i j=>decide (i = j)
abbrev re:TE -> TE -> TE:=U7 fun i j=>!decide (i = j)
def tq (ta:TE):TE:=fun σ H Q=>ta σ H fun x H1=>Q (.bl (decide (x = .aW))) H1
def qh (ta:TE):TE:=fun σ H Q=>ta σ H fun x H1=>Q (.bl (!decide (x = .aW))) H1
def tB (t:TE):TT:=fun σ H Q=>t σ H fun x H1=>∃ c,x = .bl c /\ Q c H1
theorem Hy {op:CmpOp} {t:TE} (h:PC X op a b t) (h1:behindInMarks op b = false:=by first | exact Wa _ (by decide) (by decide) | rfl):PT X (.Compare a [op] [b] pos) (tB t):=by
 intro pins s σ H Q I hw
 refine wpAny_isTrue_Compare1 (Bw (h pins s σ H _ I hw) fun v s1 h1=>Bw h1 fun u s2 h2=>Bw h2 fun c s3 ⟨x,H1,I1,r1,q1⟩=>?_) h1
 obtain ⟨d,rfl,q⟩ := q1
 cases r1
 exact wpAny_truthy_bool ⟨H1,I1,q⟩
theorem Fn {e:Expr} {t:TE} (h:PE X e t) (he:∀ whole,isTrue e X.env whole = (do let v <- whole; standAt e.pos; holding [v] (truthy v)):=by intro _; rfl):PT X e (tB t):=by
 intro pins s σ H Q I hw
 refine isTrue_plain (Bw (h pins s σ H _ I hw) fun v s1 ⟨x,H1,I1,r1,q1⟩=>?_) (he _)
 obtain ⟨d,rfl,q⟩ := q1
 cases r1
 exact wpAny_truthy_bool ⟨H1,I1,q⟩
variable {tA GD:TT} {rest:List Expr}
def rq (t u:TT):TT:=fun σ H Q=>t σ H fun c H1=>if c = true then u σ H1 Q else Q false H1
def u6 (t u:TT):TT:=fun σ H Q=>t σ H fun c H1=>if c = true then Q true H1 else u σ H1 Q
def mf (t:TT):TT:=fun σ H Q=>t σ H fun c H1=>Q (!c) H1
theorem Y3 (ha:PT X a tA):PW X (.BoolOp .And [a] pos) tA:=by
 intro wh pins s σ H Q I h
 refine isTrue_and (Bw (ha pins s σ H Q I h) fun c s1 e=>?_)
 cases c with
 | true=>exact isTrue_and_nil e
 | false=>exact e
theorem Ih (ha:PT X a tA):PT X (.UnaryOp .Not a pos) (mf tA):=by
 intro pins s σ H Q I h
 exact isTrue_not (ha pins s σ H (fun c H1=>Q (!c) H1) I h)
def qa (ta tb:TE):TE:=fun σ H Q=>ta σ H fun x H1=>∃ c,x = .bl c /\ if c = true then tb σ H1 Q else Q (.bl false) H1
def sk (ta tb:TE):TE:=fun σ H Q=>ta σ H fun x H1=>∃ c,x = .bl c /\ if c = true then Q (.bl true) H1 else tb σ H1 Q
def pi (ta:TE):TE:=fun σ H Q=>ta σ H fun x H1=>∃ c,x = .bl c /\ Q (.bl (!c)) H1
theorem Ni {op} {t:TE} (h:PE X a t):PE X (.BoolOp op [a] pos) t:=fun pins s σ H Q I hw=>BoolOp_one (h pins s σ H Q I hw)
def ql (t:TT) (ta tb:TE):TE:=fun σ H Q=>t σ H fun c H1=>if c = true then ta σ H1 Q else tb σ H1 Q
theorem W7 {c:Expr} (hc:PT X c tA) (ha:PE X a ta) (hb:PE X b tb):PE X (.IfExp c a b pos) (ql tA ta tb):=by
 intro pins s σ H Q I h
 refine wpAny_IfExp (Bw (hc pins s σ H _ I h) fun d s1 bA=>?_)
 obtain ⟨H1,I1,q1⟩ := bA
 cases d with
 | true=>exact ha pins s1 σ H1 Q I1 q1
 | false=>exact hb pins s1 σ H1 Q I1 q1
end
def Bj (K:PySem.W.Frag) (H:Hp) (a:Addr) (xs:List V):Prop :=
 Rd H a (.lst xs) \/
  ∃ (o:Obj) (aH:Array Value) (n:Nat),K.lookup a = some o /\ o.cls = .type "list" /\ o.dict = none /\ o.data = .seq aH n /\ aH.size <= sizeLine /\ An xs aH.toList
def Ci (K:PySem.W.Frag) (H:Hp) (a:Addr) (xs:List V):Prop :=
 Rd H a (.tup xs) \/
  ∃ (o:Obj) (aH:Array Value) (n:Nat),K.lookup a = some o /\ o.cls = .type "tuple" /\ o.data = .seq aH n /\ aH.size <= sizeLine /\ An xs aH.toList
def md:Value -> Option V
 | .none=>some .aW
 | .bool b=>some (.bl b)
 | .int i _=>some (.int i)
 | .str x _=>some (.str x)
 | .bytes b _=>some (.lB b)
 | .float b _=>some (.zp b)
 | .ref a=>some (.ref a)
 | .type n=>some (.ty n)
 | _=>none
theorem Ao.abs {x:V} {u:Value} (r:Ao x u):md u = some x:=by
 cases x with
 | aW=>cases r; rfl
 | bl _=>cases r; rfl
 | int _=>obtain ⟨t,rfl⟩ := r; rfl
 | str _=>obtain ⟨t,rfl⟩ := r; rfl
 | lB _=>obtain ⟨t,rfl⟩ := r; rfl
 | zp _=>obtain ⟨t,rfl⟩ := r; rfl
 | ref _=>cases r; rfl
 | ty _=>cases r; rfl
theorem Ao.inj {x y:V} {u:Value} (r:Ao x u) (q:Ao y u):x = y:=Option.some.inj (r.abs.symm.trans q.abs)
theorem An.inj {xs ys:List V} {us:List Value} (h:An xs us) (g:An ys us):xs = ys:=by
 induction h generalizing ys with
 | nil =>
  cases g
  rfl
 | cons r t ih =>
  cases g with
  | cons r' t'=>rw [r.inj r',ih t']
section
variable {X:Cx} {pins:List (Addr × Obj)} {σ:St} {H:Hp} {s:Shared} {a:Addr} {xs ys:List V}
theorem Bj.of {K:PySem.W.Frag} (h:H a = some (.lst xs)):Bj K H a xs := .inl (.inl h)
theorem Ci.of {K:PySem.W.Frag} (h:H a = some (.tup xs)):Ci K H a xs := .inl (.inl h)
theorem Ae.list (I:Ae X pins σ H s) (h:Bj X.K H a xs):∃ aH:List Value,An xs aH /\ PlainL s.heap a aH.toArray /\ xs.length <= sizeLine:=by
 rcases h with h | ⟨o,aH,n,hk,hc,hd,hs,hz,r⟩
 ·obtain ⟨z,aH,n,r,e⟩ := h.ok I.aR
  exact ⟨aH,r,⟨_,n,e,rfl,rfl,rfl⟩,z⟩
 ·refine ⟨aH.toList,r,⟨o,n,I.lI a o hk,hc,hd,by simpa using hs⟩,?_⟩
  have e:=r.length
  simp only [Array.length_toList] at e
  omega
theorem Ae.tuple (I:Ae X pins σ H s) (h:Ci X.K H a xs):∃ aH:List Value,An xs aH /\ IsTup s.heap a aH.toArray /\ xs.length <= sizeLine:=by
 rcases h with h | ⟨o,aH,n,hk,hc,hs,hz,r⟩
 ·obtain ⟨z,aH,r,p⟩ := h.ok I.aR
  exact ⟨aH,r,p,z.1⟩
 ·refine ⟨aH.toList,r,⟨o,I.lI a o hk,hc,n,by simpa using hs⟩,?_⟩
  have e:=r.length
  simp only [Array.length_toList] at e
  omega
theorem Ae.hV (I:Ae X pins σ H s) (h:Bj X.K H a xs) (h':Bj X.K H a ys):xs = ys:=by
 obtain ⟨aH,r,⟨o,n,e,_,_,d⟩,_⟩ := I.list h
 obtain ⟨its',r',⟨o',n',e',_,_,d'⟩,_⟩ := I.list h'
 rw [e] at e'; cases e'
 rw [d] at d'
 injection d' with d1 _
 have:aH = its':=by simpa using congrArg Array.toList d1
 subst this
 exact r.inj r'
theorem Ae.gC (I:Ae X pins σ H s) (h:Ci X.K H a xs) (h':Ci X.K H a ys):xs = ys:=by
 obtain ⟨aH,r,⟨o,e,_,n,d⟩,_⟩ := I.tuple h
 obtain ⟨its',r',⟨o',e',_,n',d'⟩,_⟩ := I.tuple h'
 rw [e] at e'; cases e'
 rw [d] at d'
 injection d' with d1 _
 have:aH = its':=by simpa using congrArg Array.toList d1
 subst this
 exact r.inj r'
end
abbrev Cx.eR (X:Cx) (E:Value -> Shared -> Prop):Cx:={ X with xe:=E }
abbrev Cx.jR (X:Cx):Cx:=X.eR fun _ _=>False
theorem Cx.Ok.eR {X:Cx} (ok:X.Ok) (E:Value -> Shared -> Prop):(X.eR E).Ok :=
 ⟨ok.mod,ok.kind,ok.glob,ok.blt,ok.above,ok.inj,ok.has,ok.uv,ok.hd,ok.frames,ok.yY,ok.zv,ok.bs,ok.lD,ok.iR,ok.iT,ok.dA,ok.pH⟩
theorem Cx.Ok.bJ {X:Cx} {E:Value -> Shared -> Prop} (ok:(X.eR E).Ok):X.Ok :=
 ⟨ok.mod,ok.kind,ok.glob,ok.blt,ok.above,ok.inj,ok.has,ok.uv,ok.hd,ok.frames,ok.yY,ok.zv,ok.bs,ok.lD,ok.iR,ok.iT,ok.dA,ok.pH⟩
section
variable {X:Cx} {pins:List (Addr × Obj)} {σ:St} {H:Hp} {s:Shared} {E:Value -> Shared -> Prop}
theorem Ae.eR (I:Ae X pins σ H s) (E:Value -> Shared -> Prop):Ae (X.eR E) pins σ H s:=⟨I.ok.eR E,I.os,I.bare,I.base,I.loc,I.cell,I.free,I.bD,I.pin,I.aR,I.len⟩
theorem Ae.bJ (I:Ae (X.eR E) pins σ H s):Ae X pins σ H s:=⟨I.ok.bJ,I.os,I.bare,I.base,I.loc,I.cell,I.free,I.bD,I.pin,I.aR,I.len⟩
theorem SP.bJ {D:Go} {f:Flow} {s':Shared} (h:SP (X.eR E) pins D f s'):SP X pins D f s':=by
 cases f with
 | next=>obtain ⟨σ',H',I,q⟩ := h; exact ⟨σ',H',I.bJ,q⟩
 | brk=>obtain ⟨σ',H',I,q⟩ := h; exact ⟨σ',H',I.bJ,q⟩
 | cont=>obtain ⟨σ',H',I,q⟩ := h; exact ⟨σ',H',I.bJ,q⟩
 | ret u=>obtain ⟨v,σ',H',I,r,q⟩ := h; exact ⟨v,σ',H',I.bJ,r,q⟩
theorem PE.jR {e:Expr} {t:TE} (h:PE X.jR e t):PE X e t:=fun pins s σ H Q I hw =>
 wpAny_mono (h pins s σ H Q (I.eR _) hw) (fun _ _ ⟨v,H',I',r,q⟩=>⟨v,H',I'.bJ,r,q⟩) fun _ _ z=>False.elim z
theorem PT.jR {e:Expr} {t:TT} (h:PT X.jR e t):PT X e t:=fun pins s σ H Q I hw =>
 wpAny_mono (h pins s σ H Q (I.eR _) hw) (fun _ _ ⟨H',I',q⟩=>⟨H',I'.bJ,q⟩) fun _ _ z=>False.elim z
theorem Ld.jR {st:List Stmt} {t:TS} (h:Ld X.jR st t):Ld X st t:=fun pins s σ H D I hw =>
 wpAny_mono (h pins s σ H D (I.eR _) hw) (fun _ _ q=>q.bJ) fun _ _ z=>False.elim z
end
section
variable {X:Cx} {st:Stmt} {rest:List Stmt} {t u:TS} {e:Expr} {te:TE} {pos:Pos}
def j0:TS:=fun D σ H=>D.nx σ H
def fz (t u:TS):TS:=fun D σ H=>t { D with nx:=u D } σ H
theorem B9:Ld X [] j0:=fun _ _ σ H _ I h=>wpAny_execs_nil ⟨σ,H,I,h⟩
theorem A8 (h1:PS X st t) (h2:Ld X rest u):Ld X (st :: rest) (fz t u):=by
 intro pins s σ H D I h
 refine wpAny_execs_cons (Bw (h1 pins s σ H { D with nx:=u D } I h) fun f s1 q=>?_)
 cases f with
 | next =>
  obtain ⟨σ',H',I',q⟩ := q
  exact h2 pins s1 σ' H' D I' q
 | ret v=>exact q
 | brk=>exact q
 | cont=>exact q
theorem Ab (h1:PS X st t):Ld X [st] t:=by
 intro pins s σ H D I h
 refine wpAny_execs_cons (Bw (h1 pins s σ H D I h) fun f s1 q=>?_)
 cases f with
 | next=>exact wpAny_execs_nil q
 | ret v=>exact q
 | brk=>exact q
 | cont=>exact q
def nv:TS:=fun D σ H=>D.bk σ H
def qe:TS:=fun D σ H=>D.ct σ H
theorem Ae.quiet {pins:List (Addr × Obj)} {σ:St} {H:Hp} {s:Shared} (I:Ae X pins σ H s):interactive X.env = false:=by simp [interactive,I.ok.kind]
def ie (te:TE):TS:=fun D σ H=>te σ H fun _ H1=>D.nx σ H1
theorem Cq (he:PE X e te) (hs:swapsWith e none pos.line X.env = pure false:=by rfl):PS X (.Expr e pos) (ie te):=by
 intro pins s σ H D I h
 exact wpAny_Expr_any (Bw (he pins s σ H _ I h) fun v s1 ⟨x,H1,I1,r1,q1⟩=>⟨σ,H1,I1,q1⟩) I.quiet hs
def mz (te:TE):TS:=fun D σ H=>te σ H D.rt
theorem Ax (he:PE X e te):PS X (.Return (some e) pos) (mz te):=by
 intro pins s σ H D I h
 exact wpAny_Return_some (Bw (he pins s σ H _ I h) fun v s1 ⟨x,H1,I1,r1,q1⟩=>⟨x,σ,H1,I1,r1,q1⟩)
def pe:TS:=fun D _ H=>D.rt .aW H
def ln (c:TT) (t u:TS):TS:=fun D σ H=>c σ H fun b H1=>if b = true then t D σ H1 else u D σ H1
theorem Eh {c:Expr} {a b:List Stmt} {tc:TT} (hc:PT X c tc) (ha:Ld X a t) (hb:Ld X b u):PS X (.If c a b pos) (ln tc t u):=by
 intro pins s σ H D I h
 refine wpAny_If (Bw (hc pins s σ H _ I h) fun d s1 bA=>?_)
 obtain ⟨H1,I1,q1⟩ := bA
 cases d with
 | true=>exact ha pins s1 σ H1 D I1 q1
 | false=>exact hb pins s1 σ H1 D I1 q1
def dj:TS:=fun _ _ _=>False
theorem P7:PS X st dj:=fun _ _ _ _ _ _ h=>h.elim
end
abbrev TG:=V -> St -> Hp -> (St -> Hp -> Prop) -> Prop
abbrev Z4:=List V -> St -> Hp -> (St -> Hp -> Prop) -> Prop
def PG (X:Cx) (target:Expr) (t:TG):Prop :=
 ∀ (pins:List (Addr × Obj)) (s:Shared) (σ:St) (H:Hp) (v:V) (u:Value) (Q:St -> Hp -> Prop),Ae X pins σ H s -> Ao v u -> t v σ H Q ->
  wpAny (model X.prog X.w) X.A (assign target X.env u) (fun _ s'=>∃ σ' H',Ae X pins σ' H' s' /\ Q σ' H') X.xe s
def fo (X:Cx) (ts:List Expr) (t:Z4):Prop :=
 ∀ (pins:List (Addr × Obj)) (s:Shared) (σ:St) (H:Hp) (vs:List V) (us:List Value) (Q:St -> Hp -> Prop),Ae X pins σ H s -> An vs us -> t vs σ H Q ->
  wpAny (model X.prog X.w) X.A (assignInOrder ((assignEach ts X.env).map (·.2)) us) (fun _ s'=>∃ σ' H',Ae X pins σ' H' s' /\ Q σ' H') X.xe s
abbrev Xr:=V -> V -> V -> Hp -> (Hp -> Prop) -> Prop
def gu (X:Cx) (t:Xr):Prop :=
 ∀ (pins:List (Addr × Obj)) (s:Shared) (σ:St) (H:Hp) (o i v:V) (ov iv u:Value) (Q:Hp -> Prop),Ae X pins σ H s -> Ao o ov -> Ao i iv -> Ao v u -> t o i v H Q ->
  wpAny (model X.prog X.w) X.A (setItem ov iv u) (fun _ s'=>∃ H',Ae X pins σ H' s' /\ Q H') X.xe s
abbrev kt:=V -> V -> Hp -> VK -> Prop
def uq (X:Cx) (op:Operator) (t:kt):Prop :=
 ∀ (pins:List (Addr × Obj)) (s:Shared) (σ:St) (H:Hp) (x y:V) (v u:Value) (Q:VK),Ae X pins σ H s -> Ao x v -> Ao y u -> t x y H Q ->
  wpAny (model X.prog X.w) X.A (inplaceOp op v u) (EP X pins σ Q) X.xe s
section
variable {X:Cx} {pos:Pos}
def Fi (i:Nat):TG:=fun v σ H Q=>Q (σ.set i (some v)) H
theorem Av {i:Nat} {x:Str} (hN:X.N.Nodup) (hi:X.N[i]? = some x) (hx:kd X.env.scope x) (hf:X.fn x = true \/ X.env.scope.names.lookup x = some .local:=by first | exact .inl rfl | exact .inr rfl | assumption):PG X (.Name x pos) (Fi i):=by
 intro pins s σ H v u Q I r h
 exact wpAny_assign_Name (K4 I hN hi hx r (fun s' I'=>⟨_,H,I',h⟩) hf)
def ci:Z4:=fun vs σ H Q=>vs = [] /\ Q σ H
def Lq (t:TG) (u:Z4):Z4:=fun vs σ H Q=>∃ v r,vs = v :: r /\ t v σ H fun σ' H'=>u r σ' H' Q
theorem Fz:fo X [] ci:=by
 intro pins s σ H vs us Q I r h
 obtain ⟨e,h⟩ := h
 subst e
 cases r
 exact assignInOrder_nil ⟨σ,H,I,h⟩
theorem C5 {e : Expr} {es : List Expr} {t : TG} {u : Z4} (h1 : PG X e t) (h2 : fo X es u)
  (hs:(assignEach (e :: es) X.env).map (·.2) = assign e X.env :: (assignEach es X.env).map (·.2):=by rfl):fo X (e :: es) (Lq t u):=by
 intro pins s σ H vs us Q I r h
 obtain ⟨v,vr,e1,h⟩ := h
 subst e1
 cases r with
 | cons r rr =>
  rw [hs]
  refine assignInOrder_cons (Bw (h1 pins s σ H _ _ _ I r h) fun _ s1 bA=>?_)
  obtain ⟨σ1,H1,I1,q1⟩ := bA
  exact h2 pins s1 σ1 H1 _ _ Q I1 rr q1
def Yt (K:PySem.W.Frag) (n:Nat) (t:Z4):TG:=fun v σ H Q=>∃ a xs,v = .ref a /\ Ci K H a xs /\ xs.length = n /\ t xs σ H Q
theorem az {es : List Expr} {k : Nat} {t : Z4} {n : Nat} (hc : X.calm = true) (h : fo X es t)
  (hn:(assignEach es X.env).length = n:=by rfl) (fO:(assignEach es X.env).findIdx? (·.1) = none:=by rfl):PG X (.Tuple es k pos) (Yt X.K n t):=by
 intro pins s σ H v u Q I r hw
 obtain ⟨a,xs,e1,hq,hl,hw⟩ := hw
 subst e1
 cases r
 obtain ⟨aH,rv,ht,hz⟩ := I.tuple hq
 refine assign_Tuple_tuple (I.ok.hd hc) ht (by simp [hn,<- hl,rv.length]) fO fun h' hx=>?_
 have I1:Ae X pins σ H { s with heap:=h' }:=I.kept (t':=s.toks) fun b o e=>hx b o (Nat.ne_of_lt (Heap.lt_size e)) e
 exact h pins _ σ H xs _ Q I1 (by simpa using rv) hw
def mn (to ti:TE) (t:Xr):TG:=fun v σ H Q=>to σ H fun o H1=>ti σ H1 fun i H2=>t o i v H2 fun H3=>Q σ H3
theorem S4 {o i : Expr} {to ti : TE} {t : Xr} (ho : PE X o to) (hi : PE X i ti) (hs : gu X t)
  (ha:∀ v,assign (.Subscript o i pos) X.env v = (do
   let ov <- holding [v] (eval o X.env)
   let iv <- holding [v,ov] (eval i X.env)
   standAt pos
   holding [v,ov,iv] (setItem ov iv v)
   release [v,ov,iv] []):=by intro _; rfl):PG X (.Subscript o i pos) (mn to ti t):=by
 intro pins s σ H v u Q I r h
 rw [ha]
 refine wpAny_bind (wpAny_holding (Bw (ho pins s σ H _ I h) fun ov s1 bA=>?_))
 obtain ⟨x,H1,I1,r1,q1⟩ := bA
 refine wpAny_bind (wpAny_holding (Bw (hi pins s1 σ H1 _ I1 q1) fun iv s2 bA=>?_))
 obtain ⟨y,H2,I2,r2,q2⟩ := bA
 refine wpAny_bind (wpAny_standAt (wpAny_bind (wpAny_holding (Bw (hs pins s2 σ H2 x y v ov iv u _ I2 r1 r2 r q2) fun _ s3 bA=>?_))))
 obtain ⟨H3,I3,q3⟩ := bA
 exact wpAny_release ⟨σ,H3,I3,q3⟩
def j7 (te:TE) (g:TG):TS:=fun D σ H=>te σ H fun x H1=>g x σ H1 D.nx
theorem R9 {tg e : Expr} {te : TE} {g : TG} (he : PE X e te) (hg : PG X tg g) (hs : swapsWithSole [tg] e pos.line X.env = pure false := by rfl) (hw : swappedStores [tg] e X.env = pure none := by rfl)
  (h1:(assignEach [tg] X.env).map (·.2) = [assign tg X.env]:=by rfl):PS X (.Assign [tg] e pos) (j7 te g):=by
 intro pins s σ H D I h
 refine wpAny_Assign_stores (Bw (he pins s σ H _ I h) fun v s1 ⟨x,H1,I1,r1,q1⟩=>?_) hs hw
 rw [h1]
 exact Bw (hg pins s1 σ H1 x v _ I1 r1 q1) fun _ s2 q=>q
theorem Ar {i : Nat} {x : Str} {e : Expr} {te : TE} {pos' : Pos} (hN : X.N.Nodup) (hi : X.N[i]? = some x) (hx : kd X.env.scope x) (he : PE X e te) (hs : swapsWith e (some (.Name x pos')) pos.line X.env = pure false := by rfl) (hf : X.fn x = true \/ X.env.scope.names.lookup x = some .local := by first | exact .inl rfl | exact .inr rfl | assumption) :
  PS X (.Assign [.Name x pos'] e pos) (j7 te (Fi i)):=by
 intro pins s σ H D I h
 refine wpAny_Assign_Name (Bw (he pins s σ H _ I h) fun v s1 ⟨y,H1,I1,r1,q1⟩=>?_) hs
 exact K4 I1 hN hi hx r1 (fun s2 I2=>⟨_,H1,I2,q1⟩) hf
def qx (i j:Nat) (ta:TA):TS:=fun D σ H=>ta σ H fun vs H1=>∃ v w,vs = [v,w] /\ D.nx ((σ.set i (some v)).set j (some w)) H1
def tj (i:Nat) (te:TE) (ti:kt):TS:=fun D σ H=>∃ x,σ[i]? = some (some x) /\ te σ H fun y H1=>ti x y H1 fun z H2=>D.nx (σ.set i (some z)) H2
def pd (to ti te:TE) (IH:V -> V -> Hp -> VK -> Prop) (tip:kt) (II:Xr):TS:=fun D σ H=>to σ H fun o H1=>ti σ H1 fun i H2=>IH o i H2 fun x H3=>te σ H3 fun y H4=>tip x y H4 fun z H5=>II o i z H5 fun H6=>D.nx σ H6
def qt (X:Cx) (t:V -> V -> Hp -> VK -> Prop):Prop :=
 ∀ (pins:List (Addr × Obj)) (s:Shared) (σ:St) (H:Hp) (o i:V) (ov iv:Value) (Q:VK),Ae X pins σ H s -> Ao o ov -> Ao i iv -> t o i H Q ->
  wpAny (model X.prog X.w) X.A (getItem ov iv) (EP X pins σ Q) X.xe s
def uo (f:Int -> Int -> Int):kt:=fun x y H Q=>∃ i j,x = .int i /\ y = .int j /\ Q (.int (f i j)) H
end
section
variable {X:Cx} {pos:Pos}
def Nn (c:TT) (tb:TS):TS:=fun D σ H=>∃ W:Nat -> St -> Hp -> Prop,(∃ m,W m σ H) /\ ∀ m σ H,W m σ H ->
 c σ H fun b H1=>if b = true then ∃ N:St -> Hp -> Prop,(∀ σ' H',N σ' H' -> ∃ m',m' < m /\ W m' σ' H') /\ tb { D with nx:=N,ct:=N,bk:=D.nx } σ H1 else D.nx σ H1
theorem Kn {c:Expr} {body:List Stmt} {tc:TT} {tb:TS} (hp:PassesOwn (model X.prog X.w) X.A X.env X.xe) (hc:PT X c tc) (hb:Ld X body tb):PS X (.While c body [] pos) (Nn tc tb):=by
 intro pins s σ H D I h
 obtain ⟨W,⟨m0,w0⟩,turn⟩ := h
 refine wpAny_While (codeAny_whileLoop (fun n s'=>∃ σ' H',Ae X pins σ' H' s' /\ W n σ' H') ?_ m0 ⟨σ,H,I,w0⟩)
 rintro n s1 ⟨σ1,H1,I1,w1⟩
 refine wpAny_passesOwn hp (Bw (hc pins s1 σ1 H1 _ I1 (turn n σ1 H1 w1)) fun b s2 bA=>?_)
 obtain ⟨H2,I2,q2⟩ := bA
 cases b with
 | true =>
  obtain ⟨N,hN,q2⟩ := q2
  rw [if_pos rfl]
  refine wpAny_passesOwn hp (Bw (hb pins s2 σ1 H2 _ I2 q2) fun f s3 q3=>?_)
  cases f with
  | next =>
   obtain ⟨σ3,H3,I3,n3⟩ := q3
   obtain ⟨m',hm,w3⟩ := hN σ3 H3 n3
   exact ⟨m',hm,σ3,H3,I3,w3⟩
  | cont =>
   obtain ⟨σ3,H3,I3,n3⟩ := q3
   obtain ⟨m',hm,w3⟩ := hN σ3 H3 n3
   exact ⟨m',hm,σ3,H3,I3,w3⟩
  | brk=>exact q3
  | ret v=>exact q3
 | false =>
  rw [if_neg Bool.false_ne_true]
  exact wpAny_execs_nil ⟨σ1,H2,I2,q2⟩
end
set_option genInjectivity false in
set_option genSizeOf false in
structure It where
 go:Nat -> Hp -> Prop
 uw:Nat -> Hp -> V -> Hp -> Prop
 stop:Nat -> Hp -> Prop
def Lb (X:Cx) (pins:List (Addr × Obj)) (H:Hp) (b:Addr):Prop :=
 H b = none /\ b ≠ X.env.locals /\ b ∉ X.fs /\ (b ∈ X.ex \/ X.s₀.heap.objs.size <= b) /\ (∀ x c,X.env.cells.lookup x = some c -> c ≠ b) /\ ∀ p ∈ X.pn ++ pins,p.1 ≠ b
theorem Ae.kC {X:Cx} {pins:List (Addr × Obj)} {σ:St} {H H':Hp} {s:Shared} {b:Addr} (I:Ae X pins σ H s) (hb:s.heap.objs.size <= b) (hn:H' b = none):Lb X pins H' b:=by
 refine ⟨hn,Nat.ne_of_gt (Nat.lt_of_lt_of_le I.lt hb),I.IB hb,.inr (Nat.le_trans I.sz hb),fun x c e z=>?_,fun p hp z=>?_⟩
 ·obtain ⟨v,q⟩ := I.cell x c e
  exact absurd (Nat.lt_of_lt_of_le q.lt (by rw [z]; exact hb)) (Nat.lt_irrefl _)
 ·exact absurd (Nat.lt_of_lt_of_le (Heap.lt_size (I.pin p hp).1) (by rw [z]; exact hb)) (Nat.lt_irrefl _)
structure Ry (P:Program) (w:World) (K:PySem.W.Frag) (tg:Expr) (J:It) (fp:List Addr) (it:Addr) (tn:Nat -> Heap -> Prop):Prop where
 mem:it ∈ fp
 obj:∀ i h,tn i h -> ∀ b ∈ fp,∃ o,h.get? b = some o /\ ∀ v,o.data ≠ .cell v
 keep:∀ i h h',tn i h -> (∀ b ∈ fp,∀ o,h.get? b = some o -> h'.get? b = some o) -> tn i h'
 item:∀ (X:Cx),X.prog = P -> X.w = w -> X.K = K -> X.calm = true -> ∀ (i:Nat) (pins:List (Addr × Obj)) (s:Shared) (σ:St) (H:Hp) (E:Value -> Shared -> Prop),Ae X pins σ H s -> (∀ b ∈ fp,Lb X pins H b) -> tn i s.heap -> J.go i H ->
  wpAny (model P w) X.A (pyNext (.ref it)) (fun r s1=>∃ u,r = some u /\
   wpAny (model P w) X.A (letOwnedTupleGo tg (.ref it) u) (fun _ s2=>∃ x H',Ae X pins σ H' s2 /\ Ao x u /\ J.uw i H x H' /\ tn (i + 1) s2.heap /\ ∀ b ∈ fp,H' b = none) E s1) E s
 done:∀ (X:Cx),X.prog = P -> X.w = w -> X.K = K -> X.calm = true -> ∀ (i:Nat) (pins:List (Addr × Obj)) (s:Shared) (σ:St) (H:Hp) (E:Value -> Shared -> Prop),Ae X pins σ H s -> (∀ b ∈ fp,Lb X pins H b) -> tn i s.heap -> J.stop i H ->
  wpAny (model P w) X.A (pyNext (.ref it)) (fun r s1=>r = none /\ Ae X pins σ H s1) E s
 self:∀ (A:Around) (i:Nat) (s:Shared) (Q:Value -> Shared -> Prop) (E:Value -> Shared -> Prop),tn i s.heap -> Q (.ref it) s -> wpAny (model P w) A (pyIter (.ref it)) Q E s
abbrev TI:=St -> Hp -> (It -> Hp -> Prop) -> Prop
def l0 (X:Cx) (pins:List (Addr × Obj)) (σ:St) (tg:Expr) (R:It -> Hp -> Prop) (GF:Value) (s2:Shared):Prop :=
 ∃ (it:Addr) (fp:List Addr) (tn:Nat -> Heap -> Prop) (J:It) (H':Hp),GF = .ref it /\ Ae X pins σ H' s2 /\ Ry X.prog X.w X.K tg J fp it tn /\ tn 0 s2.heap /\ (∀ b ∈ fp,Lb X pins H' b) /\ R J H'
def PI (X:Cx) (tg iter:Expr) (wi:TI):Prop :=
 ∀ (pins:List (Addr × Obj)) (s:Shared) (σ:St) (H:Hp) (R:It -> Hp -> Prop),Ae X pins σ H s -> wi σ H R ->
  wpAny (model X.prog X.w) X.A (eval iter X.env) (fun v s1=>wpAny (model X.prog X.w) X.A (pyIter v) (l0 X pins σ tg R) X.xe s1) X.xe s
theorem Wl {M : Model} {A : Around} {E : Value -> Shared -> Prop} {s : Shared} {tg : Expr} {it : Addr} {u : Value} {o : Obj} {n : String} {vs : Array Value} {Q : Unit -> Shared -> Prop} (ho : s.heap.get? it = some o) (hc : o.cls = .type n) (hd : o.data = .fields vs)
  (hn:["enumerate","zip","dict_itemiterator","dict_reverseitemiterator","odict_iterator","itertools.zip_longest","itertools.pairwise"].contains n = false) (hQ:Q () s):wpAny M A (letOwnedTupleGo tg (.ref it) u) Q E s:=by
 unfold letOwnedTupleGo
 cases tg <;> first
  | exact wpAny_pure hQ
  | (cases u <;> first
    | exact wpAny_pure hQ
    | (refine wpAny_bind (wpAny_load ho ?_)
       rw [hc,hd]
       show wpAny M A (if (["enumerate","zip","dict_itemiterator","dict_reverseitemiterator","odict_iterator","itertools.zip_longest","itertools.pairwise"].contains n && vs[0]? == some (rawInt _)) = true then _ else _) Q E s
       rw [if_neg (by intro h; rw [hn,Bool.false_and] at h; cases h)]
       exact wpAny_pure hQ))
def d8 (K:PySem.W.Frag) (a:Addr):It :=
 ⟨fun i H=>∃ xs x,Bj K H a xs /\ xs[i]? = some x,fun i H x H'=>H' = H /\ ∀ xs,Bj K H a xs -> xs[i]? = some x,fun i H=>∃ xs,Bj K H a xs /\ xs.length <= i⟩
def d0 (K:PySem.W.Frag) (a:Addr):It :=
 ⟨fun i H=>∃ xs x,Ci K H a xs /\ xs[i]? = some x,fun i H x H'=>H' = H /\ ∀ xs,Ci K H a xs -> xs[i]? = some x,fun i H=>∃ xs,Ci K H a xs /\ xs.length <= i⟩
def Zh (lo:Int) (n:Nat):It:=⟨fun i _=>i < n,fun i H x H'=>H' = H /\ x = .int (lo + i),fun i _=>n <= i⟩
theorem Uj {P:Program} {w:World} {K:PySem.W.Frag} {tg:Expr} (a it:Addr):Ry P w K tg (d8 K a) [it] it (fun i h=>h.IsListIter it a i) where
 mem:=by simp
 obj:=fun i h st b hb=>by
  have e:b = it:=by simpa using hb
  subst e
  obtain ⟨o,e,c,d⟩ := st
  exact ⟨o,e,fun v z=>by rw [d] at z; cases z⟩
 keep:=fun i h h' st k=>st.at fun o e=>k it (by simp) o e
 item:=by
  intro X hP hw hK hc i pins s σ H E I hf st hg
  subst hP hw hK
  obtain ⟨xs,x,hq,hx⟩ := hg
  obtain ⟨aH,rv,p,hz⟩ := I.list hq
  obtain ⟨u,hu,ru⟩ := rv.get hx
  obtain ⟨f0,f1,f2,f3,f4,f5⟩ := hf it (by simp)
  refine wpAny_pyNext_list_item st p.isList (x:=u) (by simpa using hu) fun h' aP sb=>?_
  have I1:Ae X pins σ H { s with heap:=h' }:=I.turned (t':=s.toks) (fun b o hb e=>(sb.2 b hb).trans e) f0 f1 f3 f4 f5
  obtain ⟨o,e,c,d⟩ := id aP
  exact ⟨u,rfl,Wl (s:={ s with heap:=h' }) e c d (by decide) ⟨x,H,I1,ru,⟨rfl,fun ys hy=>by rw [I.hV hy hq]; exact hx⟩,aP,fun b hb=>(hf b hb).1⟩⟩
 done:=by
  intro X hP hw hK hc i pins s σ H E I hf st hg
  subst hP hw hK
  obtain ⟨xs,hq,hx⟩ := hg
  obtain ⟨aH,rv,p,hz⟩ := I.list hq
  obtain ⟨f0,f1,f2,f3,f4,f5⟩ := hf it (by simp)
  have hl:=rv.length
  exact wpAny_pyNext_list_end (I.ok.hd hc) st p.isList (by simp; omega) fun h' eb=>⟨rfl,I.turned (t':=s.toks) (fun b o hb e=>eb b o hb e) f0 f1 f3 f4 f5⟩
 self:=fun _ _ _ _ _ st h=>wpAny_pyIter_listiter st h
theorem Rk {P:Program} {w:World} {K:PySem.W.Frag} {tg:Expr} (a it:Addr):Ry P w K tg (d0 K a) [it] it (fun i h=>h.IsTupleIter it a i) where
 mem:=by simp
 obj:=fun i h st b hb=>by
  have e:b = it:=by simpa using hb
  subst e
  obtain ⟨o,e,c,d⟩ := st
  exact ⟨o,e,fun v z=>by rw [d] at z; cases z⟩
 keep:=fun i h h' st k=>st.at fun o e=>k it (by simp) o e
 item:=by
  intro X hP hw hK hc i pins s σ H E I hf st hg
  subst hP hw hK
  obtain ⟨xs,x,hq,hx⟩ := hg
  obtain ⟨aH,rv,p,hz⟩ := I.tuple hq
  obtain ⟨u,hu,ru⟩ := rv.get hx
  obtain ⟨f0,f1,f2,f3,f4,f5⟩ := hf it (by simp)
  refine wpAny_pyNext_tuple_item st (show s.heap.IsTuple a aH.toArray from p) (x:=u) (by simpa using hu) fun h' aP sb=>?_
  have I1:Ae X pins σ H { s with heap:=h' }:=I.turned (t':=s.toks) (fun b o hb e=>(sb.2 b hb).trans e) f0 f1 f3 f4 f5
  obtain ⟨o,e,c,d⟩ := id aP
  exact ⟨u,rfl,Wl (s:={ s with heap:=h' }) e c d (by decide) ⟨x,H,I1,ru,⟨rfl,fun ys hy=>by rw [I.gC hy hq]; exact hx⟩,aP,fun b hb=>(hf b hb).1⟩⟩
 done:=by
  intro X hP hw hK hc i pins s σ H E I hf st hg
  subst hP hw hK
  obtain ⟨xs,hq,hx⟩ := hg
  obtain ⟨aH,rv,p,hz⟩ := I.tuple hq
  obtain ⟨f0,f1,f2,f3,f4,f5⟩ := hf it (by simp)
  have hl:=rv.length
  exact wpAny_pyNext_tuple_end (I.ok.hd hc) st (show s.heap.IsTuple a aH.toArray from p) (by simp; omega) fun h' eb=>⟨rfl,I.turned (t':=s.toks) (fun b o hb e=>eb b o hb e) f0 f1 f3 f4 f5⟩
 self:=fun _ _ _ _ _ st h=>wpAny_pyIter_tupleiter st h
theorem Qr {P:Program} {w:World} {K:PySem.W.Frag} {tg:Expr} (it:Addr) (lo:Int) (n:Nat):Ry P w K tg (Zh lo n) [it] it (fun i h=>IsRangeIter h it (lo + (i:Nat) * 1) ((n:Int) - (i:Nat)) 1) where
 mem:=by simp
 obj:=fun i h st b hb=>by
  have e:b = it:=by simpa using hb
  subst e
  exact ⟨_,st,fun v z=>by
   have z':Data.fields _ = Data.cell v:=z
   cases z'⟩
 keep:=fun i h h' st k=>k it (by simp) _ st
 item:=by
  intro X hP hw hK hc i pins s σ H E I hf st hg
  subst hP hw hK
  obtain ⟨f0,f1,f2,f3,f4,f5⟩ := hf it (by simp)
  have W:=Walks.range (prog:=X.prog) (w:=X.w) (I.ok.hd hc) it lo 1 n
  refine W.item i s _ _ hg st fun v h' tk hv aP kk=>?_
  obtain ⟨t,rfl⟩ := hv
  have I1:Ae X pins σ H { s with heap:=h',toks:=tk }:=I.turned (fun b o hb e=>kk b o (by simpa using hb) e) f0 f1 f3 f4 f5
  refine ⟨_,rfl,Wl (s:={ s with heap:=h',toks:=tk }) (n := "range_iterator") aP rfl rfl (by decide) ⟨.int (lo + i),H,I1,⟨t,?_⟩,⟨rfl,rfl⟩,aP,fun b hb=>(hf b hb).1⟩⟩
  rw [Int.mul_one]
 done:=by
  intro X hP hw hK hc i pins s σ H E I hf st hg
  subst hP hw hK
  obtain ⟨f0,f1,f2,f3,f4,f5⟩ := hf it (by simp)
  exact wpAny_pyNext_range_end (I.ok.hd hc) st (by have:n <= i:=hg; omega) fun h' eb=>⟨rfl,I.turned (t':=s.toks) (fun b o hb e=>eb b o hb e) f0 f1 f3 f4 f5⟩
 self:=fun _ _ _ _ _ st h=>wpAny_pyIter_rangeiter st h
section
variable {X:Cx} {tg:Expr}
def qi (K:PySem.W.Frag) (tl:TE):TI:=fun σ H R=>tl σ H fun x H1=>∃ a,x = .ref a /\ (∃ xs,Bj K H1 a xs) /\ R (d8 K a) H1
def sh (K:PySem.W.Frag) (tl:TE):TI:=fun σ H R=>tl σ H fun x H1=>∃ a,x = .ref a /\ (∃ xs,Ci K H1 a xs) /\ R (d0 K a) H1
theorem Ow {pins : List (Addr × Obj)} {σ : St} {H : Hp} {s : Shared} {R : It -> Hp -> Prop} {E : Value -> Shared -> Prop} {lo hi : Int} {t u v : Tok} {tk : Nat} (I : Ae X pins σ H s) (h1 : -(2 ^ 62) <= lo) (h2 : lo < 2 ^ 62) (h3 : -(2 ^ 62) <= hi) (h4 : hi < 2 ^ 62)
  (q:R (Zh lo (hi - lo).toNat) H):wpAny (model X.prog X.w) X.A (pyIter (.ref s.heap.objs.size)) (l0 X pins σ tg R) E { s with heap:=s.heap.push { cls := .type "range",data := .fields #[.int lo t,.int hi u,.int 1 v] },toks:=tk }:=by
 refine wpAny_pyIter_range (IsRange.new ..) (small_one h1 h2 h3 h4) ?_
 have I1:Ae X pins σ H { s with heap:=s.heap.push { cls := .type "range",data := .fields #[.int lo t,.int hi u,.int 1 v] },toks:=tk }:=I.kept fun b o e=>Heap.get?_push_of_some _ e
 refine ⟨(s.heap.push { cls := .type "range",data := .fields #[.int lo t,.int hi u,.int 1 v] }).objs.size,[(s.heap.push { cls := .type "range",data := .fields #[.int lo t,.int hi u,.int 1 v] }).objs.size],_,_,H,rfl,
  I1.kept (t':=tk) fun b o e=>Heap.get?_push_of_some _ e,Qr _ lo (hi - lo).toNat,?_,fun b hb=>?_,q⟩
 ·have e1:lo + ((0:Nat):Int) * 1 = lo:=by simp
  have e2:(((hi - lo).toNat:Nat):Int) - ((0:Nat):Int) = Builtin.Range.rangeSize lo hi 1:=by rw [rangeSize_one]; split <;> omega
  show IsRangeIter _ _ (lo + ((0:Nat):Int) * 1) ((((hi - lo).toNat:Nat):Int) - ((0:Nat):Int)) 1
  rw [e1,e2]
  exact Heap.get?_push_size _ rfl
 ·have e:b = (s.heap.push { cls := .type "range",data := .fields #[.int lo t,.int hi u,.int 1 v] }).objs.size:=by simpa using hb
  subst e
  exact I1.kC (Nat.le_refl _) (I1.aR.fresh (Nat.le_refl _))
def jd (ta:TA):TI:=fun σ H R=>ta σ H fun vs H1=>∃ j:Int,vs = [.int j] /\ -(2 ^ 62) <= j /\ j < 2 ^ 62 /\ R (Zh 0 j.toNat) H1
def ju (ta:TA):TI:=fun σ H R=>ta σ H fun vs H1=>∃ i j:Int,vs = [.int i,.int j] /\ (-(2 ^ 62) <= i /\ i < 2 ^ 62 /\ -(2 ^ 62) <= j /\ j < 2 ^ 62) /\ R (Zh i (j - i).toNat) H1
theorem E8 {a:Expr} {ta:TA} {p pos:Pos} (hg:Gl X "range") (hm:X.mg "range" = none) (ha:PA X [a] ta) (hs:starEach [a] X.env = [(false,eval a X.env)]:=by rfl):PI X tg (.Call (.Name "range" p) [a] [] pos) (jd ta):=by
 intro pins s σ H R I h
 refine Call_ (Io I hg hm boot_range (PyProof.Rows.callWith_type1 (Bw (ha pos pins s σ H _ I h) fun us s1 ⟨vs,H1,I1,r1,q1⟩=>?_) hs rfl))
 obtain ⟨j,e,q1,q2,q⟩ := q1
 subst e
 cases r1 with
 | cons r rr =>
  cases rr
  obtain ⟨t,rfl⟩ := r
  exact call_range_1 (Ow I1 (by omega) (by omega) q1 q2 (by simpa using q))
theorem U9 {a b : Expr} {ta : TA} {p pos : Pos} (hg : Gl X "range") (hm : X.mg "range" = none) (ha : PA X [a, b] ta) (hs : starEach [a, b] X.env = [(false, eval a X.env), (false, eval b X.env)] := by rfl) (uy : starEach [b] X.env = [(false, eval b X.env)] := by rfl) :
  PI X tg (.Call (.Name "range" p) [a,b] [] pos) (ju ta):=by
 intro pins s σ H R I h
 refine Call_ (Io I hg hm boot_range (PyProof.Rows.callWith_type1 (Bw (ha pos pins s σ H _ I h) fun us s1 ⟨vs,H1,I1,r1,q1⟩=>?_) (by rw [hs,uy]) (by rw [uy]; rfl)))
 obtain ⟨i,j,e,⟨q1,q2,q3,q4⟩,q⟩ := q1
 subst e
 cases r1 with
 | cons r rr =>
  cases rr with
  | cons r' rr =>
   cases rr
   obtain ⟨t,rfl⟩ := r
   obtain ⟨t',rfl⟩ := r'
   exact call_range_2 (Ow I1 q1 q2 q3 q4 q)
def m9 (wi:TI) (g:TG) (tb:TS):TS:=fun D σ H=>wi σ H fun J H1=>∃ W:Nat -> Nat -> St -> Hp -> Prop,(∃ m,W 0 m σ H1) /\ ∀ i m σ H,W i m σ H ->
 (J.stop i H /\ D.nx σ H) \/ (J.go i H /\ ∃ N:St -> Hp -> Prop,(∀ σ' H',N σ' H' -> ∃ m',m' < m /\ W (i + 1) m' σ' H') /\ ∀ x H',J.uw i H x H' -> g x σ H' fun σ2 H2=>tb { D with nx:=N,ct:=N,bk:=D.nx } σ2 H2)
def Kd (fp:List Addr) (h:Heap):List (Addr × Obj):=fp.filterMap fun b=>(h.get? b).map fun o=>(b,o)
theorem Eo {fp:List Addr} {h:Heap} {b:Addr} {o:Obj} (hb:b ∈ fp) (e:h.get? b = some o):(b,o) ∈ Kd fp h:=List.mem_filterMap.mpr ⟨b,hb,by rw [e]; rfl⟩
theorem U5 {fp:List Addr} {h:Heap} {p:Addr × Obj} (hp:p ∈ Kd fp h):p.1 ∈ fp /\ h.get? p.1 = some p.2:=by
 obtain ⟨b,hb,e⟩ := List.mem_filterMap.mp hp
 cases q:h.get? b with
 | none=>rw [q] at e; cases e
 | some o =>
  rw [q] at e
  have e':(b,o) = p:=Option.some.inj e
  subst e'
  exact ⟨hb,q⟩
theorem Ae.pinned {pins:List (Addr × Obj)} {σ:St} {H:Hp} {s:Shared} {fp:List Addr} (I:Ae X pins σ H s) (hf:∀ b ∈ fp,Lb X pins H b) (ho:∀ b ∈ fp,∃ o,s.heap.get? b = some o /\ ∀ v,o.data ≠ .cell v):Ae X (pins ++ Kd fp s.heap) σ H s :=
 I.jQ fun p hp=>(List.mem_append.mp hp).elim (fun z=>I.pin p (List.mem_append_right _ z)) fun z=>by
  obtain ⟨hb,e⟩ := U5 z
  obtain ⟨f0,f1,f2,_⟩ := hf p.1 hb
  obtain ⟨o,e',d⟩ := ho p.1 hb
  rw [e] at e'; cases e'
  exact ⟨e,f0,f1,f2,d⟩
theorem Ae.dB {pins pl:List (Addr × Obj)} {σ:St} {H:Hp} {s:Shared} (I:Ae X (pins ++ pl) σ H s):Ae X pins σ H s:=I.jQ fun p hp=>I.pin p (List.mem_append_right _ (List.mem_append_left _ hp))
theorem Cw {iter : Expr} {body : List Stmt} {wi : TI} {g : TG} {tb : TS} {pos : Pos} (hp : PassesOwn (model X.prog X.w) X.A X.env X.xe) (hc : X.calm = true) (hi : PI X tg iter wi) (hg : PG X tg g) (hb : Ld X body tb)
  (hs:∀ x,foldedSetIterable iter X.env x = pure x:=by intro _; rfl):PS X (.For tg iter body [] pos) (m9 wi g tb):=by
 intro pins s σ H D I h
 refine wpAny_For (Bw (hi pins s σ H _ I h) fun v s1 h1=>Bw h1 fun GF s2 h2=>?_) hs
 obtain ⟨it,fp,tn,J,H2,e,I2,T,aU,f2,W,⟨m0,w0⟩,turn⟩ := h2
 subst e
 have stat:∀ {H':Hp},(∀ b ∈ fp,H' b = none) -> ∀ b ∈ fp,Lb X pins H' b:=fun hn b hb=>⟨hn b hb,(f2 b hb).2⟩
 refine codeAny_forLoop_any (fun n s'=>∃ i σ' H',Ae X pins σ' H' s' /\ tn i s'.heap /\ (∀ b ∈ fp,H' b = none) /\ W i n σ' H') ?_ m0 ⟨0,σ,H2,I2,aU,fun b hb=>(f2 b hb).1,w0⟩
 rintro n s3 ⟨i,σ3,H3,I3,eS,GG,w3⟩
 rcases turn i n σ3 H3 w3 with ⟨stop,qn⟩ | ⟨go,N,hN,step⟩
 ·refine wpAny_passesOwn hp (Bw (T.done X rfl rfl rfl hc i pins s3 σ3 H3 X.xe I3 (stat GG) eS stop) fun r s4 bA=>?_)
  obtain ⟨hr,I4⟩ := bA
  subst hr
  exact wpAny_execs_nil ⟨σ3,H3,I4,qn⟩
 ·refine wpAny_passesOwn hp (Bw (T.item X rfl rfl rfl hc i pins s3 σ3 H3 X.xe I3 (stat GG) eS go) fun r s4 bA=>?_)
  obtain ⟨u,hr,h4⟩ := bA
  subst hr
  refine wpAny_passesOwn hp (Bw h4 fun _ s5 bA=>?_)
  obtain ⟨x,H5,I5,r5,y5,zx,fr5⟩ := bA
  have I5':=I5.pinned (stat fr5) (T.obj _ _ zx)
  refine wpAny_passesOwn hp (Bw (hg _ s5 σ3 H5 x u _ I5' r5 (step x H5 y5)) fun _ s6 bA=>?_)
  obtain ⟨σ6,H6,I6,q6⟩ := bA
  refine wpAny_passesOwn hp (Bw (hb _ s6 σ6 H6 _ I6 q6) fun f s7 q7=>?_)
  have again:∀ {σ7:St} {H7:Hp},Ae X (pins ++ Kd fp s5.heap) σ7 H7 s7 -> N σ7 H7 -> ∃ m,m < n /\ ∃ i σ' H',Ae X pins σ' H' s7 /\ tn i s7.heap /\ (∀ b ∈ fp,H' b = none) /\ W i m σ' H':=fun {σ7 H7} I7 n7=>by
   obtain ⟨m',hm,w7⟩ := hN σ7 H7 n7
   refine ⟨m',hm,i + 1,σ7,H7,I7.dB,T.keep _ _ _ zx fun b hb o e=>(I7.pin (b,o) (List.mem_append_right _ (List.mem_append_right _ (Eo hb e)))).1,fun b hb=>?_,w7⟩
   obtain ⟨o,e,d⟩ := T.obj _ _ zx b hb
   exact (I7.pin (b,o) (List.mem_append_right _ (List.mem_append_right _ (Eo hb e)))).2.1
  cases f with
  | next=>obtain ⟨σ7,H7,I7,n7⟩ := q7; exact again I7 n7
  | cont=>obtain ⟨σ7,H7,I7,n7⟩ := q7; exact again I7 n7
  | brk=>obtain ⟨σ7,H7,I7,q7⟩ := q7; exact ⟨σ7,H7,I7.dB,q7⟩
  | ret v=>obtain ⟨x7,σ7,H7,I7,r7,q7⟩ := q7; exact ⟨x7,σ7,H7,I7.dB,r7,q7⟩
end
theorem D4 {K : PySem.W.Frag} {a : Addr} {xs : List V} {g : TG} {tb : TS} {D : Go} {σ : St} {H : Hp} (Pv : Nat -> St -> Hp -> Prop) (h0 : Pv 0 σ H) (hl : ∀ i σ H, i <= xs.length -> Pv i σ H -> Bj K H a xs)
  (hs:∀ i x σ H,xs[i]? = some x -> Pv i σ H -> g x σ H fun σ2 H2=>tb { D with nx:=Pv (i + 1),ct:=Pv (i + 1),bk:=D.nx } σ2 H2) (hd:∀ σ H,Pv xs.length σ H -> D.nx σ H) :
  ∃ W:Nat -> Nat -> St -> Hp -> Prop,(∃ m,W 0 m σ H) /\ ∀ i m σ H,W i m σ H ->
   ((d8 K a).stop i H /\ D.nx σ H) \/ ((d8 K a).go i H /\ ∃ N:St -> Hp -> Prop,(∀ σ' H',N σ' H' -> ∃ m',m' < m /\ W (i + 1) m' σ' H') /\ ∀ x H',(d8 K a).uw i H x H' -> g x σ H' fun σ2 H2=>tb { D with nx:=N,ct:=N,bk:=D.nx } σ2 H2):=by
 refine ⟨fun i m σ H=>m = xs.length - i /\ i <= xs.length /\ Pv i σ H,⟨xs.length,by simp,Nat.zero_le _,h0⟩,?_⟩
 rintro i m σ H ⟨rfl,hi,p⟩
 have q:=hl i σ H hi p
 by_cases aX:i < xs.length
 ·refine .inr ⟨⟨xs,xs[i],q,by simp [aX]⟩,Pv (i + 1),fun σ' H' p'=>⟨xs.length - (i + 1),by omega,rfl,aX,p'⟩,fun x H' y=>?_⟩
  obtain ⟨e,y⟩ := y
  subst e
  exact hs i x σ _ (y xs q) p
 ·have e:i = xs.length:=by omega
  subst e
  exact .inl ⟨⟨xs,q,Nat.le_refl _⟩,hd σ H p⟩
theorem Su {K : PySem.W.Frag} {a : Addr} {xs : List V} {g : TG} {tb : TS} {D : Go} {σ : St} {H : Hp} (Pv : Nat -> St -> Hp -> Prop) (h0 : Pv 0 σ H) (hl : ∀ i σ H, i <= xs.length -> Pv i σ H -> Ci K H a xs)
  (hs:∀ i x σ H,xs[i]? = some x -> Pv i σ H -> g x σ H fun σ2 H2=>tb { D with nx:=Pv (i + 1),ct:=Pv (i + 1),bk:=D.nx } σ2 H2) (hd:∀ σ H,Pv xs.length σ H -> D.nx σ H) :
  ∃ W:Nat -> Nat -> St -> Hp -> Prop,(∃ m,W 0 m σ H) /\ ∀ i m σ H,W i m σ H ->
   ((d0 K a).stop i H /\ D.nx σ H) \/ ((d0 K a).go i H /\ ∃ N:St -> Hp -> Prop,(∀ σ' H',N σ' H' -> ∃ m',m' < m /\ W (i + 1) m' σ' H') /\ ∀ x H',(d0 K a).uw i H x H' -> g x σ H' fun σ2 H2=>tb { D with nx:=N,ct:=N,bk:=D.nx } σ2 H2):=by
 refine ⟨fun i m σ H=>m = xs.length - i /\ i <= xs.length /\ Pv i σ H,⟨xs.length,by simp,Nat.zero_le _,h0⟩,?_⟩
 rintro i m σ H ⟨rfl,hi,p⟩
 have q:=hl i σ H hi p
 by_cases aX:i < xs.length
 ·refine .inr ⟨⟨xs,xs[i],q,by simp [aX]⟩,Pv (i + 1),fun σ' H' p'=>⟨xs.length - (i + 1),by omega,rfl,aX,p'⟩,fun x H' y=>?_⟩
  obtain ⟨e,y⟩ := y
  subst e
  exact hs i x σ _ (y xs q) p
 ·have e:i = xs.length:=by omega
  subst e
  exact .inl ⟨⟨xs,q,Nat.le_refl _⟩,hd σ H p⟩
theorem U3 {lo : Int} {n : Nat} {g : TG} {tb : TS} {D : Go} {σ : St} {H : Hp} (Pv : Nat -> St -> Hp -> Prop) (h0 : Pv 0 σ H)
  (hs:∀ i σ H,i < n -> Pv i σ H -> g (.int (lo + i)) σ H fun σ2 H2=>tb { D with nx:=Pv (i + 1),ct:=Pv (i + 1),bk:=D.nx } σ2 H2) (hd:∀ σ H,Pv n σ H -> D.nx σ H) :
  ∃ W:Nat -> Nat -> St -> Hp -> Prop,(∃ m,W 0 m σ H) /\ ∀ i m σ H,W i m σ H ->
   ((Zh lo n).stop i H /\ D.nx σ H) \/ ((Zh lo n).go i H /\ ∃ N:St -> Hp -> Prop,(∀ σ' H',N σ' H' -> ∃ m',m' < m /\ W (i + 1) m' σ' H') /\ ∀ x H',(Zh lo n).uw i H x H' -> g x σ H' fun σ2 H2=>tb { D with nx:=N,ct:=N,bk:=D.nx } σ2 H2):=by
 refine ⟨fun i m σ H=>m = n - i /\ i <= n /\ Pv i σ H,⟨n,by simp,Nat.zero_le _,h0⟩,?_⟩
 rintro i m σ H ⟨rfl,hi,p⟩
 by_cases aX:i < n
 ·refine .inr ⟨aX,Pv (i + 1),fun σ' H' p'=>⟨n - (i + 1),by omega,rfl,aX,p'⟩,fun x H' y=>?_⟩
  obtain ⟨e,y⟩ := y
  subst e y
  exact hs i σ _ aX p
 ·have e:i = n:=by omega
  subst e
  exact .inl ⟨Nat.le_refl _,hd σ H p⟩
theorem Pt {c : TT} {tb : TS} {D : Go} {σ : St} {H : Hp} (Pv : St -> Hp -> Prop) (μ : St -> Hp -> Nat) (h0 : Pv σ H)
  (hs:∀ σ H,Pv σ H -> c σ H fun b H1=>if b = true then tb { D with nx:=fun σ' H'=>Pv σ' H' /\ μ σ' H' < μ σ H,ct:=fun σ' H'=>Pv σ' H' /\ μ σ' H' < μ σ H,bk:=D.nx } σ H1 else D.nx σ H1)
  (mono:∀ σ H Q Q',(∀ b H1,Q b H1 -> Q' b H1) -> c σ H Q -> c σ H Q'):Nn c tb D σ H:=by
 refine ⟨fun m σ H=>m = μ σ H /\ Pv σ H,⟨_,rfl,h0⟩,?_⟩
 rintro m σ H ⟨rfl,p⟩
 refine mono σ H _ _ (fun b H1 q=>?_) (hs σ H p)
 cases b with
 | true=>exact ⟨_,fun σ' H' ⟨p',l⟩=>⟨_,l,rfl,p'⟩,q⟩
 | false=>exact q
abbrev R2:=V -> V -> Hp -> VK -> Prop
def Hw (X:Cx) (f:Value -> Value -> Sem Value) (r:R2):Prop :=
 ∀ (pins:List (Addr × Obj)) (s:Shared) (σ:St) (H:Hp) (x y:V) (v u:Value) (Q:VK),Ae X pins σ H s -> Ao x v -> Ao y u -> r x y H Q ->
  wpAny (model X.prog X.w) X.A (f v u) (EP X pins σ Q) X.xe s
def ud (X:Cx) (f:Value -> Sem Value) (r:V -> Hp -> VK -> Prop):Prop :=
 ∀ (pins:List (Addr × Obj)) (s:Shared) (σ:St) (H:Hp) (x:V) (v:Value) (Q:VK),Ae X pins σ H s -> Ao x v -> r x H Q ->
  wpAny (model X.prog X.w) X.A (f v) (EP X pins σ Q) X.xe s
def El (X:Cx) (f:Value) (r:List V -> Hp -> VK -> Prop):Prop :=
 ∀ (pins:List (Addr × Obj)) (s:Shared) (σ:St) (H:Hp) (xs:List V) (us:List Value) (Q:VK),Ae X pins σ H s -> An xs us -> r xs H Q ->
  wpAny (model X.prog X.w) X.A (call f us) (EP X pins σ Q) X.xe s
def mv (X:Cx) (r:V -> Hp -> (Bool -> Hp -> Prop) -> Prop):Prop :=
 ∀ (pins:List (Addr × Obj)) (s:Shared) (σ:St) (H:Hp) (x:V) (v:Value) (Q:Bool -> Hp -> Prop),Ae X pins σ H s -> Ao x v -> r x H Q ->
  wpAny (model X.prog X.w) X.A (truthy v) (TP X pins σ Q) X.xe s
def km (r:R2) (ta tb:TE):TE:=fun σ H Q=>ta σ H fun x H1=>tb σ H1 fun y H2=>r x y H2 Q
def uj (r:V -> Hp -> VK -> Prop) (ta:TE):TE:=fun σ H Q=>ta σ H fun x H1=>r x H1 Q
def rI (C:Int -> Int -> Prop) (g:Int -> Int -> V):R2:=fun x y H Q=>∃ i j,x = .int i /\ y = .int j /\ C i j /\ Q (g i j) H
def bz (g:Int -> Int -> V):R2:=fun x y H Q=>∃ i j,x = .int i /\ y = .int j /\ Q (g i j) H
def rU (g:Int -> V):V -> Hp -> VK -> Prop:=fun x H Q=>∃ i,x = .int i /\ Q (g i) H
section
variable {X:Cx} {a b c:Expr} {ta tb tc:TE} {pos:Pos}
theorem ck (ha : PE X a ta) (hb : PE X b tb) {pins : List (Addr × Obj)} {s : Shared} {σ : St} {H : Hp} {R : V -> V -> Hp -> Prop} (I : Ae X pins σ H s)
  (h:ta σ H fun x H1=>tb σ H1 fun y H2=>R x y H2) {Q:Value -> Shared -> Prop} {f:Value -> Value -> Sem Value}
  (hf:∀ v u s2 x y H2,Ae X pins σ H2 s2 -> Ao x v -> Ao y u -> R x y H2 -> wpAny (model X.prog X.w) X.A (f v u) Q X.xe s2) :
  wpAny (model X.prog X.w) X.A (eval a X.env) (fun v s₁=>wpAny (model X.prog X.w) X.A (eval b X.env) (fun u s₂=>wpAny (model X.prog X.w) X.A (f v u) Q X.xe s₂) X.xe s₁) X.xe s:=by
 refine Bw (ha pins s σ H _ I h) fun v s1 bA=>?_
 obtain ⟨x,H1,I1,r1,q1⟩ := bA
 refine Bw (hb pins s1 σ H1 _ I1 q1) fun u s2 bA=>?_
 obtain ⟨y,H2,I2,r2,q2⟩ := bA
 exact hf v u s2 x y H2 I2 r1 r2 q2
theorem Be {op:Operator} {r:R2} (ho:Hw X (binaryOp op) r) (ha:PE X a ta) (hb:PE X b tb):PE X (.BinOp a op b pos) (km r ta tb):=by
 intro pins s σ H Q I h
 exact wpAny_BinOp (ck ha hb I h fun v u s2 x y H2 I2 rx ry q=>ho pins s2 σ H2 x y v u Q I2 rx ry q)
theorem kg {f : Value -> Value -> Sem Value} {C : Int -> Int -> Prop} {g : Int -> Int -> Int}
  (rule:∀ (i j:Int) (t u:Tok) (s:Shared) (Q:Value -> Shared -> Prop) (E:Value -> Shared -> Prop),C i j -> Q (.int (g i j) s.toks) { s with toks:=s.toks + 1 } -> wpAny (model X.prog X.w) X.A (f (.int i t) (.int j u)) Q E s) :
  Hw X f (rI C fun i j=>.int (g i j)):=by
 intro pins s σ H x y v u Q I rx ry h
 obtain ⟨i,j,rfl,rfl,hc,q⟩ := h
 obtain ⟨t,rfl⟩ := rx
 obtain ⟨t',rfl⟩ := ry
 exact rule i j t t' s _ _ hc ⟨.int (g i j),H,I.tok _,⟨_,rfl⟩,q⟩
theorem g8 {f : Value -> Value -> Sem Value} {g : Int -> Int -> Int}
  (rule:∀ (i j:Int) (t u:Tok) (s:Shared) (Q:Value -> Shared -> Prop) (E:Value -> Shared -> Prop),Q (.int (g i j) s.toks) { s with toks:=s.toks + 1 } -> wpAny (model X.prog X.w) X.A (f (.int i t) (.int j u)) Q E s) :
  Hw X f (bz fun i j=>.int (g i j)):=by
 intro pins s σ H x y v u Q I rx ry h
 obtain ⟨i,j,rfl,rfl,q⟩ := h
 obtain ⟨t,rfl⟩ := rx
 obtain ⟨t',rfl⟩ := ry
 exact rule i j t t' s _ _ ⟨.int (g i j),H,I.tok _,⟨_,rfl⟩,q⟩
theorem cw {f : Value -> Value -> Sem Value} {g : Int -> Int -> Bool}
  (rule:∀ (i j:Int) (t u:Tok) (s:Shared) (Q:Value -> Shared -> Prop) (E:Value -> Shared -> Prop),Q (.bool (g i j)) s -> wpAny (model X.prog X.w) X.A (f (.int i t) (.int j u)) Q E s) :
  Hw X f (bz fun i j=>.bl (g i j)):=by
 intro pins s σ H x y v u Q I rx ry h
 obtain ⟨i,j,rfl,rfl,q⟩ := h
 obtain ⟨t,rfl⟩ := rx
 obtain ⟨t',rfl⟩ := ry
 exact rule i j t t' s _ _ ⟨.bl (g i j),H,I,rfl,q⟩
def l5 (i j:Int):Prop:=0 < j /\ j < 1073741824
def o0 (i j:Int):Prop:=j ≠ 0 /\ j.natAbs < 1073741824
def nk (i j:Int):Prop:=0 <= j /\ j <= 1000000 /\ i.natAbs < 2 ^ 64
def Xc (i j:Int):Prop:=(-(2 ^ 64) < i /\ i < 2 ^ 64) \/ (-(2 ^ 64) < j /\ j < 2 ^ 64)
theorem Xc.ok {i j:Int} (h:Xc i j):IntMulOk i j:=by
 rcases h with ⟨h1,h2⟩ | ⟨h1,h2⟩
 ·exact .of_left (intBits_le_64 h1 h2)
 ·exact .of_right (intBits_le_64 h1 h2)
theorem Ew:Hw X (binaryOp .Add) (bz fun i j=>.int (i + j)):=g8 fun _ _ _ _ _ _ _ q=>add_int q
theorem Rg:Hw X (binaryOp .Sub) (bz fun i j=>.int (i - j)):=g8 fun _ _ _ _ _ _ _ q=>sub_int q
theorem Jo:Hw X (binaryOp .FloorDiv) (rI l5 fun i j=>.int (i / j)):=kg fun i j _ _ _ _ _ hc q=>by
 have h1:(0:Int) < j:=hc.1
 have h2:j < 1073741824:=hc.2
 exact floordiv_int (by omega) (by rw [Int.fdiv_eq_ediv_of_nonneg i (by omega)]; exact q) (.inl (PyProof.noPylong_small (by omega)))
theorem Dy:Hw X (binaryOp .Mod) (rI (fun _ j=>0 < j) fun i j=>.int (i % j)):=kg fun i j _ _ _ _ _ hc q=>by
 have h1:(0:Int) < j:=hc
 exact mod_int' (by omega) (by rw [Int.fmod_eq_emod_of_nonneg i (by omega)]; exact q)
theorem af:Hw X (binaryOp .Pow) (rI nk fun i j=>.int (i ^ j.toNat)):=kg fun _ _ _ _ _ _ _ hc q=>pow_int_small hc.1 hc.2.1 hc.2.2 q
end
def g7:V -> V -> Bool
 | .aW,.aW=>true | .aW,.int _=>true | .int _,.aW=>true | .aW,.bl _=>true | .bl _,.aW=>true | .aW,.str _=>true | .str _,.aW=>true
 | .int _,.int _=>true | .bl _,.bl _=>true | .str _,.str _=>true | .lB _,.lB _=>true
 | .int _,.str _=>true | .str _,.int _=>true | .bl _,.str _=>true | .str _,.bl _=>true
 | _,_=>false
def tf:R2:=fun x y H Q=>g7 x y = true /\ Q (.bl (decide (x = y))) H
def um:R2:=fun x y H Q=>g7 x y = true /\ Q (.bl (!decide (x = y))) H
theorem Xq {i j:Int}:decide (V.int i = V.int j) = (i == j):=by
 rw [Bool.eq_iff_iff]
 simp
theorem av {i j:Bool}:decide (V.bl i = V.bl j) = (i == j):=by
 rw [Bool.eq_iff_iff]
 simp
theorem Yg {i j:Str}:decide (V.str i = V.str j) = (i == j):=by
 rw [Bool.eq_iff_iff]
 simp
theorem Xu {i j:Array UInt8}:decide (V.lB i = V.lB j) = (i.toList == j.toList):=by
 rw [Bool.eq_iff_iff]
 cases i
 cases j
 simp
section
variable {X:Cx} {a b c:Expr} {ta tb tc:TE} {pos:Pos}
theorem Cc {pins:List (Addr × Obj)} {σ:St} {H:Hp} {s:Shared} {Q:VK} {k k':Bool} (I:Ae X pins σ H s) (q:Q (.bl k) H) (e:k = k'):EP X pins σ Q (.bool k') s:=by
 subst e
 exact ⟨.bl k,H,I,rfl,q⟩
theorem Wy:Hw X (compareOp .Eq) tf:=by
 intro pins s σ H x y v u Q I rx ry h
 obtain ⟨hs,q⟩ := h
 cases x with
 | aW =>
  cases rx
  cases y with
  | aW=>cases ry; exact PySem.EqNone.eq_none_none (Cc I q (by simp))
  | bl j=>cases ry; exact PySem.EqNone.eq_none_bool (Cc I q (by simp))
  | int j=>obtain ⟨t',rfl⟩ := ry; exact PySem.EqNone.eq_none_int (Cc I q (by simp))
  | str j=>obtain ⟨t',rfl⟩ := ry; exact PySem.EqNone.eq_none_str (Cc I q (by simp))
  | _=>exact absurd (show false = true from hs) Bool.false_ne_true
 | bl i =>
  cases rx
  cases y with
  | aW=>cases ry; exact PySem.EqNone.eq_bool_none (Cc I q (by simp))
  | bl j=>cases ry; exact eq_bool (Cc I q av)
  | str j=>obtain ⟨t',rfl⟩ := ry; exact PySem.EqMixed.eq_bool_str (Cc I q (by simp))
  | _=>exact absurd (show false = true from hs) Bool.false_ne_true
 | int i =>
  obtain ⟨t,rfl⟩ := rx
  cases y with
  | aW=>cases ry; exact PySem.EqNone.eq_int_none (Cc I q (by simp))
  | int j=>obtain ⟨t',rfl⟩ := ry; exact eq_int (Cc I q Xq)
  | str j=>obtain ⟨t',rfl⟩ := ry; exact PySem.EqMixed.eq_int_str (Cc I q (by simp))
  | _=>exact absurd (show false = true from hs) Bool.false_ne_true
 | str i =>
  obtain ⟨t,rfl⟩ := rx
  cases y with
  | aW=>cases ry; exact PySem.EqNone.eq_str_none (Cc I q (by simp))
  | bl j=>cases ry; exact PySem.EqMixed.eq_str_bool (Cc I q (by simp))
  | int j=>obtain ⟨t',rfl⟩ := ry; exact PySem.EqMixed.eq_str_int (Cc I q (by simp))
  | str j=>obtain ⟨t',rfl⟩ := ry; exact eq_str (Cc I q Yg)
  | _=>exact absurd (show false = true from hs) Bool.false_ne_true
 | lB i =>
  obtain ⟨t,rfl⟩ := rx
  cases y with
  | lB j=>obtain ⟨t',rfl⟩ := ry; exact PySem.W.eq_bytes (Cc I q Xu)
  | _=>exact absurd (show false = true from hs) Bool.false_ne_true
 | _=>cases y <;> exact absurd (show false = true from hs) Bool.false_ne_true
theorem Sg:Hw X (compareOp .Lt) (bz fun i j=>.bl (decide (i < j))):=cw fun _ _ _ _ _ _ _ q=>lt_int q
theorem Wr:Hw X (compareOp .Gt) (bz fun i j=>.bl (decide (j < i))):=cw fun _ _ _ _ _ _ _ q=>gt_int q
theorem gr:Hw X (compareOp .GtE) (bz fun i j=>.bl (decide (j <= i))):=cw fun _ _ _ _ _ _ _ q=>ge_int q
theorem Q9:Hw X (compareOp .Is) (fun x y H Q=>y = .aW /\ Q (.bl (decide (x = .aW))) H):=by
 intro pins s σ H x y v u Q I rx ry h
 obtain ⟨rfl,q⟩ := h
 cases ry
 refine is_none_gen (Cc I q ?_)
 cases x <;> first
  | (cases rx; rfl)
  | (obtain ⟨t,rfl⟩ := rx; rfl)
theorem Sz:Hw X (compareOp .IsNot) (fun x y H Q=>y = .aW /\ Q (.bl (!decide (x = .aW))) H):=by
 intro pins s σ H x y v u Q I rx ry h
 obtain ⟨rfl,q⟩ := h
 cases ry
 refine isnot_none_gen (Cc I q ?_)
 cases x <;> first
  | (cases rx; rfl)
  | (obtain ⟨t,rfl⟩ := rx; rfl)
def om:HO -> Bool
 | .lst _=>true
 | .ins _ _ _=>true
 | _=>false
theorem C8 (b:Expr) {op:CmpOp} (h:op ≠ .In:=by decide) (h2:op ≠ .NotIn:=by decide):behindInMarks op b = false:=by
 have e1:(op == CmpOp.In) = false:=by cases op <;> first | rfl | exact absurd rfl h
 have e2:(op == CmpOp.NotIn) = false:=by cases op <;> first | rfl | exact absurd rfl h2
 cases b <;> simp [behindInMarks,e1,e2]
theorem Du {op:CmpOp} {r:R2} (ho:Hw X (compareOp op) r) (ha:PE X a ta) (hb:PE X b tb) (hm:behindInMarks op b = false):PE X (.Compare a [op] [b] pos) (km r ta tb):=by
 intro pins s σ H Q I h
 exact wpAny_Compare1 (ck ha hb I h fun v u s2 x y H2 I2 rx ry q=>ho pins s2 σ H2 x y v u Q I2 rx ry q) hm
def gj (t:TE):TT:=fun σ H Q=>t σ H fun x H'=>∃ k,x = .bl k /\ Q k H'
theorem Ck {op:CmpOp} {r:R2} (ho:Hw X (compareOp op) r) (ha:PE X a ta) (hb:PE X b tb) (hm:behindInMarks op b = false):PT X (.Compare a [op] [b] pos) (gj (km r ta tb)):=by
 intro pins s σ H Q I h
 refine wpAny_isTrue_Compare1 (Bw (ha pins s σ H _ I h) fun v s1 ⟨x,H1,I1,r1,q1⟩=>Bw (hb pins s1 σ H1 _ I1 q1) fun u s2 ⟨y,H2,I2,r2,q2⟩ =>
  Bw (ho pins s2 σ H2 x y v u _ I2 r1 r2 q2) fun c s3 ⟨z,H3,I3,r3,k,e,q3⟩=>?_) hm
 subst e
 cases r3
 exact wpAny_truthy_bool ⟨H3,I3,q3⟩
def mq (r r':R2) (ta tb tc:TE):TE:=fun σ H Q=>ta σ H fun x H1=>tb σ H1 fun y H2=>r x y H2 fun z H3=>∃ k,z = .bl k /\
 (if k = true then tc σ H3 fun w' H4=>r' y w' H4 Q else Q (.bl false) H3)
def gv (K:PySem.W.Frag) (x:V) (H:Hp) (k:Bool):Prop :=
 match x with
 | .aW=>k = false
 | .bl b=>k = b
 | .int i=>k = (i != 0)
 | .str y=>y.length <= sizeLine /\ k = ((y.length:Int) != 0)
 | .lB y=>y.size <= sizeLine /\ k = ((y.size:Int) != 0)
 | .ref p=>(∃ xs,Bj K H p xs /\ k = !xs.isEmpty) \/ (∃ xs,Ci K H p xs /\ k = !xs.isEmpty) \/ ∃ kvs,H p = some (.dK kvs) /\ k = !kvs.isEmpty
 | _=>False
theorem Qg {κ:Type} {kvs:List (κ × V)} {vs:List (κ × Value)} (r:KV kvs vs):(!vs.isEmpty) = !kvs.isEmpty:=by
 cases r <;> rfl
theorem Js {xs:List V} {aH:List Value} (r:An xs aH):(!aH.toArray.isEmpty) = !xs.isEmpty:=by
 cases r <;> simp
theorem Gq:(sizeLine:Nat) < 2 ^ 63:=by rw [sizeLine_eq]; decide
theorem ao:mv X (fun x H Q=>∃ k,gv X.K x H k /\ Q k H):=by
 intro pins s σ H x v Q I rx h
 obtain ⟨k,e,q⟩ := h
 have hl:=Gq
 have hs:sizeLine = 16777216:=sizeLine_eq
 cases x with
 | aW =>
  cases rx
  have e':k = false:=e
  subst e'
  exact truthy_none ⟨H,I,q⟩
 | bl b =>
  cases rx
  have e':k = b:=e
  subst e'
  exact wpAny_truthy_bool ⟨H,I,q⟩
 | int i =>
  obtain ⟨t,rfl⟩ := rx
  have e':k = (i != 0):=e
  subst e'
  exact PySem.P.truthy_int ⟨H,I,q⟩
 | str y =>
  obtain ⟨t,rfl⟩ := rx
  obtain ⟨hy,e'⟩ : y.length <= sizeLine /\ k = ((y.length:Int) != 0):=e
  subst e'
  exact PySem.P.truthy_str (by omega) ⟨H,I.tok _,q⟩
 | lB y =>
  obtain ⟨t,rfl⟩ := rx
  obtain ⟨hy,e'⟩ : y.size <= sizeLine /\ k = ((y.size:Int) != 0):=e
  subst e'
  exact PySem.W.truthy_bytes (by omega) ⟨H,I.tok _,q⟩
 | ref p =>
  cases rx
  have e':(∃ xs,Bj X.K H p xs /\ k = !xs.isEmpty) \/ (∃ xs,Ci X.K H p xs /\ k = !xs.isEmpty) \/ ∃ kvs,H p = some (.dK kvs) /\ k = !kvs.isEmpty:=e
  rcases e' with ⟨xs,hx,e'⟩ | ⟨xs,hx,e'⟩ | ⟨kvs,hx,e'⟩
  ·subst e'
   obtain ⟨aH,r,pl,hz⟩ := I.list hx
   have hlen:=r.length
   exact wpAny_truthy_list pl.isList (by simp only [List.size_toArray]; omega) ⟨H,I.tok _,by rw [Js r]; exact q⟩
  ·subst e'
   obtain ⟨aH,r,pl,hz⟩ := I.tuple hx
   have hlen:=r.length
   exact truthy_tuple pl (by simp only [List.size_toArray]; omega) ⟨H,I.tok _,by rw [Js r]; exact q⟩
  ·subst e'
   obtain ⟨hz,hS,vs,r,m⟩ : kvs.length <= sizeLine /\ (p == sysModules) = false /\ ∃ vs,KV kvs vs /\ s.heap.DictOf (Cp X.prog X.w) p vs:=I.aR p _ hx
   have hlen:kvs.length = vs.length:=Paired.length r
   exact wpAny_truthy_dict hS m (by omega) ⟨H,I.tok _,by rw [Qg r]; exact q⟩
 | _=>exact (show False from e).elim
theorem Kj (ha : PE X a ta) (he : ∀ whole, isTrue a X.env whole = (do let v <- whole; standAt a.pos; holding [v] (truthy v))) :
  PT X a (fun σ H Q=>ta σ H fun x H'=>∃ k,gv X.K x H' k /\ Q k H'):=by
 intro pins s σ H Q I h
 exact isTrue_plain (Bw (ha pins s σ H _ I h) fun v s1 ⟨x,H1,I1,r1,q1⟩=>ao pins s1 σ H1 x v Q I1 r1 q1) (he _)
def j9 (b:Expr):Prop := ∀ o i,subscripted b false o i = operate [o,i] (getItem o i)
theorem Ke {x:V} {us:List Value} (r:An [x] us):∃ u,us = [u] /\ Ao x u:=by
 cases r with
 | cons r1 r2=>cases r2; exact ⟨_,rfl,r1⟩
theorem jm {x y:V} {us:List Value} (r:An [x,y] us):∃ u w',us = [u,w'] /\ Ao x u /\ Ao y w':=by
 cases r with
 | cons r1 r2 =>
  cases r2 with
  | cons r3 r4=>cases r4; exact ⟨_,_,rfl,r1,r3⟩
theorem Tu (hc:X.calm = true):El X (.builtin "max") (fun xs H Q=>∃ i j,xs = [.int i,.int j] /\ Q (.int (if j > i then j else i)) H):=by
 intro pins s σ H xs us Q I r h
 obtain ⟨i,j,rfl,q⟩ := h
 obtain ⟨u,w',rfl,⟨t,rfl⟩,⟨t',rfl⟩⟩ := jm r
 refine max_two_ints (I.ok.hd hc) fun h' tk k=>⟨_,H,I.kept k,?_,q⟩
 by_cases hj:j > i
 ·rw [if_pos hj,if_pos hj]; exact ⟨_,rfl⟩
 ·rw [if_neg hj,if_neg hj]; exact ⟨_,rfl⟩
theorem Uy:El X (.type "int") (fun xs H Q=>(∃ i,xs = [.int i] /\ Q (.int i) H) \/ ∃ k,xs = [.bl k] /\ Q (.int (if k then 1 else 0)) H):=by
 intro pins s σ H xs us Q I r h
 rcases h with ⟨i,rfl,q⟩ | ⟨k,rfl,q⟩
 ·obtain ⟨u,rfl,t,rfl⟩ := Ke r
  exact call_int_int ⟨.int i,H,I,⟨_,rfl⟩,q⟩
 ·obtain ⟨u,rfl,r1⟩ := Ke r
  cases r1
  exact call_int_bool ⟨.int (if k then 1 else 0),H,I.tok _,⟨_,rfl⟩,q⟩
def sw (K:PySem.W.Frag) (x:V) (H:Hp) (n:Nat):Prop :=
 match x with
 | .str y=>y.length <= sizeLine /\ n = y.length
 | .lB y=>y.size <= sizeLine /\ n = y.size
 | .ref p=>(∃ xs,Bj K H p xs /\ n = xs.length) \/ ∃ xs,Ci K H p xs /\ n = xs.length
 | _=>False
end
structure rl (h:Heap) (x dx C:Addr) (mA:Str -> Option Value):Prop where
 obj:h.get? x = some (PySem.W.instObj C dx)
 ns:h.Ns1 dx mA
 ne:dx ≠ x
section
variable {prog:Program} {w:World} {A:Around} {E:Value -> Shared -> Prop} {s:Shared} {K:PySem.W.Frag} {x dx C f:Addr} {mA:Str -> Option Value} {name:Str} {v:Value}
end
def bh (f:Str) (v:V):List (Str × V) -> List (Str × V)
 | []=>[(f,v)]
 | (g,x) :: r=>if g = f then (g,v) :: r else (g,x) :: bh f v r
theorem Ir.some_of {v:V} {o:Option Value} (r:Ir (some v) o):∃ u,o = some u /\ Ao v u:=by
 cases o with
 | none=>exact (show False from r).elim
 | some u=>exact ⟨u,rfl,r⟩
section
variable {P:Program} {w:World} {H H':Hp} {h h':Heap} {a C dx:Addr} {fs uu:List (Str × V)}
end
structure de (K:PySem.W.Frag) (C:Addr):Prop where
 pg:PySem.W.plainGet K C Str.empty = true
 hd:PySem.W.hasDictIn K C = true
 po:PySem.W.plainOver K C = true
 sa:PySem.W.findIn K (.ref C) "__setattr__" = some (some (.builtin "object.__setattr__"))
theorem de.get {K:PySem.W.Frag} {C:Addr} (c:de K C) (f:Str):PySem.W.plainGet K C f = true:=c.pg
def Qn (K:PySem.W.Frag) (C:Addr) (f:Str):Prop:=PySem.W.findIn K (.ref C) f = some none
structure rm (K:PySem.W.Frag) (C:Addr) (f:Str) (v:V) (u:Value):Prop where
 at_:PySem.W.findIn K (.ref C) f = some (some u)
 rel:Ao v u
 get:PySem.W.specialIn K u "__get__" = some none
 cp:PySem.W.copiedNames.contains f = false
structure tm (K:PySem.W.Frag) (C:Addr) (m:Str) (f:Addr):Prop where
 at_:PySem.W.findIn K (.ref C) m = some (some (.ref f))
 fn:PySem.W.isFn K (.ref f) = true
 kp:PySem.W.keepIn K (.ref f) = true
section
variable {X:Cx} {pins:List (Addr × Obj)} {σ:St} {H:Hp} {s:Shared} {a C dx:Addr} {fs:List (Str × V)} {f:Str} {v:V} {A:Around} {E:Value -> Shared -> Prop}
end
def rk (K:PySem.W.Frag) (ta:TE) (f:Str):TE:=fun σ H Q=>ta σ H fun x H1=>∃ a C dx fs v,x = .ref a /\ H1 a = some (.ins C dx fs) /\ de K C /\ Qn K C f /\ fs.lookup f = some v /\ Q v H1
def rh (K:PySem.W.Frag) (ta:TE) (f:Str):TE:=fun σ H Q=>ta σ H fun x H1=>∃ a C dx fs v u,x = .ref a /\ H1 a = some (.ins C dx fs) /\ de K C /\ rm K C f v u /\ fs.lookup f = none /\ Q v H1
def qo (K:PySem.W.Frag) (ta tv:TE) (f:Str):TS:=fun D σ H=>tv σ H fun y H1=>ta σ H1 fun x H2=>∃ a C dx fs,x = .ref a /\ H2 a = some (.ins C dx fs) /\ de K C /\ Qn K C f /\ fs.length < 1000 /\
 D.nx σ (upd H2 a (.ins C dx (bh f y fs)))
def qk (X:Cx) (op:Operator) (rd:V -> V -> Hp -> VK -> Prop):Prop :=
 ∀ (pins:List (Addr × Obj)) (s:Shared) (σ:St) (H:Hp) (x y:V) (u v:Value) (Q:VK),Ae X pins σ H s -> Ao x u -> Ao y v -> rd x y H Q -> wpAny (model X.prog X.w) X.A (inplaceOp op u v) (EP X pins σ Q) X.xe s
def k9 (K:PySem.W.Frag) (ta tv:TE) (rd:V -> V -> Hp -> VK -> Prop) (f:Str):TS:=fun D σ H=>ta σ H fun x H1=>∃ a C dx fs v,x = .ref a /\ H1 a = some (.ins C dx fs) /\ de K C /\ Qn K C f /\ fs.lookup f = some v /\
 tv σ H1 fun y H2=>rd v y H2 fun z H3=>∃ dx' uu,H3 a = some (.ins C dx' uu) /\ uu.length < 1000 /\ D.nx σ (upd H3 a (.ins C dx' (bh f z uu)))
section
variable {X:Cx} {o e value:Expr} {f:Str} {pos pos' kD:Pos} {ta tv:TE}
def qr:V -> V -> Hp -> VK -> Prop:=fun x y H Q=>∃ i j,x = .int i /\ y = .int j /\ Q (.int (i + j)) H
def qz:V -> V -> Hp -> VK -> Prop:=fun x y H Q=>∃ i j,x = .int i /\ y = .int j /\ Q (.int (i - j)) H
end
section
variable {X:Cx} {pins:List (Addr × Obj)} {σ:St} {H:Hp} {s:Shared} {A:Around} {E:Value -> Shared -> Prop} {Q:Value -> Shared -> Prop} {c:Value} {b:Bool}
inductive Ja (K:PySem.W.Frag) (H:Hp):V -> Value -> Prop where
 | aW:Ja K H .aW (.type "NoneType")
 | bl (x:Bool):Ja K H (.bl x) (.type "bool")
 | int (i:Int):Ja K H (.int i) (.type "int")
 | str (x:Str):Ja K H (.str x) (.type "str")
 | zp (x:UInt64):Ja K H (.zp x) (.type "float")
 | lst {a:Addr} {xs:List V} (e:H a = some (.lst xs)):Ja K H (.ref a) (.type "list")
 | bK {a:Addr} {o:Obj} {xs:List V} (e:H a = some (.bK o (.lst xs))):Ja K H (.ref a) (.type "list")
 | tup {a:Addr} {xs:List V} (e:H a = some (.tup xs)):Ja K H (.ref a) (.type "tuple")
 | dK {a:Addr} {kvs:List (Ct × V)} (e:H a = some (.dK kvs)):Ja K H (.ref a) (.type "dict")
 | dT {a:Addr} {kvs:List ((List Int × Int) × V)} (e:H a = some (.dT kvs)):Ja K H (.ref a) (.type "dict")
 | ins {a C dx : Addr} {fs : List (Str × V)} (e : H a = some (.ins C dx fs)) (cl : de K C) (ha : PySem.W.findIn K (.ref C) "__class__" = some (some (.builtin "object.__class__")))
   (hn:PySem.W.specialIn K (.builtin "object.__class__") "__get__" = some (some (.builtin "getset_descriptor.__get__"))) (htk:PySem.W.takesIn K (.builtin "object.__class__") = some true)
   (hm:PySem.W.mroIn K C (.type "object") = some true):Ja K H (.ref a) (.ref C)
end
structure C0 (k:Nat) (A:Around):Prop where
 hd:A.handled = none
 dp:A.depth + 3 * k + 5 < recursionLimit
 un:A.units + 16 * k + 200 < cLine
theorem C0.mono {j k:Nat} {A:Around} (r:C0 k A) (h:j <= k):C0 j A:=⟨r.hd,by have:=r.dp; omega,by have:=r.un; omega⟩
theorem C0.deeper {k:Nat} {A:Around} (r:C0 (k + 1) A) (env:Env):C0 k (A.deeper env) :=
 ⟨r.hd,by have:=r.dp; show A.depth + 1 + 3 * k + 5 < _; omega,by have:=r.un; show A.units + 3 + 16 * k + 200 < _; omega⟩
theorem C0.in1 {k:Nat} {A:Around} (r:C0 (k + 1) A):C0 k A.in1 :=
 ⟨r.hd,by have:=r.dp; show A.depth + 3 * k + 5 < _; omega,by have:=r.un; show A.units + 1 + 16 * k + 200 < _; omega⟩
theorem C0.depth {k:Nat} {A:Around} (r:C0 k A):A.depth < recursionLimit:=by have:=r.dp; omega
theorem C0.units {k:Nat} {A:Around} (r:C0 k A):A.units + 64 < cLine:=by have:=r.un; omega
def jl:TA:=fun _ H Q=>Q [] H
def Zp (ta:TE) (tr:TA):TA:=fun σ H Q=>ta σ H fun x H1=>tr σ H1 fun xs H2=>Q (x :: xs) H2
section
variable {X:Cx} {e:Expr} {es:List Expr} {te:TE} {t:TA} {pos:Pos}
theorem A7:PA X [] jl:=fun _ _ _ _ H Q I h=>Calls.spliced_nil ⟨[],H,I,.nil,h⟩
theorem A0 (ha:PE X e te) (hr:PA X es t) (hs:starEach (e :: es) X.env = (false,eval e X.env) :: starEach es X.env:=by rfl):PA X (e :: es) (Zp te t):=by
 intro pos pins s σ H Q I h
 rw [hs]
 show wpAny _ _ (spliced ((false,eval e X.env) :: backTo pos (starEach es X.env))) _ _ s
 refine Calls.spliced_cons (Bw (ha pins s σ H _ I h) fun u s1 bA=>?_)
 obtain ⟨x,H1,I1,r1,q1⟩ := bA
 exact Bw (hr pos pins s1 σ H1 _ I1 q1) fun us s2 ⟨xs,H2,I2,r2,q2⟩=>⟨x :: xs,H2,I2,.cons r1 r2,q2⟩
def mr (t:TA):TE:=fun σ H Q=>t σ H fun xs H1=>xs.length <= sizeLine /\ ∀ p,H1 p = none -> Q (.ref p) (upd H1 p (.tup xs))
def lr (t:TA):TE:=fun σ H Q=>t σ H fun xs H1=>xs.length <= sizeLine /\ ∀ p,H1 p = none -> Q (.ref p) (upd H1 p (.lst xs))
theorem Bl {x1} (h:PA X es t):PE X (.Tuple es x1 pos) (mr t):=by
 intro pins s σ H Q I hq
 refine wpAny_Tuple_spliced (Bw (h pos pins s σ H _ I hq) fun us s1 ⟨xs,H1,I1,r,z,q⟩=>⟨by rw [<- r.length]; exact z,?_⟩)
 have hf:H1 s1.heap.objs.size = none:=I1.aR.fresh (Nat.le_refl _)
 refine ⟨.ref s1.heap.objs.size,upd H1 s1.heap.objs.size (.tup xs),I1.laid (t':=s1.toks) (fun b u e=>Heap.get?_push_of_some _ e) (Nat.le_refl _) ?_,rfl,q _ hf⟩
 exact ⟨⟨z,⟨_,Heap.get?_push_size _ rfl,rfl⟩⟩,us,r,⟨_,Heap.get?_push_size _ rfl,rfl,_,rfl⟩⟩
theorem D9 (h:PA X es t):PE X (.List es pos) (lr t):=by
 intro pins s σ H Q I hq
 refine wpAny_List_spliced (Bw (h pos pins s σ H _ I hq) fun us s1 ⟨xs,H1,I1,r,z,q⟩=>⟨by rw [<- r.length]; exact z,?_⟩)
 have hf:H1 s1.heap.objs.size = none:=I1.aR.fresh (Nat.le_refl _)
 refine ⟨.ref s1.heap.objs.size,upd H1 s1.heap.objs.size (.lst xs),I1.laid (t':=s1.toks) (fun b u e=>Heap.get?_push_of_some _ e) (Nat.le_refl _) ?_,rfl,q _ hf⟩
 exact ⟨z,us,0,r,Heap.get?_push_size _ rfl⟩
end
abbrev Sp:=List V -> Hp -> VK -> XK -> Prop
abbrev Si:=List Env -> Hp -> Shared -> XK -> Value -> Shared -> Prop
structure R7 (P:Program) (w:World) (K:PySem.W.Frag) (mg:Str -> Option Value) (base:Heap) (A:Around) (outer:List Env) (s:Shared) (H:Hp):Prop where
 frames:A.frames = some outer
 mod:Mod K mg base
 bs:∀ b o,base.get? b = some o -> s.heap.get? b = some o /\ H b = none
 lD:base.objs.size <= s.heap.objs.size
 dA:s.heap.FunFrames base outer
 pH:∀ b ∈ dY outer,H b = none
 aR:Fe P w H s.heap
 bare:AllBare s.gens
def CE (outer:List Env) (P:Program) (w:World) (H:Hp) (s:Shared) (Q:VK) (u:Value) (s':Shared):Prop :=
 ∃ v H',s'.os = s.os /\ AllBare s'.gens /\ Un (dY outer) [] H H' s.heap s'.heap /\ Fe P w H' s'.heap /\ Ao v u /\ Q v H'
def CR (CX:Si) (outer:List Env) (P:Program) (w:World) (H:Hp) (s:Shared) (Q:VK) (E:XK) (r:Result) (s':Shared):Prop :=
 match r with
 | .ok (.ret u)=>CE outer P w H s Q u s'
 | .ok _=>False
 | .error e=>CX outer H s E e s'
structure Ai (P:Program) (w:World) (K:PySem.W.Frag) (mg:Str -> Option Value) (base:Heap) (CX:Si) (k:Nat) (f:Addr) (fd:FuncData) (ps:List Str) (sp:Sp):Prop where
 len:∀ vs H Q E,sp vs H Q E -> vs.length = ps.length
 run:∀ (A:Around) (outer:List Env) (s:Shared) (H:Hp) (args:Args) (us:List Value) (vs:List V) (Q:VK) (E:XK),C0 k A -> R7 P w K mg base A outer s H -> BindsTo s fd args (ps.zip us) -> An vs us -> sp vs H Q E ->
  codeAny (model P w) A (.call (.ref f) args) (CR CX outer P w H s Q E) s
theorem Ai.mono {P : Program} {w : World} {K : PySem.W.Frag} {mg : Str -> Option Value} {base : Heap} {CX : Si} {j k : Nat} {f : Addr} {fd : FuncData} {ps : List Str} {sp : Sp} (F : Ai P w K mg base CX j f fd ps sp) (h : j <= k) :
  Ai P w K mg base CX k f fd ps sp:=⟨F.len,fun A outer s H args us vs Q E hr=>F.run A outer s H args us vs Q E (hr.mono h)⟩
theorem Ai.imp {P : Program} {w : World} {K : PySem.W.Frag} {mg : Str -> Option Value} {base : Heap} {CX : Si} {k : Nat} {f : Addr} {fd : FuncData} {ps : List Str} {sp sp' : Sp} (F : Ai P w K mg base CX k f fd ps sp)
  (h:∀ vs H Q E,sp' vs H Q E -> sp vs H Q E):Ai P w K mg base CX k f fd ps sp' :=
 ⟨fun vs H Q E q=>F.len vs H Q E (h _ _ _ _ q),fun A outer s H args us vs Q E hr he hb hv hs=>F.run A outer s H args us vs Q E hr he hb hv (h _ _ _ _ hs)⟩
theorem R7.in1 {P : Program} {w : World} {K : PySem.W.Frag} {mg : Str -> Option Value} {base : Heap} {A : Around} {outer : List Env} {s : Shared} {H : Hp} (e : R7 P w K mg base A outer s H) :
  R7 P w K mg base A.in1 outer s H:=⟨e.frames,e.mod,e.bs,e.lD,e.dA,e.pH,e.aR,e.bare⟩
section
variable {X:Cx} {pins:List (Addr × Obj)} {σ:St} {H:Hp} {s s':Shared}
theorem Ae.zy (I:Ae X pins σ H s):R7 X.prog X.w X.K X.mg X.base X.A X.stack s H :=
 ⟨I.ok.frames,I.ok.mod,I.bs,Nat.le_trans I.ok.lD I.sz,I.stack,I.cH,I.aR,I.bare⟩
theorem Ae.after {Q:VK} {u:Value} (I:Ae X pins σ H s) (h:CE X.stack X.prog X.w H s Q u s'):EP X pins σ Q u s':=by
 obtain ⟨v,H',os,bare,un,aR,r,q⟩ := h
 obtain ⟨hh,g,d,t,os'⟩ := s'
 obtain rfl:os' = s.os:=os
 exact ⟨v,H',I.call (h':=hh) (g':=g) (d':=d) (t':=t) (ch:=[]) un aR bare (fun b z=>absurd z (by simp)),r,q⟩
end
def iq (sp:Sp) (gD:List V) (E:XK) (t:TA):TE:=fun σ H Q=>t σ H fun vs H1=>sp (vs ++ gD) H1 Q E
def og (C:Addr) (m:Str) (sp:Sp) (gD:List V) (E:XK) (ta:TE) (t:TA):TE:=fun σ H Q=>ta σ H fun x H1=>∃ a dx fs,x = .ref a /\ H1 a = some (.ins C dx fs) /\ fs.lookup m = none /\
 t σ H1 fun vs H2=>sp (x :: (vs ++ gD)) H2 Q E
def ou (C:Addr) (sp:Sp) (gD:List V) (E:XK) (t:TA):TE:=fun σ H Q=>t σ H fun vs H1=>∀ x dx,H1 x = none -> H1 dx = none -> dx ≠ x ->
 sp (.ref x :: (vs ++ gD)) (upd (upd H1 dx (.own x)) x (.ins C dx [])) (fun v H2=>v = .aW /\ Q (.ref x) H2) E
def Aw (K:PySem.W.Frag) (fd:FuncData) (ps:List Str) (ds:List Value):Prop :=
 ∀ (s:Shared) (us:List Value),K.In s.heap -> (us ++ ds).length = ps.length -> BindsTo s fd ⟨us,[]⟩ (ps.zip (us ++ ds))
theorem Aw.all {K:PySem.W.Frag} {fd:FuncData} {ps:List Str} (h:∀ us:List Value,us.length = ps.length -> bindArgs fd ⟨us,[]⟩ = pure (ps.zip us)):Aw K fd ps []:=fun s us _ hl=>by
 rw [List.append_nil] at hl ⊢
 exact .of_eq (h us hl)
def Rm (CX:Si) (X:Cx) (E:XK):Prop := ∀ (pins:List (Addr × Obj)) (σ:St) (H:Hp) (s:Shared) (e:Value) (s':Shared),Ae X pins σ H s -> CX X.stack H s E e s' -> X.xe e s'
section
variable {X:Cx} {CX:Si} {k:Nat} {f C:Addr} {fd:FuncData} {ps:List Str} {sp:Sp} {gD:List V} {ds:List Value} {E:XK} {x m:Str} {p pos apos:Pos} {e o:Expr} {es:List Expr} {ta:TE} {t:TA}
theorem bg {pins : List (Addr × Obj)} {σ : St} {H : Hp} {s : Shared} {Q : VK} {us : List Value} {vs : List V} (F : Ai X.prog X.w X.K X.mg X.base CX k f fd ps sp) (hr : C0 k X.A) (hb : Aw X.K fd ps ds) (hd : An gD ds) (hx : Rm CX X E)
  (I:Ae X pins σ H s) (r:An vs us) (h:sp (vs ++ gD) H Q E):wpAny (model X.prog X.w) X.A (call (.ref f) us) (EP X pins σ Q) X.xe s:=by
 have r2:An (vs ++ gD) (us ++ ds):=r.append hd
 have hl:(us ++ ds).length = ps.length:=by rw [<- r2.length]; exact F.len _ _ _ _ h
 refine wpAny_call (codeAny_mono (F.run X.A X.stack s H ⟨us,[]⟩ (us ++ ds) (vs ++ gD) Q E hr I.zy (hb s us I.lI hl) r2 h) fun r s' hq=>?_)
 cases r with
 | error e=>exact hx pins σ H s e s' I hq
 | ok fl =>
  cases fl with
  | ret u=>exact I.after hq
  | next=>exact False.elim hq
  | brk=>exact False.elim hq
  | cont=>exact False.elim hq
theorem Ag (F : Ai X.prog X.w X.K X.mg X.base CX k f fd ps sp) (hr : C0 k X.A) (hg : Gl X x) (hm : X.mg x = some (.ref f)) (hk : PySem.W.keepIn X.K (.ref f) = true) (hb : Aw X.K fd ps ds) (hd : An gD ds) (hx : Rm CX X E)
  (ha:PA X (e :: es) t) (kA:(x == ("__debug__" : Str)) = false:=by decide) (he:starEach (e :: es) X.env = (false,eval e X.env) :: starEach es X.env:=by rfl) (kE:(backTo pos (starEach es X.env)).any (·.1) = false:=by rfl) :
  PE X (.Call (.Name x p) (e :: es) [] pos) (iq sp gD E t):=by
 intro pins s σ H Q I h
 refine wpAny_Call_Name_kw (Jp I hg hm ?_ kA)
 refine PySem.W.callWith_K (h₀:=X.base) I.ok.mod.hJ hk (Bw (ha pos pins s σ H _ I h) fun us s1 ⟨vs,H1,I1,r,q⟩=>⟨I1.lI,?_⟩) he kE
 exact bg F hr hb hd hx I1 r q
structure Mk (K:PySem.W.Frag) (C f:Addr):Prop where
 makes:PySem.W.makesIn K C = true
 init:PySem.W.findIn K (.ref C) "__init__" = some (some (.ref f))
 fn:PySem.W.isFn K (.ref f) = true
 kp:PySem.W.keepIn K (.ref C) = true
end
def PK (X:Cx) (kws:List Keyword) (t:TA):Prop :=
 ∀ (pos:Pos) (pins:List (Addr × Obj)) (s:Shared) (σ:St) (H:Hp) (Q:List V -> Hp -> Prop),Ae X pins σ H s -> t σ H Q -> wpAny (model X.prog X.w) X.A (evalAll ((backToKw pos (keywordEach kws X.env)).map (·.2))) (AP X pins σ Q) X.xe s
section
variable {X:Cx} {CX:Si} {k:Nat} {f C:Addr} {fd:FuncData} {ps ks:List Str} {sp:Sp} {E:XK} {x m:Str} {p pos apos IJ:Pos} {e o:Expr} {es:List Expr} {kws:List Keyword} {te ta:TE} {t tk:TA} {nm:Option Str}
structure lv (K:PySem.W.Frag) (fd:FuncData) (ps ks:List Str) (g:List Value -> List Value -> List Value) (gV:List V -> List V -> List V):Prop where
 to:∀ (s:Shared) (us ws:List Value),K.In s.heap -> (g us ws).length = ps.length -> BindsTo s fd ⟨us,ks.zip ws⟩ (ps.zip (g us ws))
 rel:∀ {vs:List V} {us:List Value} {zs:List V} {ws:List Value},An vs us -> An zs ws -> An (gV vs zs) (g us ws)
def lw (sp:Sp) (gV:List V -> List V -> List V) (E:XK) (t tk:TA):TE:=fun σ H Q=>t σ H fun vs H1=>tk σ H1 fun zs H2=>sp (gV vs zs) H2 Q E
variable {g:List Value -> List Value -> List Value} {gV:List V -> List V -> List V}
end
structure Aq (N P:List Str) (sc:Scope):Prop where
 kind:sc.kind = .function
 co:sc.isCoroutine = false
 gen:sc.isGenerator = false
 nd:N.Nodup
 pre:N.take P.length = P
 par:∀ x ∈ P,sc.names.lookup x = some .local \/ sc.names.lookup x = some .cell
 uz:∀ y ∈ sc.names,y.2 ≠ .free
theorem Ls {kindOf:Str -> Option NameKind} {x:Str}:∀ {binds:List (Str × Value)} {m:Str -> Option Value},(∀ v,(x,v) ∉ binds) -> bindL kindOf binds m x = m x
 | [],_,_=>rfl
 | (n,v) :: r,m,h=>by
  unfold bindL
  rw [Ls fun w hw=>h w (List.mem_cons_of_mem _ hw)]
  split
  ·have:x ≠ n:=by rintro rfl; exact h v List.mem_cons_self
   simp [this]
  ·rfl
theorem Lv {kindOf:Str -> Option NameKind} {x:Str}:∀ {binds:List (Str × Value)} {m:Str -> Option Value},(∀ v,(x,v) ∉ binds) -> bindC kindOf binds m x = m x
 | [],_,_=>rfl
 | (n,v) :: r,m,h=>by
  unfold bindC
  rw [Lv fun w hw=>h w (List.mem_cons_of_mem _ hw)]
  split
  ·rfl
  ·have:x ≠ n:=by rintro rfl; exact h v List.mem_cons_self
   simp [this]
theorem Mq {kindOf : Str -> Option NameKind} {x : Str} {v : Value} : ∀ {P : List Str} {vs : List Value} {i : Nat} {m : Str -> Option Value}, P.Nodup -> P[i]? = some x -> vs[i]? = some v -> kindOf x = some .local ->
  bindL kindOf (P.zip vs) m x = some v
 | [],_,_,_,_,h,_,_=>by simp at h
 | _ :: _,[],_,_,_,_,h,_=>by simp at h
 | p :: P,w :: vs,0,m,nd,h1,h2,hk=>by
  simp at h1 h2; subst h1; subst h2
  show bindL kindOf ((p,w) :: P.zip vs) m p = _
  unfold bindL
  rw [Ls fun v hv=>(List.nodup_cons.mp nd).1 (List.of_mem_zip hv).1,if_pos hk]
  simp
 | p :: P,w :: vs,i + 1,m,nd,h1,h2,hk=>by
  show bindL kindOf ((p,w) :: P.zip vs) m x = _
  unfold bindL
  exact Mq (i:=i) (List.nodup_cons.mp nd).2 (by simpa using h1) (by simpa using h2) hk
theorem N6 {kindOf : Str -> Option NameKind} {x : Str} {v : Value} : ∀ {P : List Str} {vs : List Value} {i : Nat} {m : Str -> Option Value}, P.Nodup -> P[i]? = some x -> vs[i]? = some v -> kindOf x ≠ some .local ->
  bindC kindOf (P.zip vs) m x = some v
 | [],_,_,_,_,h,_,_=>by simp at h
 | _ :: _,[],_,_,_,_,h,_=>by simp at h
 | p :: P,w :: vs,0,m,nd,h1,h2,hk=>by
  simp at h1 h2; subst h1; subst h2
  show bindC kindOf ((p,w) :: P.zip vs) m p = _
  unfold bindC
  rw [Lv fun v hv=>(List.nodup_cons.mp nd).1 (List.of_mem_zip hv).1,if_neg hk]
  simp
 | p :: P,w :: vs,i + 1,m,nd,h1,h2,hk=>by
  show bindC kindOf ((p,w) :: P.zip vs) m x = _
  unfold bindC
  exact N6 (i:=i) (List.nodup_cons.mp nd).2 (by simpa using h1) (by simpa using h2) hk
def start (N:List Str) (vs:List V):St:=vs.map some ++ List.replicate (N.length - vs.length) none
def Dz (CX:Si) (P:Program) (w:World) (K:PySem.W.Frag) (mg:Str -> Option Value) (base:Heap) (N:List Str) (qual:Str) (scope:Scope) (f:Addr) (cd:Value) (A:Around) (outer:List Env) (s:Shared) (H:Hp) (E:XK):Cx where
 prog:=P
 w:=w
 K:=K
 mg:=mg
 base:=base
 A:=A.deeper (envOfC qual scope s.heap.objs.size f cd)
 N:=N
 s₀:=s
 H₀:=H
 env:=envOfC qual scope s.heap.objs.size f cd
 outer:=outer
 stack:=envOfC qual scope s.heap.objs.size f cd :: outer
 ex:=[]
 calm:=true
 fn:=fun _=>true
 pn:=[]
 xe:=fun e s'=>wpAny (model P w) (A.deeper (envOfC qual scope s.heap.objs.size f cd)) (leaving (envOfC qual scope s.heap.objs.size f cd) e) (fun _ IK=>CX outer H s E e IK) (fun e' IK=>CX outer H s E e' IK) s'
theorem Ox {sc:Scope} {n:Nat} {x:Str} (h:sc.names.lookup x = some .cell):∃ c,(cellsFrom n sc.names []).lookup x = some c:=by
 have q:=PySem.W.cellsFrom_some sc.names n [] (.inl h)
 exact Option.isSome_iff_exists.mp q
theorem Tr {CX : Si} {P : Program} {w : World} {K : PySem.W.Frag} {mg : Str -> Option Value} {base : Heap} {N ps : List Str} {qual : Str} {scope : Scope} {f : Addr} {cd : Value} {A : Around} {outer : List Env} {s s1 : Shared} {H : Hp} {E : XK} {us : List Value} {vs : List V}
  (S:Aq N ps scope) (hd:A.handled = none) (e0:R7 P w K mg base A outer s H) (hl:vs.length = ps.length) (r:An vs us)
  (x:InCallC s s.heap.objs.size (bindL (envOfC qual scope s.heap.objs.size f cd).kindOf (ps.zip us) fun _=>none) (cellsFrom (s.heap.objs.size + 1) scope.names []) (bindC (envOfC qual scope s.heap.objs.size f cd).kindOf (ps.zip us) fun _=>none) s1) :
  Ae (Dz CX P w K mg base N qual scope f cd A outer s H E) [] (start N vs) H s1:=by
 have kE:ps.length <= N.length:=by have:=congrArg List.length S.pre; rw [List.length_take] at this; omega
 obtain ⟨h1,tk,rfl,hk⟩ := x.done
 have zz:∀ b:Addr,b ∉ (Dz CX P w K mg base N qual scope f cd A outer s H E).ex:=fun b z=>absurd (show b ∈ ([]:List Addr) from z) (by simp)
 refine ⟨⟨e0.mod,S.kind,rfl,rfl,Nat.le_refl _,fun y z c h1 h2=>?_,fun y hy=>?_,fun y c _ h=>?_,fun _=>hd,Around.frames_deeper e0.frames,.inr ⟨rfl,rfl⟩,fun b z=>absurd z (zz b),e0.bs,e0.lD,fun b _ _=>zz b,fun b z=>absurd z (zz b),e0.dA,e0.pH⟩,
  rfl,e0.bare,Un.kept hk,⟨_,x.toInCall.ns,fun i y v h1 h2 h3=>?_⟩,fun y c h=>⟨_,x.cell y c h⟩,e0.aR.fresh (Nat.le_refl _),fun y c h=>?_,fun p hp=>absurd (show p ∈ ([]:List (Addr × Obj)) from hp) (by simp),e0.aR.kept hk,?_⟩
 ·exact name_of_addr x.apart (PySem.mem_of_lookup h1) (PySem.mem_of_lookup h2)
 ·have hy:scope.names.lookup y = some .cell \/ scope.names.lookup y = some .free:=hy
  rcases hy with hy | hy
  ·exact Ox hy
  ·exact absurd rfl (S.uz _ (PySem.mem_of_lookup hy))
 ·exact Nat.le_of_lt (x.above y c (PySem.mem_of_lookup h))
 ·have hi : i < vs.length := by
   unfold start at h2
   by_cases hi:i < vs.length
   ·exact hi
   ·rw [List.getElem?_append_right (by simpa using hi)] at h2
    rw [List.getElem?_replicate] at h2
    split at h2 <;> cases h2
  have ha:vs[i]? = some v:=by
   unfold start at h2
   rw [List.getElem?_append_left (by simpa using hi),List.getElem?_map] at h2
   cases e:vs[i]? with
   | none=>rw [e] at h2; cases h2
   | some a=>rw [e] at h2; cases h2; rfl
  obtain ⟨u,hu,rv⟩ := r.get ha
  have hp:ps[i]? = some y:=by
   rw [<- S.pre,List.getElem?_take_of_lt (by omega)]; exact h1
  have ndP:ps.Nodup:=by rw [<- S.pre]; exact S.nd.sublist (List.take_sublist _ _)
  refine ⟨u,rv,?_⟩
  rcases S.par y (List.mem_of_getElem? hp) with k | k
  ·exact .inl ⟨k,Mq ndP hp hu k⟩
  ·obtain ⟨c,e⟩ := Ox (n:=s.heap.objs.size + 1) k
   refine .inr ⟨.inl k,c,e,?_⟩
   have q:=x.cell y c e
   rw [N6 ndP hp hu (by show scope.names.lookup y ≠ _; rw [k]; decide)] at q
   exact q
 ·exact e0.aR.fresh (Nat.le_of_lt (x.above y c (PySem.mem_of_lookup h)))
 ·unfold start
  show _ = N.length
  rw [List.length_append,List.length_map,List.length_replicate]
  omega
theorem Ss {CX : Si} {P : Program} {w : World} {K : PySem.W.Frag} {mg : Str -> Option Value} {base : Heap} {k : Nat} {f : Addr} {name qual : Str} {params : Arguments} {body : List Stmt} {scope : Scope} {dV kV doc pm aV ct oc : Value} {an od : Option Addr}
  {gO:Array (Option Value)} {N ps:List Str} {sp:Sp} (lk:K.lookup f = some ⟨oc,od,.func (PySem.W.fnOf name qual params body scope dV kV doc pm an aV ct),gO⟩) (iV:PySem.W.codeIn K aV qual = true) (S:Aq N ps scope)
  (len:∀ vs H Q E,sp vs H Q E -> vs.length = ps.length)
  (bM:∀ (A:Around) (outer:List Env) (s:Shared) (H:Hp) (vs:List V) (Q:VK) (E:XK),C0 k (A.deeper (envOfC qual scope s.heap.objs.size f aV)) -> sp vs H Q E ->
   ∃ t,Ld (Dz CX P w K mg base N qual scope f aV A outer s H E) body t /\ t { nx:=fun _ H'=>Q .aW H',rt:=Q } (start N vs) H) :
  Ai P w K mg base CX (k + 1) f (PySem.W.fnOf name qual params body scope dV kV doc pm an aV ct) ps sp:=by
 refine ⟨len,fun A outer s H args us vs Q E hr e0 hb r jS=>?_⟩
 have hl:=len _ _ _ _ jS
 have KX:K.In s.heap:=e0.mod.hJ.keeps fun b o e=>(e0.bs b o e).1
 have lim:s.heap.NoLimit:=e0.mod.nolimit.keeps fun b o e=>(e0.bs b o e).1
 have zA:∀ y ∈ ps.zip us,scope.names.lookup y.1 = some .local \/ (scope.names.lookup y.1 = some .cell /\ ((cellsFrom (s.heap.objs.size + 1) scope.names []).lookup y.1).isSome = true):=fun ⟨n,v⟩ hy=>by
  rcases S.par n (List.of_mem_zip hy).1 with q | q
  ·exact .inl q
  ·exact .inr ⟨q,PySem.W.cellsFrom_some _ _ _ (.inl q)⟩
 refine codeAny_call_function hr.depth (KX _ _ lk) rfl S.co S.gen rfl (PySem.W.codeRec_of KX iV) (hb _ _ _ _ ?_)
 refine wpAny_newFunctionEnv_cells S.kind zA fun env he s1 x=>?_
 subst he
 refine ⟨lim.keeps x.toInCall.keep,codeAny_func ?_⟩
 obtain ⟨t,ht,hq⟩ := bM A outer s H vs Q E (hr.deeper _) jS
 have I:Ae (Dz CX P w K mg base N qual scope f aV A outer s H E) [] (start N vs) H s1:=Tr S hr.hd e0 hl r x
 refine wpAny_mono (ht [] s1 (start N vs) H _ I hq) (fun fl s' hs=>?_) fun e s' hs=>hs
 have fin:∀ {σ':St} {H':Hp} {v:V} {u:Value},Ae (Dz CX P w K mg base N qual scope f aV A outer s H E) [] σ' H' s' -> Ao v u -> Q v H' -> CE outer P w H s Q u s' :=
  fun {σ' H' v u} J rv q=>⟨v,H',J.os,J.bare,J.base,J.aR,rv,q⟩
 cases fl with
 | ret u =>
  obtain ⟨v,σ',H',J,rv,q⟩ := hs
  exact fin J rv q
 | next =>
  obtain ⟨σ',H',J,q⟩ := hs
  exact fin (v:=V.aW) (u:=Value.none) J rfl q
 | brk =>
  obtain ⟨_,_,_,q⟩ := hs
  exact False.elim q
 | cont =>
  obtain ⟨_,_,_,q⟩ := hs
  exact False.elim q
section
variable {X:Cx} {x:Str} {p pos:Pos} {e:Expr} {es:List Expr} {t:TA} {id T:String} {r:List V -> Hp -> VK -> Prop}
def nw (r:List V -> Hp -> VK -> Prop) (t:TA):TE:=fun σ H Q=>t σ H fun vs H1=>r vs H1 Q
theorem Bt (hc : El X (.builtin id) r) (hg : Gl X x) (hm : X.mg x = none) (hv : bootBuiltins x = some (.builtin id)) (ha : PA X (e :: es) t) (hn : x ≠ "__name__" := by decide) (kA : (x == ("__debug__" : Str)) = false := by decide)
  (he:starEach (e :: es) X.env = (false,eval e X.env) :: starEach es X.env:=by rfl) (kE:(backTo pos (starEach es X.env)).any (·.1) = false:=by rfl):PE X (.Call (.Name x p) (e :: es) [] pos) (nw r t):=by
 intro pins s σ H Q I h
 refine wpAny_Call_Name_kw (Io I hg hm hv ?_ hn kA)
 exact PyProof.Rows.callWith_builtin1 (Bw (ha pos pins s σ H _ I h) fun us s1 ⟨vs,H1,I1,r1,q1⟩=>hc pins s1 σ H1 vs us Q I1 r1 q1) he kE
theorem G8 (hc : El X (.type T) r) (hg : Gl X x) (hm : X.mg x = none) (hv : bootBuiltins x = some (.type T)) (ha : PA X (e :: es) t) (hn : x ≠ "__name__" := by decide) (kA : (x == ("__debug__" : Str)) = false := by decide)
  (he:starEach (e :: es) X.env = (false,eval e X.env) :: starEach es X.env:=by rfl) (kE:(backTo pos (starEach es X.env)).any (·.1) = false:=by rfl):PE X (.Call (.Name x p) (e :: es) [] pos) (nw r t):=by
 intro pins s σ H Q I h
 refine wpAny_Call_Name_kw (Io I hg hm hv ?_ hn kA)
 exact PyProof.Rows.callWith_type1 (Bw (ha pos pins s σ H _ I h) fun us s1 ⟨vs,H1,I1,r1,q1⟩=>hc pins s1 σ H1 vs us Q I1 r1 q1) he kE
end
end L2
namespace HT
local macro_rules | `(tactic| omega) => `(tactic| lia)
open PySem PyProof.Rows
def lexLt:List Int -> List Int -> Bool
 | [],[]=>false
 | [],_ :: _=>true
 | _ :: _,[]=>false
 | x :: xs,y :: ys=>if x = y then lexLt xs ys else decide (x < y)
section
open PySem.SeqAt
open PySem.AutoSeq1 (wpAny_loadPart')
open PySem.MeetsSeq PySem.MeetsSeq2 PySem.MeetsSeq3
end
section
variable {prog:Program} {w:World} {A:Around} {E:Value -> Shared -> Prop} {s:Shared}
theorem pM {t b : Addr} {vs ws : List Value} {Q : Value -> Shared -> Prop} (ht : IsTup s.heap t vs.toArray) (hb : IsTup s.heap b ws.toArray) (hv : vs ≠ [])
  (h1:ws = [] -> Q (.ref t) s) (h2:ws ≠ [] -> Q (.ref s.heap.objs.size) { s with heap:=s.heap.push { cls := .type "tuple",data := .seq (vs ++ ws).toArray } })
  (hsz:vs.length + ws.length <= sizeLine):wpAny (model prog w) A (binaryOp .Add (.ref t) (.ref b)) Q E s:=by
 obtain ⟨⟨cls,dd,data,sl⟩,ho,hc,n,hd⟩ := id ht
 obtain ⟨⟨cls2,z6,data2,z7⟩,hX,iW,n2,hd2⟩ := id hb
 simp only at hc hd iW hd2
 subst hc hd iW hd2
 have e:vs.toArray ++ ws.toArray = (vs ++ ws).toArray:=by simp
 by_cases hw:ws = []
 ·exact concat_meets ⟨_, ho, rfl⟩ ⟨_, hX, rfl⟩ noFill_tuple_add seq_tuple_add PySem.F.slot_tuple_add PySem.F.entry_tuple_add (PySem.F.args_tuple_add_2 _ _)
   (tuple_addW1 t b vs.toArray ws.toArray n n2 dd z6 sl z7 (by simpa using hv) (by simp [hw])) ⟨ho,hX,h1 hw⟩
 ·refine concat_meets ⟨_, ho, rfl⟩ ⟨_, hX, rfl⟩ noFill_tuple_add seq_tuple_add PySem.F.slot_tuple_add PySem.F.entry_tuple_add (PySem.F.args_tuple_add_2 _ _)
   (tuple_addW2 t b vs.toArray ws.toArray n n2 dd z6 sl z7 (by simpa using hv) (by simpa using hw) (by rw [List.size_toArray,List.size_toArray]; exact hsz)) ⟨ho,hX,?_⟩
  rw [e]
  exact h2 hw
def fQ (n d:Nat):Option Int -> Nat
 | none=>d
 | some v=>if v < 0 then (v + (n:Int)).toNat else min v.toNat n
theorem jT (n d k:Nat):fQ n d (some (k:Int)) = min k n:=by
 show (if (k:Int) < 0 then ((k:Int) + (n:Int)).toNat else min (k:Int).toNat n) = min k n
 rw [if_neg (by omega),Int.toNat_natCast]
end
end HT
namespace L2
local macro_rules | `(tactic| omega) => `(tactic| lia)
open PySem PySem.Spec PyProof.Rows
abbrev TO:=St -> Hp -> (Option Int -> Hp -> Prop) -> Prop
def PO (X:Cx) (e:Option Expr) (t:TO):Prop :=
 ∀ (pins:List (Addr × Obj)) (s:Shared) (σ:St) (H:Hp) (Q:Option Int -> Hp -> Prop),Ae X pins σ H s -> t σ H Q ->
  wpAny (model X.prog X.w) X.A (evalPart e X.env) (fun u s'=>∃ o H',Ae X pins σ H' s' /\ IsPart u o /\ Q o H') X.xe s
def jx:TO:=fun _ H Q=>Q none H
def fu (t:TE):TO:=fun σ H Q=>t σ H fun x H1=>∃ i,x = .int i /\ Q (some i) H1
section
variable {X:Cx} {e:Expr} {te:TE} {lo hi:Option Expr} {tl th:TO} {pos p2:Pos}
theorem Tf (h:PE X e te):PO X (some e) (fu te):=by
 intro pins s σ H Q I hw
 rw [evalPart_some]
 refine Bw (h pins s σ H _ I hw) fun u s1 bA=>?_
 obtain ⟨x,H1,I1,r1,q1⟩ := bA
 obtain ⟨i,rfl,q⟩ := q1
 obtain ⟨t,rfl⟩ := r1
 exact ⟨some i,H1,I1,.int i t,q⟩
def li (X:Cx) (r:V -> Option Int -> Option Int -> Hp -> VK -> Prop):Prop :=
 ∀ (pins:List (Addr × Obj)) (s:Shared) (σ:St) (H:Hp) (x:V) (v vl vu:Value) (lo hi:Option Int) (sl:Addr) (Q:VK),Ae X pins σ H s -> Ao x v -> s.heap.IsSliceOf sl vl vu .none -> IsPart vl lo -> IsPart vu hi -> r x lo hi H Q ->
  ∃ T id,typeLookup (.type T) "__getitem__" = pure (some (.builtin id)) /\ s.TypeIs v T /\ wpAny (model X.prog X.w) X.A (getItem v (.ref sl)) (EP X pins σ Q) X.xe s
def rc (r:V -> Option Int -> Option Int -> Hp -> VK -> Prop) (te:TE) (tl th:TO):TE:=fun σ H Q=>te σ H fun x H1=>tl σ H1 fun l H2=>th σ H2 fun u H3=>r x l u H3 Q
theorem Xa {r:V -> Option Int -> Option Int -> Hp -> VK -> Prop} (hr:li X r) (he:PE X e te) (hl:PO X lo tl) (hu:PO X hi th):PE X (.Subscript e (.Slice lo hi none p2) pos) (rc r te tl th):=by
 intro pins s σ H Q I h
 refine Subscript_ (Bw (he pins s σ H _ I h) fun v s1 bA=>?_)
 obtain ⟨x,H1,I1,r1,q1⟩ := bA
 refine wpAny_Slice (Bw (hl pins s1 σ H1 _ I1 q1) fun vl s2 ⟨l,H2,I2,pl,q2⟩=>Bw (hu pins s2 σ H2 _ I2 q2) fun vu s3 bA=>?_)
 obtain ⟨u,H3,I3,pu,q3⟩ := bA
 rw [evalPart_none]
 refine wpAny_pure ?_
 have I4:Ae X pins σ H3 { s3 with heap:=s3.heap.push { cls := .type "slice",data := .fields #[vl,vu,.none] } }:=I3.kept (t':=s3.toks) fun b ob q=>Heap.get?_push_of_some _ q
 obtain ⟨T,id,hT,ht,hg⟩ := hr pins { s3 with heap:=s3.heap.push { cls := .type "slice",data := .fields #[vl,vu,.none] } } σ H3 x v vl vu l u s3.heap.objs.size Q I4 r1 (Heap.IsSliceOf.new ..) pl pu q3
 show wpAny (model X.prog X.w) X.A (subscriptTail e (.Slice lo hi none p2) v (.ref s3.heap.objs.size)) (EP X pins σ Q) X.xe { s3 with heap:=s3.heap.push { cls := .type "slice",data := .fields #[vl,vu,.none] } }
 exact tail_any (ops:=[.ref s3.heap.objs.size,v]) ht hT hg (by with_unfolding_all rfl)
def Rx (xs:List V) (lo hi:Option Int):List V:=(xs.drop (HT.fQ xs.length 0 lo)).take (HT.fQ xs.length xs.length hi - HT.fQ xs.length 0 lo)
theorem Ov (xs:List V) (lo hi:Option Int):(Rx xs lo hi).length <= xs.length:=by
 unfold Rx
 rw [List.length_take,List.length_drop]
 omega
def u4 (K:PySem.W.Frag):V -> Option Int -> Option Int -> Hp -> VK -> Prop:=fun x lo hi H Q=>∃ a xs,x = .ref a /\ Ci K H a xs /\
 ¬ (HT.fQ xs.length 0 lo = 0 /\ HT.fQ xs.length xs.length hi = xs.length) /\ ∀ p,H p = none -> Q (.ref p) (upd H p (.tup (Rx xs lo hi)))
def si (K:PySem.W.Frag):R2:=fun x y H Q=>∃ a b ns ms,x = .ref a /\ y = .ref b /\ Ci K H a (ns.map V.int) /\ Ci K H b (ms.map V.int) /\ Q (.bl (HT.lexLt ns ms)) H
def je (K:PySem.W.Frag):R2:=fun x y H Q=>∃ a b xs ys,x = .ref a /\ y = .ref b /\ Ci K H a xs /\ Ci K H b ys /\ xs ≠ [] /\ xs.length + ys.length <= sizeLine /\
 (ys = [] -> Q (.ref a) H) /\ (ys ≠ [] -> ∀ p,H p = none -> Q (.ref p) (upd H p (.tup (xs ++ ys))))
theorem An.gP {xs:List V} {us:List Value} (r:An xs us):us = [] ↔ xs = []:=by
 cases r with
 | nil=>simp
 | cons _ _=>simp
theorem Y1:Hw X (binaryOp .Add) (je X.K):=by
 intro pins s σ H x y v u Q I rx ry h
 obtain ⟨a,b,xs,ys,rfl,rfl,ha,hb,hx,hz,q1,q2⟩ := h
 cases rx
 cases ry
 obtain ⟨aH,r1,p1,_⟩ := I.tuple ha
 obtain ⟨eZ,r2,p2,_⟩ := I.tuple hb
 refine HT.pM p1 p2 (fun z=>hx (r1.gP.mp z)) (fun z=>⟨.ref a,H,I,rfl,q1 (r2.gP.mp z)⟩) (fun z=>?_) (by rw [<- r1.length,<- r2.length]; exact hz)
 refine ⟨.ref s.heap.objs.size,_,I.laid (t':=s.toks) (o := .tup (xs ++ ys)) (fun b ob q=>Heap.get?_push_of_some _ q) (Nat.le_refl _) ?_,rfl,q2 (fun w=>z (r2.gP.mpr w)) _ (I.aR.fresh (Nat.le_refl _))⟩
 exact ⟨⟨by rw [List.length_append]; exact hz,⟨_,Heap.get?_push_size _ rfl,rfl⟩⟩,_,r1.append r2,IsTup.new _ _⟩
end
def Xj (n:Nat) (i:Int):Option Nat:=if 0 <= i then (if i < n then some i.toNat else none) else if -(n:Int) <= i then some (i + n).toNat else none
def Ui {α:Type} (xs:List α) (i:Int):Option α:=(Xj xs.length i).bind fun j=>xs[j]?
theorem Tb {n:Nat} {i:Int} {j:Nat} (h:Xj n i = some j):seqIndex? i n = some j /\ j < n /\ -(n:Int) <= i /\ i < n:=by
 unfold Xj at h
 by_cases h0:0 <= i
 ·rw [if_pos h0] at h
  by_cases h1:i < n
  ·rw [if_pos h1] at h
   have e:i.toNat = j:=Option.some.inj h
   exact ⟨by rw [seqIndex_of h0 h1,e],by omega,by omega,h1⟩
  ·rw [if_neg h1] at h; cases h
 ·rw [if_neg h0] at h
  by_cases h1 : -(n:Int) <= i
  ·rw [if_pos h1] at h
   have e:(i + n).toNat = j:=Option.some.inj h
   exact ⟨by rw [seqIndex_neg (by omega) h1,e],by omega,h1,by omega⟩
  ·rw [if_neg h1] at h; cases h
theorem Tg {α:Type} {xs:List α} {i:Int} {v:α} (h:Ui xs i = some v):∃ j,seqIndex? i xs.length = some j /\ xs[j]? = some v /\ j < xs.length /\ -(xs.length:Int) <= i /\ i < xs.length:=by
 unfold Ui at h
 cases e:Xj xs.length i with
 | none=>rw [e] at h; cases h
 | some j =>
  rw [e] at h
  obtain ⟨h1,h2,h3,h4⟩ := Tb e
  exact ⟨j,h1,h,h2,h3,h4⟩
theorem Sv {α:Type} {xs:List α} {j:Nat} {v:α} (h:xs[j]? = some v):Ui xs (j:Int) = some v:=by
 have hj:j < xs.length:=(List.getElem?_eq_some_iff.mp h).1
 have e:Xj xs.length (j:Int) = some j:=by
  unfold Xj
  rw [if_pos (by omega),if_pos (by omega)]; simp
 unfold Ui; rw [e]; exact h
def Yv (b:Expr):Prop := ∀ o i,subscripted b false o i = operate [o,i] (getItem o i)
def jy (X:Cx) (r:R2):Prop :=
 ∀ (value slice:Expr) (pins:List (Addr × Obj)) (s:Shared) (σ:St) (H:Hp) (x y:V) (v u:Value) (Q:VK),Ae X pins σ H s -> Ao x v -> Ao y u -> r x y H Q ->
  subscripted slice false v u = operate [v,u] (getItem v u) -> wpAny (model X.prog X.w) X.A (subscriptTail value slice v u) (EP X pins σ Q) X.xe s
def mi (X:Cx) (id:String) (r:V -> List V -> Hp -> VK -> Prop):Prop :=
 ∀ (pins:List (Addr × Obj)) (s:Shared) (σ:St) (H:Hp) (x:V) (xs:List V) (v:Value) (us:List Value) (Q:VK),Ae X pins σ H s -> Ao x v -> An xs us -> r x xs H Q ->
  wpAny (model X.prog X.w) X.A (call (.builtin id) (v :: us)) (EP X pins σ Q) X.xe s
section
variable {X:Cx} {a b:Expr} {ta tb:TE} {pos:Pos}
theorem Cm {r:R2} (hr:jy X r) (ha:PE X a ta) (hb:PE X b tb) (hs:Yv b):PE X (.Subscript a b pos) (km r ta tb):=by
 intro pins s σ H Q I h
 exact Subscript_ (ck ha hb I h fun v u s2 x y H2 I2 rx ry q=>hr a b pins s2 σ H2 x y v u Q I2 rx ry q (hs _ _))
def ip (K:PySem.W.Frag):R2:=fun x y H Q=>∃ p xs i v,x = .ref p /\ y = .int i /\ Bj K H p xs /\ Ui xs i = some v /\ Q v H
def jo (K:PySem.W.Frag):R2:=fun x y H Q=>∃ p xs i v,x = .ref p /\ y = .int i /\ Ci K H p xs /\ Ui xs i = some v /\ Q v H
def nc:R2:=fun x y H Q=>∃ z i c,x = .str z /\ y = .int i /\ z.length <= sizeLine /\ Ui z.cps.toList i = some c /\ Q (.str ⟨#[c]⟩) H
theorem Yk:jy X (ip X.K):=by
 intro value slice pins s σ H x y v u Q I rx ry h hs
 obtain ⟨p,xs,i,z,rfl,rfl,hq,he,q⟩ := h
 cases rx
 obtain ⟨t,rfl⟩ := ry
 obtain ⟨aH,r,pl,hz⟩ := I.list hq
 obtain ⟨j,h1,h2,h3,h4,h5⟩ := Tg he
 obtain ⟨w,ew,iA⟩ := r.get h2
 have hl:=r.length
 have hn:=Gq
 have fin:EP X pins σ Q w s:=⟨z,H,I,iA,q⟩
 by_cases h0:0 <= i
 ·have hj : i.toNat = j := by
   rw [seqIndex_of h0 h5] at h1
   exact Option.some.inj h1
  exact item_listR pl.isList h0 (by omega) (by rw [hj]; simpa using ew) fin hs
 ·have hj : (i + (aH.toArray.size : Int)).toNat = j := by
   rw [seqIndex_neg (by omega) h4] at h1
   rw [List.size_toArray,<- hl]
   exact Option.some.inj h1
  exact subscriptTail_builtinR (x:=w) pl.isList.typeIs slot_list_getitem.lookup
   (wpAny_getItem_list_neg (Q:=fun r s'=>r = w /\ EP X pins σ Q r s') pl.isList (by omega) (by rw [List.size_toArray] <;> omega) (by omega) (by rw [hj]; simpa using ew) ⟨rfl,fin⟩) hs
theorem fh:jy X (jo X.K):=by
 intro value slice pins s σ H x y v u Q I rx ry h hs
 obtain ⟨p,xs,i,z,rfl,rfl,hq,he,q⟩ := h
 cases rx
 obtain ⟨t,rfl⟩ := ry
 obtain ⟨aH,r,pl,hz⟩ := I.tuple hq
 obtain ⟨j,h1,h2,h3,h4,h5⟩ := Tg he
 obtain ⟨w,ew,iA⟩ := r.get h2
 have hl:=r.length
 have hn:=Gq
 have fin:EP X pins σ Q w s:=⟨z,H,I,iA,q⟩
 exact subscriptTail_builtinR (x:=w) pl.typeIs slot_tuple_getitem.lookup
  (getItem_tuple (j:=j) (Q:=fun r s'=>r = w /\ EP X pins σ Q r s') pl (by omega) (by omega) (by rw [List.size_toArray,<- hl]; exact h1) (by simpa using ew) ⟨rfl,fin⟩) hs
def u9 (K:PySem.W.Frag):R2:=fun x y H Q=>ip K x y H Q \/ jo K x y H Q \/ nc x y H Q
theorem S1 (aH:List Value) (n j:Nat) (u:Value):Obj.mapSeq (·.setIfInBounds j u) { cls := .type "list",data := .seq aH.toArray n } = { cls := .type "list",data := .seq (aH.set j u).toArray n }:=by
 simp [Obj.mapSeq]
theorem Ae.lst {pins : List (Addr × Obj)} {σ : St} {H : Hp} {s : Shared} {p : Addr} {xs : List V} (I : Ae X pins σ H s) (h : H p = some (.lst xs)) :
  ∃ (aH:List Value) (n:Nat),An xs aH /\ s.heap.get? p = some { cls := .type "list",data := .seq aH.toArray n } /\ xs.length <= sizeLine:=by
 obtain ⟨z,aH,n,r,e⟩ := I.aR p _ h
 exact ⟨aH,n,r,e,z⟩
theorem Ae.uA {pins : List (Addr × Obj)} {σ : St} {H : Hp} {s : Shared} {p : Addr} {xs ys : List V} {aH its' : List Value} {n n' : Nat} {f : Obj -> Obj} (I : Ae X pins σ H s) (h : H p = some (.lst xs))
  (ho:s.heap.get? p = some { cls := .type "list",data := .seq aH.toArray n }) (hf:f { cls := .type "list",data := .seq aH.toArray n } = { cls := .type "list",data := .seq its'.toArray n' }) (r:An ys its') (hz:ys.length <= sizeLine) (t:Nat) :
  Ae X pins σ (upd H p (.lst ys)) { s with heap:=s.heap.update p f,toks:=t }:=by
 have e:(s.heap.update p f).get? p = some { cls := .type "list",data := .seq its'.toArray n' }:=by
  rw [Heap.get?_update_self f ho (by rw [hf] <;> rfl),hf]
 refine I.write (x:=p) (e:=p) (by rw [h]; trivial) (.inl rfl) (fun b u hb q=>(Heap.get?_update_other _ _ (Ne.symm hb)).trans q) ⟨_,e⟩ ?_
 exact ⟨hz,its',n',r,e⟩
def jt:V -> V -> V -> Hp -> (Hp -> Prop) -> Prop:=fun o i v H Q=>∃ p xs k j,o = .ref p /\ i = .int k /\ H p = some (.lst xs) /\ Xj xs.length k = some j /\ Q (upd H p (.lst (xs.set j v)))
theorem Ka:gu X jt:=by
 intro pins s σ H o i v ov iv u Q I ro ri rv h
 obtain ⟨p,xs,k,j,rfl,rfl,hp,hj,q⟩ := h
 cases ro
 obtain ⟨t,rfl⟩ := ri
 obtain ⟨aH,n,r,ho,hz⟩ := I.lst hp
 obtain ⟨h1,h2,h3,h4⟩ := Tb hj
 have hl:=r.length
 have hn:=Gq
 have I':Ae X pins σ (upd H p (.lst (xs.set j v))) { s with heap:=s.heap.update p (Obj.mapSeq (·.setIfInBounds j u)) } :=
  I.uA hp ho (S1 aH n j u) (r.set rv j) (by rw [List.length_set]; exact hz) s.toks
 by_cases h0:0 <= k
 ·have hk : k.toNat = j := by
   rw [seqIndex_of h0 h4] at h1
   exact Option.some.inj h1
  exact PySem.W.ki_setAt ho h0 (by omega) (by rw [List.size_toArray,<- hl]; exact h4) (by rw [hk]; exact ⟨_,I',q⟩)
 ·have hk : (k + (aH.toArray.size : Int)).toNat = j := by
   rw [seqIndex_neg (by omega) h3] at h1
   rw [List.size_toArray,<- hl]
   exact Option.some.inj h1
  exact PySem.W.ki_setBack ho (by omega) (by rw [List.size_toArray,<- hl]; exact h3) (by omega) (by rw [hk]; exact ⟨_,I',q⟩)
theorem O2 (lo hi:Option Int) (n:Nat):(sliceBounds lo hi none n).1 = ((HT.fQ n 0 lo:Nat):Int) /\ (sliceBounds lo hi none n).2.1 = ((HT.fQ n n hi:Nat):Int) /\ (sliceBounds lo hi none n).2.2 = 1:=by
 refine ⟨?_,?_,rfl⟩
 ·cases lo with
  | none=>simp [sliceBounds,HT.fQ]
  | some i =>
   simp only [sliceBounds,HT.fQ,Option.getD_none,show (1:Int) > 0 by decide,if_true]
   by_cases h:i < 0
   ·simp only [h,if_true] <;> omega
   ·simp only [h,if_false] <;> omega
 ·cases hi with
  | none=>simp [sliceBounds,HT.fQ]
  | some i =>
   simp only [sliceBounds,HT.fQ,Option.getD_none,show (1:Int) > 0 by decide,if_true]
   by_cases h:i < 0
   ·simp only [h,if_true] <;> omega
   ·simp only [h,if_false] <;> omega
theorem Li (aH:List Value) (lo hi:Option Int):slicePick aH.toArray lo hi none = ((aH.drop (HT.fQ aH.length 0 lo)).take (HT.fQ aH.length aH.length hi - HT.fQ aH.length 0 lo)).toArray:=by
 obtain ⟨h1,h2,h3⟩ := O2 lo hi aH.toArray.size
 unfold slicePick
 rw [h1,h2,h3]
 simp only [sliceRange_one,pick_run,List.size_toArray] <;> rfl
def io (K:PySem.W.Frag):V -> Option Int -> Option Int -> Hp -> VK -> Prop:=fun x lo hi H Q=>∃ a xs,x = .ref a /\ Bj K H a xs /\ ∀ p,H p = none -> Q (.ref p) (upd H p (.lst (Rx xs lo hi)))
theorem Yu:li X (io X.K):=by
 intro pins s σ H x v vl vu lo hi sl Q I rx hs pl pu h
 obtain ⟨a,xs,rfl,hx,q⟩ := h
 cases rx
 obtain ⟨aH,r,ht,hz⟩ := I.list hx
 have hlen:=r.length
 refine ⟨"list",_,slot_list_getitem.lookup,ht.isList.typeIs,?_⟩
 refine wpAny_getItem_list_slice ht.isList hs pl pu .none (by simp) ?_ (by rw [List.size_toArray] <;> omega)
 rw [Li,<- hlen]
 refine ⟨.ref s.heap.objs.size,_,I.laid (t':=s.toks) (o := .lst (Rx xs lo hi)) (fun b ob q=>Heap.get?_push_of_some _ q) (Nat.le_refl _) ?_,rfl,q _ (I.aR.fresh (Nat.le_refl _))⟩
 exact ⟨Nat.le_trans (Ov xs lo hi) hz,_,0,(r.drop (HT.fQ xs.length 0 lo)).take (HT.fQ xs.length xs.length hi - HT.fQ xs.length 0 lo),Heap.get?_push_size _ rfl⟩
def Fj:V -> Bool
 | .aW=>true
 | .bl _=>true
 | .int _=>true
 | .str _=>true
 | _=>false
def Xw:V -> V -> Bool
 | .aW,.aW=>true
 | .bl a,.bl b=>a == b
 | .bl a,.int b=>(if a then 1 else 0) == b
 | .int a,.bl b=>a == (if b then 1 else 0)
 | .int a,.int b=>a == b
 | .str a,.str b=>a == b
 | _,_=>false
theorem ff {A:Around} {s:Shared} {y x:V} {u v:Value} (ry:Ao y u) (rx:Ao x v) (fy:Fj y = true) (fx:Fj x = true):SeqAt.EqAt A s u v (Xw y x):=by
 cases y with
 | aW =>
  cases ry
  cases x with
  | aW=>cases rx; exact SeqAt.EqAt.same _
  | bl b=>cases rx; exact SeqAt.EqAt.none_bool b
  | int b=>obtain ⟨t,rfl⟩ := rx; exact SeqAt.EqAt.none_int b t
  | str b=>obtain ⟨t,rfl⟩ := rx; exact SeqAt.EqAt.none_str b t
  | _=>exact absurd (show false = true from fx) Bool.false_ne_true
 | bl a =>
  cases ry
  cases x with
  | aW=>cases rx; exact SeqAt.EqAt.bool_none a
  | bl b=>cases rx; exact SeqAt.EqAt.bool_bool a b
  | int b=>obtain ⟨t,rfl⟩ := rx; exact SeqAt.EqAt.bool_int a b t
  | str b=>obtain ⟨t,rfl⟩ := rx; exact SeqAt.EqAt.bool_str a b t
  | _=>exact absurd (show false = true from fx) Bool.false_ne_true
 | int a =>
  obtain ⟨t',rfl⟩ := ry
  cases x with
  | aW=>cases rx; exact SeqAt.EqAt.int_none a t'
  | bl b=>cases rx; exact SeqAt.EqAt.int_bool a t' b
  | int b=>obtain ⟨t,rfl⟩ := rx; exact SeqAt.EqAt.int_int a t' b t
  | str b=>obtain ⟨t,rfl⟩ := rx; exact SeqAt.EqAt.int_str a t' b t
  | _=>exact absurd (show false = true from fx) Bool.false_ne_true
 | str a =>
  obtain ⟨t',rfl⟩ := ry
  cases x with
  | aW=>cases rx; exact SeqAt.EqAt.str_none a t'
  | bl b=>cases rx; exact SeqAt.EqAt.str_bool a t' b
  | int b=>obtain ⟨t,rfl⟩ := rx; exact SeqAt.EqAt.str_int a t' b t
  | str b=>obtain ⟨t,rfl⟩ := rx; exact SeqAt.EqAt.str_str a t' b t
  | _=>exact absurd (show false = true from fx) Bool.false_ne_true
 | _=>exact absurd (show false = true from fy) Bool.false_ne_true
def Y8 (x:V) (u:Value):Bool:=match u with
 | .none=>Xw .aW x
 | .bool b=>Xw (.bl b) x
 | .int i _=>Xw (.int i) x
 | .str z _=>Xw (.str z) x
 | _=>false
theorem W4 {x y:V} {u:Value} (r:Ao y u) (f:Fj y = true):Y8 x u = Xw y x:=by
 cases y with
 | aW=>cases r; rfl
 | bl b=>cases r; rfl
 | int i=>obtain ⟨t,rfl⟩ := r; rfl
 | str z=>obtain ⟨t,rfl⟩ := r; rfl
 | _=>exact absurd (show false = true from f) Bool.false_ne_true
theorem Td {x:V} {xs:List V} {us:List Value} (h:An xs us) (f:xs.all Fj = true):us.any (Y8 x) = xs.any fun y=>Xw y x:=by
 induction h with
 | nil=>rfl
 | cons r t ih =>
  rw [List.all_cons,Bool.and_eq_true] at f
  rw [List.any_cons,List.any_cons,W4 r f.1,ih f.2]
theorem Pn {A:Around} {s:Shared} {x:V} {v:Value} (rx:Ao x v) (fx:Fj x = true) {xs:List V} {us:List Value} (h:An xs us) (f:xs.all Fj = true):∀ u ∈ us,SeqAt.EqAt A s u v (Y8 x u):=by
 induction h with
 | nil =>
  intro u hu
  cases hu
 | cons r t ih =>
  intro u' hu
  rw [List.all_cons,Bool.and_eq_true] at f
  rcases List.mem_cons.mp hu with rfl | hu
  ·rw [W4 r f.1]
   exact ff r rx f.1 fx
  ·exact ih f.2 u' hu
def kc (x:V) (xs:List V):Bool:=xs.any fun y=>Xw y x
def o9 (K:PySem.W.Frag) (neg:Bool):R2:=fun x y H Q=>∃ p xs,y = .ref p /\ (Bj K H p xs \/ Ci K H p xs) /\ Fj x = true /\ xs.all Fj = true /\ Q (.bl (if neg then !kc x xs else kc x xs)) H
theorem Tx:Hw X (compareOp .In) (o9 X.K false):=by
 intro pins s σ H x y v u Q I rx ry h
 obtain ⟨p,xs,rfl,hq,fx,fs,q⟩ := h
 cases ry
 rcases hq with hq | hq
 ·obtain ⟨aH,r,pl,hz⟩ := I.list hq
  refine SeqAt.in_listAt (Y8 x) pl.isList (fun w hw=>Pn rx fx r fs w (by simpa using hw)) ⟨.bl _,H,I,rfl,?_⟩
  rw [show aH.toArray.any (Y8 x) = aH.any (Y8 x) by simp,Td r fs]
  exact q
 ·obtain ⟨aH,r,pl,hz⟩ := I.tuple hq
  refine SeqAt.in_tupleAt (Y8 x) pl (fun w hw=>Pn rx fx r fs w (by simpa using hw)) ⟨.bl _,H,I,rfl,?_⟩
  rw [show aH.toArray.any (Y8 x) = aH.any (Y8 x) by simp,Td r fs]
  exact q
theorem Nr:El X (.builtin "len") (fun xs H Q=>∃ p ys,xs = [.ref p] /\ (Bj X.K H p ys \/ Ci X.K H p ys) /\ Q (.int ys.length) H):=by
 intro pins s σ H xs us Q I r h
 obtain ⟨p,ys,rfl,hq,q⟩ := h
 obtain ⟨u,rfl,rx⟩ := Ke r
 cases rx
 have hn:=Gq
 rcases hq with hq | hq
 ·obtain ⟨aH,r',pl,hz⟩ := I.list hq
  have hlen:=r'.length
  exact Calls.call_len_list pl.isList (by simp only [List.size_toArray] <;> omega) ⟨.int ys.length,H,I.tok _,⟨s.toks + 1,by rw [List.size_toArray,hlen]⟩,q⟩
 ·obtain ⟨aH,r',pl,hz⟩ := I.tuple hq
  have hlen:=r'.length
  exact len_tuple pl (by simp only [List.size_toArray] <;> omega) ⟨.int ys.length,H,I.tok _,⟨s.toks + 1,by rw [List.size_toArray,hlen]⟩,q⟩
theorem Lm:El X (.type "tuple") (fun xs H Q=>∃ p ys,xs = [.ref p] /\ ((Bj X.K H p ys /\ ∀ l,H l = none -> Q (.ref l) (upd H l (.tup ys))) \/ (Ci X.K H p ys /\ Q (.ref p) H))):=by
 intro pins s σ H xs us Q I r h
 obtain ⟨p,ys,rfl,h⟩ := h
 obtain ⟨u,rfl,rx⟩ := Ke r
 cases rx
 rcases h with ⟨hq,q⟩ | ⟨hq,q⟩
 ·obtain ⟨aH,r',pl,hz⟩ := I.list hq
  have hlen:=r'.length
  refine call_tuple_list pl.isList (fun h' kp=>?_) (by simp only [List.size_toArray] <;> omega)
  have I1:Ae X pins σ H { s with heap:=h' }:=I.kept (t':=s.toks) kp
  have I2:Ae X pins σ (upd H h'.objs.size (.tup ys)) { s with heap:=h'.push { cls := .type "tuple",data := .seq aH.toArray } } :=
   I1.laid (t':=s.toks) (fun b o e=>Heap.get?_push_of_some _ e) (Nat.le_refl _) (show Bg X.prog X.w _ _ _ (.tup ys) from ⟨⟨hz,⟨_,Heap.get?_push_size _ rfl,rfl⟩⟩,aH,r',IsTup.new _ _⟩)
  exact ⟨.ref h'.objs.size,_,I2,rfl,q _ (I1.aR.fresh (Nat.le_refl _))⟩
 ·obtain ⟨aH,r',pl,hz⟩ := I.tuple hq
  exact call_tuple_same pl ⟨.ref p,H,I,rfl,q⟩
def nu (K:PySem.W.Frag) (T:String) (x:V) (H:Hp):Prop:=match x with
 | .str _=>T = "str"
 | .int _=>T = "int"
 | .ref p => (T = "list" /\ ∃ xs, Bj K H p xs) \/ (T = "tuple" /\ ((∃ o, K.lookup p = some o /\ o.cls = .type "tuple" /\ o.dict = none) \/ ∃ xs, H p = some (.tup xs))) \/
   (T = "dict" /\ ((∃ kvs,H p = some (.dK kvs)) \/ ∃ kvs,H p = some (.dT kvs))) \/ (T = "set" /\ ∃ S n,H p = some (.set S n))
 | _=>False
theorem Vt {pins : List (Addr × Obj)} {σ : St} {H : Hp} {s : Shared} {T : String} {x : V} {v : Value} (I : Ae X pins σ H s) (r : Ao x v) (ty : nu X.K T x H) :
  s.TypeIs v T /\ ∀ a,v = .ref a -> ∃ ob,s.heap.get? a = some ob /\ ob.dict = none:=by
 cases x with
 | str z =>
  obtain ⟨t,rfl⟩ := r
  cases (show T = "str" from ty)
  exact ⟨typeIs_str s z t,fun _ e=>nomatch e⟩
 | int i =>
  obtain ⟨t,rfl⟩ := r
  cases (show T = "int" from ty)
  exact ⟨typeIs_int s i t,fun _ e=>nomatch e⟩
 | ref p =>
  cases r
  rcases ty with ⟨rfl,xs,hq⟩ | ⟨rfl,⟨o,hk,hc,hd⟩ | ⟨ys,hk⟩⟩ | ⟨rfl,hk⟩ | ⟨rfl,S,n,hk⟩
  ·obtain ⟨aH,_,pl,_⟩ := I.list hq
   refine ⟨pl.isList.typeIs,fun a e=>?_⟩
   cases e
   obtain ⟨o,n,e,c,hd,_⟩ := pl
   exact ⟨o,e,hd⟩
  ·refine ⟨⟨o,I.lI p o hk,hc⟩,fun a e=>?_⟩
   cases e
   exact ⟨o,I.lI _ o hk,hd⟩
  ·obtain ⟨⟨_,o2,e2,d2⟩,_,_,⟨o1,e1,c1,_⟩⟩ := (show Bg X.prog X.w H s.heap p (.tup ys) from I.aR p _ hk)
   refine ⟨⟨o1,e1,c1⟩,fun a ea=>?_⟩
   cases ea
   exact ⟨o2,e2,d2⟩
  ·have z : ∃ o, s.heap.get? p = some o /\ o.ExactDict := by
    rcases hk with ⟨kvs,hk⟩ | ⟨kvs,hk⟩
    ·obtain ⟨_,_,_,_,o,_,_,e,ex,_⟩ := I.aR p _ hk
     exact ⟨o,e,ex⟩
    ·obtain ⟨_,_,_,_,o,_,_,e,ex,_⟩ := I.aR p _ hk
     exact ⟨o,e,ex⟩
   obtain ⟨o,e,ex⟩ := z
   refine ⟨⟨o,e,ex.1⟩,fun a e2=>?_⟩
   cases e2
   exact ⟨o,e,ex.2.1⟩
  ·obtain ⟨o,_,_,_,e,ex,_⟩ := I.aR p _ hk
   refine ⟨⟨o,e,ex.1⟩,fun a e2=>?_⟩
   cases e2
   exact ⟨o,e,ex.2.1⟩
 | _=>exact False.elim ty
def c9 (K:PySem.W.Frag) (T:String) (r:V -> List V -> Hp -> VK -> Prop) (to:TE):TE:=fun σ H Q=>to σ H fun x H1=>nu K T x H1 /\ r x [] H1 Q
def Yf (K:PySem.W.Frag) (T:String) (r:V -> List V -> Hp -> VK -> Prop) (to:TE) (t:TA):TE:=fun σ H Q=>to σ H fun x H1=>nu K T x H1 /\ t σ H1 fun xs H2=>r x xs H2 Q
variable {o e:Expr} {es:List Expr} {to:TE} {t:TA} {name:Str} {apos aY:Pos} {T id:String} {r:V -> List V -> Hp -> VK -> Prop}
theorem Rr (pa : PlainAttrs T) (slot : Slot T name id) (IL : typeOf (.builtin id) = pure (.type "method_descriptor")) (hm : mi X id r) (ho : PE X o to)
  (iB:attributeBase o name X.env (eval o X.env) = eval o X.env:=by rfl) (iC:(apos.endLine == aY.line) = true:=by rfl):PE X (.Call (.Attribute o name apos) [] [] aY) (c9 X.K T r to):=by
 intro pins s σ H Q I h
 refine wpAny_Call_method0_late iB iC (Bw (ho pins s σ H _ I h) fun v s1 bA=>?_)
 obtain ⟨x,H1,I1,r1,ty,q1⟩ := bA
 obtain ⟨h1,h2⟩ := Vt I1 r1 ty
 exact ⟨T,id,pa,slot,IL,h1,h2,Calls.callWith_builtin rfl (PySem.evalArgs_none (hm pins s1 σ H1 x [] v [] Q I1 r1 .nil q1))⟩
theorem J5 (pa : PlainAttrs T) (slot : Slot T name id) (IL : typeOf (.builtin id) = pure (.type "method_descriptor")) (hm : mi X id r) (ho : PE X o to) (ha : PA X (e :: es) t)
  (iB:attributeBase o name X.env (eval o X.env) = eval o X.env:=by rfl)
  (IM:((backTo aY (starEach (e :: es) X.env)).all (fun x=>!x.1) && (backToKw aY (keywordEach [] X.env)).all (fun x=>x.1.isSome)
   && decide ((e :: es).length + ([]:List Keyword).length + (if ([]:List Keyword).isEmpty then 0 else 1) < 30)) = true:=by rfl)
  (iC:(apos.endLine == aY.line) = true:=by rfl) (hs:starEach (e :: es) X.env = (false,eval e X.env) :: starEach es X.env:=by rfl) (uB:(backTo aY (starEach es X.env)).any (·.1) = false:=by rfl) :
  PE X (.Call (.Attribute o name apos) (e :: es) [] aY) (Yf X.K T r to t):=by
 intro pins s σ H Q I h
 refine wpAny_Call_method_late iB IM iC rfl (Bw (ho pins s σ H _ I h) fun v s1 bA=>?_)
 obtain ⟨x,H1,I1,r1,ty,q1⟩ := bA
 obtain ⟨h1,h2⟩ := Vt I1 r1 ty
 refine ⟨T,id,pa,slot,IL,h1,h2,?_⟩
 have hA:=ha aY pins s1 σ H1 _ I1 q1
 rw [hs] at hA ⊢
 refine Calls.callWith_builtin (by show (false || (backTo aY (starEach es X.env)).any (·.1)) = false; rw [uB] <;> rfl) (Calls.evalArgs_plain ?_)
 exact Bw hA fun us s2 ⟨vs,H2,I2,r2,q2⟩=>hm pins s2 σ H2 x vs v us Q I2 r1 r2 q2
/- xs.append(e),list.index on a zB tuple .. are mi facts of 06m -/
end
def ij (X:Cx) (id:String) (r:V -> List V -> Hp -> VK -> Prop):Prop :=
 ∀ (pins:List (Addr × Obj)) (s:Shared) (σ:St) (H:Hp) (x:V) (xs:List V) (v:Value) (us:List Value) (Q:VK),Ae X pins σ H s -> Ao x v -> An xs us -> r x xs H Q ->
  wpAny (model X.prog X.w) X.A (call (.builtin id) (v :: us)) (EP X pins σ Q) X.xe s
theorem An.one {x:V} {us:List Value} (h:An [x] us):∃ u,us = [u] /\ Ao x u:=by
 cases h with
 | cons r t =>
  cases t
  exact ⟨_,rfl,r⟩
theorem An.two {x y:V} {us:List Value} (h:An [x,y] us):∃ u v,us = [u,v] /\ Ao x u /\ Ao y v:=by
 cases h with
 | cons r t =>
  obtain ⟨v,rfl,q⟩ := An.one t
  exact ⟨_,v,rfl,r,q⟩
theorem An.zero:∀ {us:List Value},An [] us -> us = []
 | _,.nil=>rfl
theorem An.dropLast {xs:List V} {us:List Value} (h:An xs us):An xs.dropLast us.dropLast:=by
 induction h with
 | nil=>exact .nil
 | cons r t ih =>
  cases t with
  | nil=>exact .nil
  | cons q t'=>exact .cons r ih
theorem An.eraseIdx:∀ {xs:List V} {us:List Value} (i:Nat),An xs us -> An (xs.eraseIdx i) (us.eraseIdx i)
 | _,_,_,.nil=>.nil
 | _,_,0,.cons _ t=>t
 | _,_,i + 1,.cons r t=>.cons r (An.eraseIdx i t)
theorem An.reverse {xs:List V} {us:List Value} (h:An xs us):An xs.reverse us.reverse:=by
 induction h with
 | nil=>exact .nil
 | cons r t ih=>rw [List.reverse_cons,List.reverse_cons]; exact An.append ih (.cons r .nil)
theorem An.rep {xs:List V} {us:List Value} (h:An xs us):∀ k:Nat,An (List.replicate k xs).flatten (List.replicate k us).flatten
 | 0=>.nil
 | k + 1=>by
  rw [List.replicate_succ,List.replicate_succ,List.flatten_cons,List.flatten_cons]
  exact An.append h (An.rep h k)
theorem Rh {α:Type} (l:List α):l.eraseIdx (l.length - 1) = l.dropLast:=by
 induction l with
 | nil=>rfl
 | cons a r ih =>
  cases r with
  | nil=>rfl
  | cons b r =>
   have e:(a :: b :: r).length - 1 = ((b :: r).length - 1) + 1:=by
    have h1:(a :: b :: r).length = r.length + 2:=rfl
    have h2:(b :: r).length = r.length + 1:=rfl
    omega
   rw [e,List.eraseIdx_cons_succ,ih]
   all_goals rfl
theorem Mx (aH : List Value) : ∀ (k : Nat) (acc : List Value),
  List.foldl (fun x1 x2=>x1 ++ x2) acc.toArray (List.replicate k aH.toArray) = (acc ++ (List.replicate k aH).flatten).toArray
 | 0,acc=>by simp
 | k + 1,acc=>by
  have e:acc.toArray ++ aH.toArray = (acc ++ aH).toArray:=by simp
  have e2:(acc ++ aH) ++ (List.replicate k aH).flatten = acc ++ (List.replicate (k + 1) aH).flatten:=by
   rw [List.replicate_succ,List.flatten_cons,List.append_assoc]
  rw [<- e2,<- Mx aH k (acc ++ aH),<- e,List.replicate_succ,List.foldl_cons]
section
variable {X:Cx} {pins:List (Addr × Obj)} {σ:St} {H:Hp} {s:Shared} {l b:Addr} {xs ys zs:List V}
theorem Ae.uC {aH its' : List Value} {n : Nat} {f : Array Value -> Array Value} {t' : Nat} (I : Ae X pins σ H s) (hH : H l = some (.lst xs))
  (e:s.heap.get? l = some { cls := .type "list",data := .seq aH.toArray n }) (hf:f aH.toArray = its'.toArray) (hv:An ys its') (hz:ys.length <= sizeLine) :
  Ae X pins σ (upd H l (.lst ys)) { s with heap:=s.heap.update l (Obj.mapSeq f),toks:=t' }:=by
 have q:=PySem.IsL.update e f
 rw [hf] at q
 refine I.write (x:=l) (e:=l) (by rw [hH]; exact trivial) (.inl rfl) (fun b' u hb hu=>(Heap.get?_update_other s.heap (Obj.mapSeq f) (Ne.symm hb)).trans hu) ⟨_,q⟩ ?_
 exact ⟨hz,its',_,hv,q⟩
theorem Ae.zC {aH : List Value} {t' : Nat} (I : Ae X pins σ H s) (hv : An ys aH) (hz : ys.length <= sizeLine) :
  Ae X pins σ (upd H s.heap.objs.size (.lst ys)) { s with heap:=s.heap.push { cls := .type "list",data := .seq aH.toArray },toks:=t' } :=
 I.laid (fun _ _ q=>Heap.get?_push_of_some _ q) (Nat.le_refl _) ⟨hz,aH,0,hv,Heap.get?_push_size _ rfl⟩
theorem Ae.fresh (I:Ae X pins σ H s):H s.heap.objs.size = none:=I.aR.fresh (Nat.le_refl _)
theorem Ae.iX (I:Ae X pins σ H s) (hH:H l = some (.lst xs)):xs.length <= sizeLine /\ ∃ (aH:List Value) (n:Nat),An xs aH /\ xs.length = aH.length /\ s.heap.get? l = some { cls := .type "list",data := .seq aH.toArray n }:=by
 obtain ⟨z,aH,n,r,e⟩ := I.aR l _ hH
 exact ⟨z,aH,n,r,r.length,e⟩
theorem Pa {n:Nat} (h:n <= sizeLine):Builtin.List.listTooLong n = false:=by
 unfold Builtin.List.listTooLong
 exact decide_eq_false (by omega)
end
section
variable {X:Cx}
def Yj:V -> List V -> Hp -> VK -> Prop:=fun x vs H Q=>∃ l xs y,x = .ref l /\ vs = [y] /\ H l = some (.lst xs) /\ xs.length < sizeLine /\ Q .aW (upd H l (.lst (xs ++ [y])))
theorem Fx:ij X "list.append" Yj:=by
 intro pins s σ H x vs v us Q I rx rv h
 obtain ⟨l,xs,y,rfl,rfl,hH,hz,q⟩ := h
 cases rx
 obtain ⟨u,rfl,ru⟩ := rv.one
 obtain ⟨z,aH,n,r,hl,e⟩ := I.iX hH
 refine call_meets F.slot_list_append ⟨_,e,rfl⟩ F.entry_list_append (F.args_list_append_2 _ _) (PySem.list_append l aH.toArray n u (by rw [List.size_toArray]; omega)) ⟨e,?_⟩
 refine ⟨.aW,_,I.uC (its':=aH ++ [u]) hH e (by simp) (r.append (.cons ru .nil)) ?_,rfl,q⟩
 rw [List.length_append,List.length_singleton]
 omega
def Yw:V -> List V -> Hp -> VK -> Prop:=fun x vs H Q=>∃ l b xs zs,x = .ref l /\ vs = [.ref b] /\ H l = some (.lst xs) /\ H b = some (.lst zs) /\ xs.length + zs.length <= sizeLine /\ Q .aW (upd H l (.lst (xs ++ zs)))
theorem Fw:ij X "list.extend" Yw:=by
 intro pins s σ H x vs v us Q I rx rv h
 obtain ⟨l,b,xs,zs,rfl,rfl,hH,hB,hz,q⟩ := h
 cases rx
 obtain ⟨u,rfl,ru⟩ := rv.one
 cases ru
 obtain ⟨z,aH,n,r,hl,e⟩ := I.iX hH
 obtain ⟨z2,eZ,n2,r2,lE,e2⟩ := I.iX hB
 have hsz:aH.toArray.size + eZ.toArray.size <= sizeLine:=by rw [List.size_toArray,List.size_toArray]; omega
 have lJ:¬ (!aH.toArray.isEmpty && Builtin.List.listTooLong (aH.toArray.size + eZ.toArray.size)) = true:=by
  rw [Pa hsz,Bool.and_false]
  exact Bool.false_ne_true
 refine call_meets F.slot_list_extend ⟨_,e,rfl⟩ F.entry_list_extend (F.args_list_extend_2 _ _)
  (AutoSeq1.list_extend_list_list_0 l aH.toArray n b eZ.toArray n2 lJ (by rw [List.size_toArray]; omega) (by omega)) ⟨e,e2,?_⟩
 refine ⟨.aW,_,I.uC (its':=aH ++ eZ) hH e (by simp) (r.append r2) ?_,rfl,q⟩
 rw [List.length_append]
 omega
def nj:V -> List V -> Hp -> VK -> Prop:=fun x vs H Q=>∃ l xs y,x = .ref l /\ vs = [] /\ H l = some (.lst xs) /\ xs[xs.length - 1]? = some y /\ Q y (upd H l (.lst xs.dropLast))
theorem Vf:ij X "list.pop" nj:=by
 intro pins s σ H x vs v us Q I rx rv h
 obtain ⟨l,xs,y,rfl,rfl,hH,hy,q⟩ := h
 cases rx
 have iO:=rv.zero
 subst iO
 obtain ⟨z,aH,n,r,hl,e⟩ := I.iX hH
 obtain ⟨u,hu,ru⟩ := r.get hy
 have lK:aH.toArray[aH.toArray.size - 1]? = some u:=by
  show aH.toArray[aH.length - 1]? = some u
  rw [<- Array.getElem?_toList,<- hl]
  exact hu
 refine call_meets F.slot_list_pop ⟨_,e,rfl⟩ F.entry_list_pop (F.args_list_pop_1 _) (MeetsSeq.list_pop_last l aH.toArray n u lK (by rw [List.size_toArray]; omega)) ⟨e,?_⟩
 refine ⟨y,_,I.uC (its':=aH.dropLast) hH e ?_ r.dropLast ?_,ru,q⟩
 ·show aH.toArray.eraseIdxIfInBounds (aH.toArray.size - 1) = aH.dropLast.toArray
  rw [List.size_toArray,List.eraseIdxIfInBounds_toArray,Rh]
 ·rw [List.length_dropLast]
  omega
def kx:V -> List V -> Hp -> VK -> Prop:=fun x vs H Q=>∃ l xs i k y,x = .ref l /\ vs = [.int i] /\ H l = some (.lst xs) /\ -(2 ^ 63) <= i /\ i < 2 ^ 63 /\ seqIndex? i xs.length = some k /\ xs[k]? = some y /\ Q y (upd H l (.lst (xs.eraseIdx k)))
def jr:V -> List V -> Hp -> VK -> Prop:=fun x vs H Q=>∃ l xs,x = .ref l /\ vs = [] /\ H l = some (.lst xs) /\ Q .aW (upd H l (.lst xs.reverse))
def n0:V -> List V -> Hp -> VK -> Prop:=fun x vs H Q=>∃ l xs,x = .ref l /\ vs = [] /\ H l = some (.lst xs) /\ Q .aW (upd H l (.lst []))
def ma:R2:=fun x y H Q=>∃ l b xs zs,x = .ref l /\ y = .ref b /\ H l = some (.lst xs) /\ H b = some (.lst zs) /\ xs.length + zs.length <= sizeLine /\ ∀ p,H p = none -> Q (.ref p) (upd H p (.lst (xs ++ zs)))
theorem Vy:Hw X (binaryOp .Add) ma:=by
 intro pins s σ H x y v u Q I rx ry h
 obtain ⟨l,b,xs,zs,rfl,rfl,hH,hB,hz,q⟩ := h
 cases rx
 cases ry
 obtain ⟨z,aH,n,r,hl,e⟩ := I.iX hH
 obtain ⟨z2,eZ,n2,r2,lE,e2⟩ := I.iX hB
 refine PySem.P.add_list e e2 ?_ (by rw [List.size_toArray,List.size_toArray]; omega)
 have ea:aH.toArray ++ eZ.toArray = (aH ++ eZ).toArray:=by simp
 rw [ea]
 exact ⟨.ref _,_,I.zC (t':=s.toks) (r.append r2) (by rw [List.length_append]; omega),rfl,q _ I.fresh⟩
def lq:R2:=fun x y H Q=>∃ l k xs,x = .ref l /\ y = .int k /\ H l = some (.lst xs) /\ -(2 ^ 63) <= k /\ k < 2 ^ 63 /\ xs.length * k.toNat <= sizeLine /\
 ∀ p,H p = none -> Q (.ref p) (upd H p (.lst (List.replicate k.toNat xs).flatten))
theorem Xk {α:Type} (xs:List α) (k:Nat):(List.replicate k xs).flatten.length = k * xs.length:=by
 induction k with
 | zero=>simp
 | succ k ih=>rw [List.replicate_succ,List.flatten_cons,List.length_append,ih,Nat.succ_mul,Nat.add_comm]
theorem f9:Hw X (binaryOp .Mult) lq:=by
 intro pins s σ H x y v u Q I rx ry h
 obtain ⟨l,k,xs,rfl,rfl,hH,h1,h2,hz,q⟩ := h
 cases rx
 obtain ⟨t,rfl⟩ := ry
 obtain ⟨z,aH,n,r,hl,e⟩ := I.iX hH
 have hlen:aH.toArray.size * k.toNat <= sizeLine:=by rw [List.size_toArray,<- hl]; exact hz
 have IP:¬ aH.toArray.size * k.toNat > (2 ^ 63 - 1) / 8:=by
  have:(sizeLine:Nat) <= (2 ^ 63 - 1) / 8:=by decide
  omega
 have IQ:¬ (!Builtin.List.listFitsIndex k) = true:=by
  rw [fitsIndex_both h1 h2]
  exact Bool.false_ne_true
 have lJ:¬ Builtin.List.listTooLong (aH.toArray.size * k.toNat) = true:=by
  rw [Pa hlen]
  exact Bool.false_ne_true
 have uD:List.foldl (fun x1 x2=>x1 ++ x2) #[] (List.replicate (if aH.toArray.isEmpty = true then 0 else k.toNat) aH.toArray) = (List.replicate k.toNat aH).flatten.toArray:=by
  have f0:∀ m:Nat,List.foldl (fun x1 x2=>x1 ++ x2) #[] (List.replicate m aH.toArray) = (List.replicate m aH).flatten.toArray:=fun m=>by
   have:=Mx aH m []
   rw [List.nil_append] at this
   exact this
  rw [f0]
  cases aH with
  | nil=>simp
  | cons a r'=>rw [if_neg (by simp)]
 refine wpAny_binaryOp_repeat_ref (T := "list") (U := "int") (by decide) ⟨_,e,rfl⟩ (fun s'=>typeIs_int s' k t) noFill_list_mul F.fills_int_mul F.slot_int_rmul repeat_list F.slot_int_index.lookup
  (call_meets F.slot_int_rmul (typeIs_int s k t) F.entry_int_rmul (F.args_int_rmul_2 _ _) (int___rmul___int_list k t l aH.toArray n)
   ⟨e,rfl,⟨_,e,rfl⟩,call_meets F.slot_list_mul ⟨_,e,rfl⟩ F.entry_list_mul (F.args_list_mul_2 _ _) (AutoListH.list___mul___list_int_3 l aH.toArray n k t IQ IP lJ) ⟨e,?_⟩⟩)
 rw [uD]
 exact ⟨.ref _,_,I.zC (t':=s.toks) (r.rep k.toNat) (by rw [Xk,Nat.mul_comm]; exact hz),rfl,q _ I.fresh⟩
end
section
variable {prog:Program} {w:World} {A:Around} {E:Value -> Shared -> Prop} {s:Shared}
end
section
variable {X:Cx}
end
end L2
namespace Att
local macro_rules | `(tactic| omega) => `(tactic| lia)
open PySem PySem.W PySem.Calls PyProof.Rows
theorem Jf {P:Params} {h:Heap}:∀ (ns:List Int) (vs:List Value),WellAll P h vs (ns.map WData.int) -> IntsAre vs ns:=by
 intro ns
 induction ns with
 | nil =>
  intro vs w
  rw [List.map_nil] at w
  cases w
  exact .nil
 | cons n ns ih =>
  intro vs w
  rw [List.map_cons] at w
  cases w with
  | cons a b =>
   cases a
   exact .cons _ _ (ih _ b)
theorem kG {l : OpenLaw} {n : Nat} (hn : l.most = some n) {P : Params} {h : Heap} {args : List WData} {vals : List Value}
  (pN:l.row.toRowW.claim.pre args = true) (qU:WellAll P h vals args) :
  ∃ a vs ns,vals = [Value.ref a] /\ args = [WData.list (ns.map WData.int)] /\ h.get? a = some { cls := .type "list",data := .seq vs.toArray } /\ IntsAre vs ns /\ ns.length <= n:=by
 have hsh:WShape.hasAll [] args [.list .int] = true:=(pre_splitW pN).1
 have hc:l.pre.holds [] { args:=args } = true:=(pre_splitW pN).2
 obtain ⟨d,r,rfl,h1,h2⟩ := hasAllW_cons hsh
 obtain rfl:=hasAllW_nil h2
 obtain ⟨xs,rfl,h3⟩ := hasW_list h1
 obtain ⟨ns,rfl⟩ := items_int h3
 have hlen:ns.length <= n:=by
  unfold OpenLaw.pre at hc
  have h4:(WTm.not (.lt (.lit (.int (n:Int))) (.len (.arg 0)))).holds [] { args:=[.list (ns.map .int)] } = true:=by
   have h4:=(holds_andW hc).1
   rw [hn] at h4
   exact h4
  have h5:=condW_of h4 (w_not (w_lt w_lit (w_len_list (w_arg rfl))))
  rw [List.length_map] at h5
  refine Nat.le_of_not_lt fun q=>?_
  have q':(n:Int) < ((ns.length:Nat):Int):=by omega
  first
   | (rw [decide_eq_true q'] at h5; exact absurd h5 (by decide))
   | (simp at h5; omega)
 cases qU with
 | cons w1 w2 =>
  cases w2
  cases w1 with
  | list ho hall=>exact ⟨_,_,ns,rfl,rfl,ho,Jf ns _ hall,hlen⟩
theorem kH (l:OpenLaw) (args:List WData):l.row.toRowW.claim.post args (.bool true) args = true :=
 postW_of (r:=l.row.toRowW) (X:=(true == true))
  (show WShape.has [] (.bool true) .bool = true by first | rfl | decide | simp [WShape.has,WShape.arms,WShape.armsAll])
  (show (WTm.eq .res (.lit (.bool true))).value [] { args:=args,res:=some (.bool true),after:=args } = some (.bool (true == true)) from w_eq_bool (w_res rfl) w_lit) rfl
section
variable {prog:Program} {w:World} {A:Around} {E:Value -> Shared -> Prop} {s:Shared} {K:Frag}
def mw (h:Heap):Heap:={ h with objs := #[] }
def mo (h:Heap) (L d:Addr):List (Addr × Obj):=(List.range h.objs.size).filterMap fun a=>if a = L \/ a = d then none else (h.get? a).map fun o=>(a,o)
end
end Att
namespace L2
local macro_rules | `(tactic| omega) => `(tactic| lia)
open PySem PySem.Spec PyProof.Rows
theorem My:∀ {vs:List Value} {ns:List Int},IntsAre vs ns -> An (ns.map V.int) vs
 | _,_,.nil=>.nil
 | _,_,.cons n t h=>.cons ⟨t,rfl⟩ (My h)
def fb (H:Hp):Prop := ∀ b,H b = none \/ ∃ o xs,H b = some (.bK o (.lst xs))
theorem W3 {P : Program} {w : World} {K : PySem.W.Frag} {mg mb : Str -> Option Value} {CX : Si} {k : Nat} {fa a : Addr} {fd : FuncData} {x : Str} {sp : Sp} {s₁ : Shared} {vs : List Value} {ns : List Int}
  (KX:K.In s₁.heap) (hns:s₁.heap.Ns mainGlobals mg) (hb:s₁.heap.Ns builtinsNs mb) (hbb:∀ x:Str,x ≠ "__name__" -> mb x = bootBuiltins x) (IT:s₁.heap.NoLimit) (hg:s₁.gens = #[])
  (ha:s₁.heap.get? a = some { cls := .type "list",data := .seq vs.toArray }) (hi:IntsAre vs ns) (hl:ns.length <= sizeLine) (hr:C0 k callerA)
  (F:∀ base:Heap,K.In base -> base.Ns mainGlobals mg -> Ai P w K mg base CX k fa fd [x] sp) (zD:∀ (s:Shared) (u:Value),BindsTo s fd ⟨[u],[]⟩ [(x,u)])
  (jS:∀ H:Hp,fb H -> Bj K H a (ns.map V.int) -> sp [.ref a] H (fun v _=>v = .bl true) fun _ _ _=>False)
  (IU:∀ H e s',CX [] H s₁ (fun _ _ _=>False) e s' -> False) :
  codeAny (model P w) callerA (.call (.ref fa) ⟨[.ref a],[]⟩) (fun r s'=>r = .ok (.ret (.bool true)) /\ OldK s₁.heap s'.heap /\ s'.os = s₁.os /\ AllBare s'.gens) s₁:=by
 have rv:=My hi
 have IV:=hi.length
 have core : ∀ H : Hp, fb H -> Bj K H a (ns.map V.int) -> Fe P w H s₁.heap -> (∀ b, H b ≠ none -> b = a) -> (H a ≠ none -> K.lookup a = none) ->
   codeAny (model P w) callerA (.call (.ref fa) ⟨[.ref a],[]⟩) (fun r s'=>r = .ok (.ret (.bool true)) /\ OldK s₁.heap s'.heap /\ s'.os = s₁.os /\ AllBare s'.gens) s₁:=by
  intro H hO hS aR hA hK
  have jU:∀ {b:Addr} {o:Obj},s₁.heap.get? b = some o -> H b = none -> (Nt s₁.heap H).get? b = some o:=fun e n=>Vh e n
  have zz:∀ {b:Addr} {o:Obj} {es:Array DictEntry} {ep:Nat},s₁.heap.get? b = some o -> o.data = .dict es ep -> H b = none:=fun {b o es ep} e d=>by
   cases q:H b with
   | none=>rfl
   | some u =>
    have e':b = a:=hA b (by rw [q]; simp)
    subst e'
    rw [ha] at e; cases e
    have d':Data.seq vs.toArray _ = Data.dict es ep:=d
    cases d'
  have GH:∀ {b:Addr} {m:Str -> Option Value},s₁.heap.Ns b m -> (Nt s₁.heap H).Ns b m:=fun {b m} ⟨o,es,ep,e,d,r⟩=>⟨o,es,ep,jU e (zz e d),d,r⟩
  have hKb:K.In (Nt s₁.heap H):=fun b o e=>jU (KX b o e) (by
   cases q:H b with
   | none=>rfl
   | some u =>
    have e':b = a:=hA b (by rw [q]; simp)
    subst e'
    rw [hK (by rw [q]; simp)] at e; cases e)
  have hM:Mod K mg (Nt s₁.heap H):=⟨hKb,GH hns,⟨mb,GH hb,hbb⟩,let ⟨mc,h1,h2⟩ := IT; ⟨mc,GH h1,h2⟩⟩
  have e0:R7 P w K mg (Nt s₁.heap H) callerA [] s₁ H:=⟨rfl,hM,fun b o e=>Z8 e,Nat.le_of_eq (Tq _ _),trivial,fun b hb=>absurd (show b ∈ ([]:List Addr) from hb) (by simp),aR,.of_eq hg⟩
  refine codeAny_mono ((F _ hKb (GH hns)).run callerA [] s₁ H ⟨[.ref a],[]⟩ [.ref a] [.ref a] _ _ hr e0 (zD s₁ (.ref a)) (.cons rfl .nil) (jS H hO hS)) fun r s' h=>?_
  cases r with
  | error e=>exact (IU H e s' h).elim
  | ok fl =>
   cases fl with
   | next=>exact False.elim h
   | brk=>exact False.elim h
   | cont=>exact False.elim h
   | ret u =>
    obtain ⟨v,H',os,bare,un,IW,r',q⟩ := h
    have q':v = .bl true:=q
    subst q'
    obtain rfl:u = Value.bool true:=r'
    refine ⟨rfl,OldK.of_keep fun b o e=>?_,os,bare⟩
    cases q:H b with
    | none=>exact un.keep b o e q (by intro z; exact absurd (show b ∈ ([]:List Addr) from z) (by simp)) (by simp)
    | some u =>
     rcases hO b with z | ⟨ob,xs,z⟩
     ·rw [q] at z; cases z
     ·have z2:=un.bU b ob _ z
      obtain ⟨e1,_⟩ := aR b _ z
      obtain ⟨e2,_⟩ := IW b _ z2
      rw [e] at e1; cases e1
      exact e2
 cases hk:K.lookup a with
 | some o =>
  have e:=KX a o hk
  rw [ha] at e
  cases e
  refine core (fun _=>none) (fun _=>.inl rfl) (.inr ⟨_,vs.toArray,_,hk,rfl,rfl,rfl,by rw [List.size_toArray,IV]; exact hl,by simpa using rv⟩) (fun b u z=>by have z':(none:Option HO) = some u:=z; cases z') (fun b z=>absurd rfl z) fun z=>absurd rfl z
 | none =>
  refine core (fun b=>if b = a then some (.bK { cls := .type "list",data := .seq vs.toArray } (.lst (ns.map V.int))) else none) (fun b=>?_) (.inl (.inr ⟨{ cls := .type "list",data := .seq vs.toArray },if_pos rfl⟩)) (fun b u z=>?_) (fun b z=>?_) fun _=>hk
  ·by_cases hb:b = a
   ·exact .inr ⟨_,_,if_pos hb⟩
   ·exact .inl (if_neg hb)
  ·by_cases hb:b = a
   ·have z':=(if_pos hb).symm.trans z
    cases z'
    subst hb
    exact ⟨ha,by rw [List.length_map]; exact hl,vs,_,rv,ha⟩
   ·have z':=(if_neg hb).symm.trans z
    cases z'
  ·by_cases hb:b = a
   ·exact hb
   ·exact absurd (if_neg hb) z
abbrev ue {K:PySem.W.Frag} {h:Heap} (_:K.In h):PySem.W.Frag:=K
def jz (s:Stmt) (j:Nat):Stmt:=match s with
 | .ClassDef _ _ _ body _ _ _ _ _ _ _=>body.getD j (.Pass ⟨0,0,0,0⟩)
 | _=>.Pass ⟨0,0,0,0⟩
def Ap (s:Stmt):Arguments:=match s with
 | .FunctionDef _ a _ _ _ _ _ _ _ _=>a
 | _=>{ posonlyargs:=[],args:=[],vararg:=none,kwonlyargs:=[],kw_defaults:=[],kwarg:=none,defaults:=[] }
def Ak (s:Stmt):List Stmt:=match s with
 | .FunctionDef _ _ b _ _ _ _ _ _ _=>b
 | _=>[]
def A6 (s:Stmt):Scope:=match s with
 | .FunctionDef _ _ _ _ _ _ sc _ _ _=>sc
 | _=>{ kind := .function,names:=[],isGenerator:=false,isCoroutine:=false }
abbrev kr:Si:=fun _ _ _ _ _ _=>False
abbrev E0:XK:=fun _ _ _=>False
structure F8 (K:PySem.W.Frag) (x qual:Str) (st:Stmt) (f:Addr) (fd:FuncData):Prop where
 ex:∃ (oc:Value) (od:Option Addr) (kV doc pm:Value) (an:Option Addr) (aV ct:Value) (gO:Array (Option Value)),
  fd = PySem.W.fnOf x qual (Ap st) (Ak st) (A6 st) .none kV doc pm an aV ct /\ K.lookup f = some ⟨oc,od,.func fd,gO⟩ /\ PySem.W.codeIn K aV qual = true
 kp:PySem.W.keepIn K (.ref f) = true
section
variable {P:Program} {w:World} {K:PySem.W.Frag} {mg:Str -> Option Value} {base:Heap}
theorem F8.ok {x qual : Str} {st : Stmt} {f : Addr} {fd : FuncData} {N ps : List Str} {k : Nat} {sp : Sp} (F : F8 K x qual st f fd) (S : Aq N ps (A6 st)) (len : ∀ vs H Q E, sp vs H Q E -> vs.length = ps.length)
  (bM:∀ (aV:Value) (A:Around) (outer:List Env) (s:Shared) (H:Hp) (vs:List V) (Q:VK) (E:XK),C0 k (A.deeper (envOfC qual (A6 st) s.heap.objs.size f aV)) -> sp vs H Q E ->
   ∃ t,Ld (Dz kr P w K mg base N qual (A6 st) f aV A outer s H E).jR (Ak st) t /\ t { nx:=fun _ H'=>Q .aW H',rt:=Q } (start N vs) H):Ai P w K mg base kr (k + 1) f fd ps sp:=by
 obtain ⟨oc,od,kV,doc,pm,an,aV,ct,gO,rfl,lk,iV⟩ := F.ex
 refine Ss lk iV S len fun A outer s H vs Q E hr jS=>?_
 obtain ⟨t,h,q⟩ := bM aV A outer s H vs Q E hr jS
 exact ⟨t,h.jR,q⟩
theorem F8.binds {x qual : Str} {st : Stmt} {f : Addr} {fd : FuncData} {ps : List Str} (F : F8 K x qual st f fd)
  (h:∀ (kV doc pm:Value) (an:Option Addr) (aV ct:Value) (us:List Value),us.length = ps.length -> bindArgs (PySem.W.fnOf x qual (Ap st) (Ak st) (A6 st) .none kV doc pm an aV ct) ⟨us,[]⟩ = pure (ps.zip us)):Aw K fd ps []:=by
 obtain ⟨oc,od,kV,doc,pm,an,aV,ct,gO,rfl,lk,iV⟩ := F.ex
 exact .all (h kV doc pm an aV ct)
theorem Bb {x qual : Str} {st : Stmt} {f : Addr} {oc : Value} {od an : Option Addr} {gO : Array (Option Value)} {kV doc pm aV ct : Value} (l : K.lookup f = some ⟨oc, od, .func (PySem.W.fnOf x qual (Ap st) (Ak st) (A6 st) .none kV doc pm an aV ct), gO⟩)
  (c:PySem.W.codeIn K aV qual = true) (k:PySem.W.keepIn K (.ref f) = true):F8 K x qual st f (PySem.W.fnOf x qual (Ap st) (Ak st) (A6 st) .none kV doc pm an aV ct):=⟨⟨oc,od,kV,doc,pm,an,aV,ct,gO,rfl,l,c⟩,k⟩
end
theorem C6 {n:Nat} (h:n <= 1000):n < sizeLine:=Nat.lt_of_le_of_lt h (by decide)
section
variable {X:Cx}
theorem pv (i : Nat) {x : Str} {pos : Pos} (hN : X.N[i]? = some x := by rfl) (hv : le X.env.scope x := by first | exact Or.inl rfl | exact Or.inr (Or.inl rfl) | exact Or.inr (Or.inr rfl)) (hd : (x == ("__debug__" : Str)) = false := by decide)
  (iV:(x == ("__classdict__" : Str)) = false:=by decide):PE X (.Name x pos) (gl i):=ah hN hv hd iV
end
theorem Oe {c A B:Prop} [Decidable c] (h1:c -> A) (h2:¬ c -> B):if c then A else B:=by
 by_cases h:c
 ·rw [if_pos h]
  exact h1 h
 ·rw [if_neg h]
  exact h2 h
def A9 (H H':Hp):Prop := ∀ b o,H b = some o -> H' b = some o
theorem A9.refl (H:Hp):A9 H H:=fun _ _ h=>h
theorem A9.trans {H H1 H2:Hp} (a:A9 H H1) (b:A9 H1 H2):A9 H H2:=fun c o h=>b c o (a c o h)
theorem A9.free {H H':Hp} (e:A9 H H') {l:Addr} (h:H' l = Option.none):H l = Option.none:=by
 cases q:H l with
 | none=>rfl
 | some o =>
  rw [e l o q] at h
  cases h
theorem A9.seq {K:PySem.W.Frag} {H H':Hp} {a:Addr} {xs:List V} (e:A9 H H') (h:Bj K H a xs):Bj K H' a xs:=by
 rcases h with (h | ⟨o,h⟩) | h
 ·exact .inl (.inl (e _ _ h))
 ·exact .inl (.inr ⟨o,e _ _ h⟩)
 ·exact .inr h
def Dv (cells:List (Str × Addr)):List (Str × NameKind) -> List (Str × Addr) -> List (Str × Addr)
 | [],cs=>cs
 | (n,k) :: r,cs=>if k == NameKind.free then Dv cells r ((n,(cells.lookup n).getD 0) :: cs) else Dv cells r cs
theorem Im {cells : List (Str × Addr)} {x : Str} {c : Addr} : ∀ {names : List (Str × NameKind)} {cs : List (Str × Addr)}, (Dv cells names cs).lookup x = some c ->
  cs.lookup x = some c \/ ((x,NameKind.free) ∈ names /\ c = (cells.lookup x).getD 0)
 | [],cs,h=>.inl h
 | (n,k) :: r,cs,h=>by
  unfold Dv at h
  by_cases hk:(k == NameKind.free) = true
  ·rw [if_pos hk] at h
   rcases Im h with h1 | ⟨h1,h2⟩
   ·rw [List.lookup_cons] at h1
    by_cases hx:(x == n) = true
    ·rw [hx] at h1
     have e:x = n:=eq_of_beq hx
     have e2:k = NameKind.free:=eq_of_beq hk
     subst e e2
     exact .inr ⟨List.mem_cons_self,(Option.some.inj h1).symm⟩
    ·have pO:(x == n) = false:=by simpa using hx
     rw [pO] at h1
     exact .inl h1
   ·exact .inr ⟨List.mem_cons_of_mem _ h1,h2⟩
  ·rw [if_neg hk] at h
   rcases Im h with h1 | ⟨h1,h2⟩
   ·exact .inl h1
   ·exact .inr ⟨List.mem_cons_of_mem _ h1,h2⟩
theorem Gk {cells:List (Str × Addr)} {x:Str}:∀ {names:List (Str × NameKind)} {cs:List (Str × Addr)},(∃ c,cs.lookup x = some c) -> ∃ c,(Dv cells names cs).lookup x = some c
 | [],cs,h=>h
 | (n,k) :: r,cs,h=>by
  unfold Dv
  by_cases hk:(k == NameKind.free) = true
  ·rw [if_pos hk]
   refine Gk ?_
   rw [List.lookup_cons]
   cases hx:x == n with
   | true=>exact ⟨_,rfl⟩
   | false=>exact h
  ·rw [if_neg hk]
   exact Gk h
theorem Ed {cells:List (Str × Addr)} {x:Str}:∀ {names:List (Str × NameKind)} {cs:List (Str × Addr)},(x,NameKind.free) ∈ names -> ∃ c,(Dv cells names cs).lookup x = some c
 | [],cs,h=>by cases h
 | (n,k) :: r,cs,h=>by
  unfold Dv
  rcases List.mem_cons.mp h with e | h
  ·have e1:x = n:=congrArg Prod.fst e
   have e2:NameKind.free = k:=congrArg Prod.snd e
   subst e1 e2
   rw [if_pos (by decide)]
   refine Gk ⟨(cells.lookup x).getD 0,?_⟩
   rw [List.lookup_cons,beq_self_eq_true]
  ·by_cases hk:(k == NameKind.free) = true
   ·rw [if_pos hk]
    exact Ed h
   ·rw [if_neg hk]
    exact Ed h
theorem Ey {env : Env} : ∀ {names : List (Str × NameKind)} {x : Str} {k' : NameKind}, (∀ y ∈ names, y.2 ≠ NameKind.cell) -> k' ≠ .local -> (k' = .cell \/ k' = .free) ->
  (names.map fun (n,k)=>if (k == NameKind.free && env.scope.kind == .function && env.kindOf n == some .cell) then (n,NameKind.cell) else (n,k)).lookup x = some k' -> (x,NameKind.free) ∈ names
 | [],_,_,_,_,_,h=>by simp at h
 | (n,k) :: r,x,k',hc,hl,eX,h=>by
  have ih:=@Ey env r x k' (fun y hy=>hc y (List.mem_cons_of_mem _ hy)) hl eX
  have h0:List.lookup x ((if (k == NameKind.free && env.scope.kind == .function && env.kindOf n == some .cell) = true then (n,NameKind.cell) else (n,k)) :: (r.map fun (n,k)=>if (k == NameKind.free && env.scope.kind == .function && env.kindOf n == some .cell) then (n,NameKind.cell) else (n,k))) = some k':=h
  by_cases uE:(k == NameKind.free && env.scope.kind == .function && env.kindOf n == some .cell) = true
  ·rw [if_pos uE,List.lookup_cons] at h0
   have e2:k = NameKind.free:=by
    have q:=(Bool.and_eq_true_iff.mp (Bool.and_eq_true_iff.mp uE).1).1
    exact eq_of_beq q
   cases hx:x == n with
   | true =>
    have e:x = n:=eq_of_beq hx
    subst e e2
    exact List.mem_cons_self
   | false =>
    rw [hx] at h0
    exact List.mem_cons_of_mem _ (ih h0)
  ·rw [if_neg uE,List.lookup_cons] at h0
   cases hx:x == n with
   | true =>
    rw [hx] at h0
    have e:x = n:=eq_of_beq hx
    have e3:k = k':=Option.some.inj h0
    subst e e3
    rcases eX with z | z
    ·exact absurd z (hc _ List.mem_cons_self)
    ·subst z
     exact List.mem_cons_self
   | false =>
    rw [hx] at h0
    exact List.mem_cons_of_mem _ (ih h0)
structure Cl (sc scope:Scope) (N bR:List Str) (fr:List Nat):Prop where
 kind:scope.kind = .function
 iY:∀ y ∈ scope.names,y.2 ≠ NameKind.cell
 loc:∀ y ∈ scope.names,y.2 = NameKind.local -> scope.names.lookup y.1 = some NameKind.local
 free:∀ y ∈ scope.names,y.2 = NameKind.free -> sc.names.lookup y.1 = some NameKind.cell
 dY:∀ j ∈ fr,(N[j]?.bind fun x=>scope.names.lookup x) = some NameKind.free
def Bd (N bR:List Str) (fr:List Nat):List Str:=bR ++ fr.map fun j=>(N[j]?).getD ⟨#[]⟩
def E4 (fr:List Nat) (σ:St):St:=fr.map fun j=>(σ[j]?).getD none
def E2 (n:Nat) (fr:List Nat) (σ:St):St:=List.replicate n none ++ E4 fr σ
def Bz (X:Cx) (Nc:List Str) (scope:Scope) (C:Addr) (s2:Shared) (H2:Hp) (fp:List Addr):Cx :=
 { X with N:=Nc,s₀:=s2,H₀:=H2,env:=compEnvC scope (Dv X.env.cells scope.names []) C X.env,outer:=X.stack,ex:=fp,fn:=fun _=>false,pn:=[],xe:=fun _ _=>False }
def i4 (X:Cx) (ifs:List Expr) (t:TT):Prop :=
 ∀ (pins:List (Addr × Obj)) (s:Shared) (σ:St) (H:Hp) (Q:Bool -> Hp -> Prop),Ae X pins σ H s -> t σ H Q ->
  wpAny (model X.prog X.w) X.A (forIn ifs true fun c r=>if r = true then do let ok <- isTrue c X.env (eval c X.env); pure (ForInStep.yield ok) else pure (ForInStep.yield r)) (TP X pins σ Q) X.xe s
def Qb:TT:=fun _ H Q=>Q true H
theorem D3 {X:Cx}:i4 X [] Qb:=fun _ _ _ H _ I h=>wpAny_tests_nil ⟨H,I,h⟩
theorem Ti {X:Cx} {c:Expr} {t:TT} (h:PT X c t):i4 X [c] t:=fun pins s σ H Q I hq=>wpAny_tests_one (h pins s σ H Q I hq)
section
variable {prog:Program} {w:World} {A:Around} {R:Result -> Shared -> Prop} {s:Shared}
theorem O3 {elt target iter : Expr} {ifs : List Expr} {scope : Scope} {pos : Pos} {it acc : Value} {env : Env} (I : Nat -> Shared -> Prop)
  (turn:∀ n s,I n s -> wpAny (model prog w) A (pyNext it) (fun r s₁=>match r with
   | none=>R (.ok .next) s₁
   | some v => wpAny (model prog w) A (letOwnedTupleGo target it v) (fun _ s₁' => wpAny (model prog w) A (assign target env v) (fun _ s₂ =>
     wpAny (model prog w) A (forIn ifs true fun c r=>if r = true then do let ok <- isTrue c env (eval c env); pure (ForInStep.yield ok) else pure (ForInStep.yield r)) (fun ok s₃ =>
      if ok = true then wpAny (model prog w) A (eval elt env) (fun x s₄ =>
       wpAny (model prog w) A (call (.builtin "list.append") [acc,x]) (fun _ s₅=>∃ m,m < n /\ I m s₅) (fun _ _=>False) s₄) (fun _ _=>False) s₃
      else ∃ m,m < n /\ I m s₃) (fun _ _=>False) s₂) (fun _ _=>False) s₁') (fun _ _=>False) s₁) (fun _ _=>False) s)
  (n:Nat) (h:I n s) :
  codeAny (model prog w) A (.compLoop (.ListComp elt [⟨target,iter,ifs,0⟩] scope pos) 0 it acc env) R s:=by
 refine codeAny_loop rfl I (fun n s hI=>?_) n h
 show wpAny _ A ((compTurn (.ListComp elt [⟨target,iter,ifs,0⟩] scope pos) 0 it acc env).onRaise (fun x=>do noteFrame x env; theTreesLotGoes x)) _ _ s
 refine wpAny_noted ?_
 rw [compTurn_list]
 refine wpAny_bind (wpAny_standAt (wpAny_bind (wpAny_mono (turn n s hI) (fun r s₁ h₁=>?_) fun _ _ h'=>h'.elim)))
 cases r with
 | none=>exact wpAny_pure h₁
 | some v =>
  refine wpAny_bind (wpAny_mono h₁ (fun _ s₁' h₁'=>?_) fun _ _ h'=>h'.elim)
  refine wpAny_bind (wpAny_mono h₁' (fun _ s₂ h₂=>wpAny_bind (wpAny_mono h₂ (fun ok s₃ h₃=>?_) fun _ _ h'=>h'.elim)) fun _ _ h'=>h'.elim)
  cases ok with
  | false=>exact wpAny_pure ⟨rfl,h₃⟩
  | true =>
   exact wpAny_bind (wpAny_bind (wpAny_mono h₃ (fun x s₄ h₄=>wpAny_bind (wpAny_mono h₄ (fun _ s₅ h₅=>wpAny_pure (wpAny_pure ⟨rfl,h₅⟩)) fun _ _ h'=>h'.elim)) fun _ _ h'=>h'.elim))
end
def Er (n:Nat) (fr:List Nat) (J:It) (g:TG) (tt:TT) (te:TE) (σ:St) (D:Addr) (H1:Hp) (Q:Hp -> Prop):Prop :=
 ∃ W:Nat -> Nat -> List V -> Hp -> Prop,(∃ m,W 0 m [] (upd H1 D (.lst []))) /\ ∀ i m ys H',W i m ys H' ->
  (J.stop i H' /\ Q H') \/ (J.go i H' /\ ∀ x H2,J.uw i H' x H2 -> g x (E2 n fr σ) H2 fun σ3 H3=>(∃ zs:St,zs.length = n /\ σ3 = zs ++ E4 fr σ) /\ tt σ3 H3 fun b H4 =>
   if b = true then te σ3 H4 fun y H5=>H5 D = some (.lst ys) /\ ys.length < sizeLine /\ ∃ m',m' < m /\ W (i + 1) m' (ys ++ [y]) (upd H5 D (.lst (ys ++ [y])))
   else ∃ m',m' < m /\ W (i + 1) m' ys H4)
def jk (n:Nat) (fr:List Nat) (wi:TI) (g:TG) (tt:TT) (te:TE):TE:=fun σ H Q=>wi σ H fun J H1=>∀ D,H1 D = none -> Er n fr J g tt te σ D H1 (Q (.ref D))
def Wd (n:Nat) (fr:List Nat) (wi:TI) (g:TG) (tt:TT) (te:TE) (i:Nat):TS:=fun D σ H=>wi σ H fun J H1=>∀ l,H1 l = none -> Er n fr J g tt te σ l H1 (D.nx (σ.set i (some (.ref l))))
section
variable {X:Cx} {tg iter elt:Expr} {ifs:List Expr} {scope sc:Scope} {bR:List Str} {fr:List Nat} {wi:TI} {g:TG} {tt:TT} {te:TE} {pos:Pos}
theorem Lo {pins : List (Addr × Obj)} {σ : St} {H2 : Hp} {s2 : Shared} {it : Addr} {fp : List Addr} {tn : Nat -> Heap -> Prop} {J : It} {RR : Value -> Addr -> Result -> Shared -> Prop} {E : Value -> Shared -> Prop} {Qf : Hp -> Prop}
  (z8:X.env.scope = sc) (S:Cl sc scope X.N bR fr) (hc:X.calm = true)
  (hg:∀ C s2 H2 fp,PG (Bz X (Bd X.N bR fr) scope C s2 H2 fp) tg g) (ht:∀ C s2 H2 fp,i4 (Bz X (Bd X.N bR fr) scope C s2 H2 fp) ifs tt) (he:∀ C s2 H2 fp,PE (Bz X (Bd X.N bR fr) scope C s2 H2 fp) elt te)
  (I2:Ae X pins σ H2 s2) (T:Ry X.prog X.w X.K tg J fp it tn) (aU:tn 0 s2.heap) (f2:∀ b ∈ fp,Lb X pins H2 b)
  (run:Er bR.length fr J g tt te σ s2.heap.objs.size H2 Qf)
  (hRR:∀ (C:Addr) (H3:Hp) (s4:Shared),Ae X pins σ H3 s4 -> Lb X pins H3 C -> (∃ m,s4.heap.Ns C m) -> Qf H3 -> RR (.ref s2.heap.objs.size) C (.ok .next) s4) :
  wpAny (model X.prog X.w) X.A (newList []) (fun acc s₃=>wpAny (model X.prog X.w) X.A (newFunctionEnv scope X.env.globals (Dv X.env.cells scope.names []) [] X.env.qual none .none (some X.env)) (fun zE s₄ =>
   codeAny (model X.prog X.w) X.A (.compStart (.ListComp elt [⟨tg,iter,ifs,0⟩] scope pos) 0 (.ref it) acc { zE with scope:=relabel scope X.env }) (RR acc zE.locals) s₄) E s₃) E s2:=by
 refine wpAny_newObj_type (wpAny_newFunctionEnv S.iY (by intro y hy; simp at hy) (fun h₁ uF pP=>?_) S.kind)
 dsimp only at uF pP ⊢
 generalize IX:s2.heap.push { cls := .type "list",dict:=none,data := .seq ([]:List Value).toArray } = G2 at uF pP ⊢
 have hC:G2.objs.size = s2.heap.objs.size + 1:=by rw [<- IX,Heap.size_push]
 have hDC:s2.heap.objs.size ≠ G2.objs.size:=by rw [hC]; exact Nat.ne_of_lt (Nat.lt_succ_self _)
 have hle:s2.heap.objs.size <= G2.objs.size:=by rw [hC]; exact Nat.le_succ _
 have below:∀ b,b < s2.heap.objs.size -> b ≠ G2.objs.size /\ b ≠ s2.heap.objs.size:=fun b hb=>⟨Nat.ne_of_lt (Nat.lt_of_lt_of_le hb hle),Nat.ne_of_lt hb⟩
 have old:∀ b o,s2.heap.get? b = some o -> h₁.get? b = some o:=fun b o e=>pP.extBut b o (below b (Heap.lt_size e)).1 (Heap.get?_push_of_some _ (IX ▸ Heap.get?_push_of_some _ e))
 have IY:h₁.get? s2.heap.objs.size = some { cls := .type "list",data := .seq ([]:List Value).toArray 0 }:=pP.extBut _ _ hDC (Heap.get?_push_of_some _ (IX ▸ Heap.get?_push_size _ rfl))
 have uG:∀ y ∈ scope.names,y.2 = NameKind.free -> ∃ c,X.env.cells.lookup y.1 = some c:=fun y hy e=>I2.ok.has y.1 (.inl (by show X.env.scope.names.lookup y.1 = _; rw [z8]; exact S.free y hy e))
 have iZ:∀ x c,(Dv X.env.cells scope.names []).lookup x = some c -> X.env.cells.lookup x = some c:=fun x c e=>by
  rcases Im e with z | ⟨z1,z2⟩
  ·simp at z
  ·obtain ⟨c',e'⟩ := uG _ z1 rfl
   rw [z2,e']
   rfl
 have uH:∀ x c,X.env.cells.lookup x = some c -> c < s2.heap.objs.size:=fun x c e=>by
  obtain ⟨v,q⟩ := I2.cell x c e
  exact q.lt
 have uI:∀ b ∈ fp,b < s2.heap.objs.size:=fun b hb=>by
  obtain ⟨o,e,_⟩ := T.obj 0 _ aU b hb
  exact Heap.lt_size e
 have IZ:(Bz X (Bd X.N bR fr) scope G2.objs.size s2 H2 fp).Ok:=by
  refine ⟨I2.ok.mod,S.kind,I2.ok.glob,I2.ok.blt,hle,fun x y c e1 e2=>I2.ok.inj x y c (iZ x c e1) (iZ y c e2),fun x hx=>?_,fun x c z _=>absurd z Bool.false_ne_true,I2.ok.hd,I2.ok.frames,.inl rfl,
   fun b hb=>⟨(below b (uI b hb)).1,fun x c e=>(f2 b hb).2.2.2.2.1 x c (iZ x c e)⟩,I2.bs,Nat.le_trans I2.ok.lD I2.sz,fun b o e hb=>?_,fun b hb z=>?_,I2.stack,I2.cH⟩
  ·rcases hx with hx | hx
   ·exact Ed (Ey (env:=X.env) S.iY (by decide) (.inl rfl) hx)
   ·exact Ed (Ey (env:=X.env) S.iY (by decide) (.inr rfl) hx)
  ·rcases (f2 b hb).2.2.2.1 with z | z
   ·exact I2.ok.iR b o e z
   ·exact absurd (Nat.lt_of_lt_of_le (Heap.lt_size e) (Nat.le_trans I2.ok.lD z)) (Nat.lt_irrefl _)
  ·rcases List.mem_cons.mp (I2.iU b z) with z | z
   ·exact (f2 b hb).2.1 z
   ·exact (f2 b hb).2.2.1 z
 have I3:Ae (Bz X (Bd X.N bR fr) scope G2.objs.size s2 H2 fp) [] (E2 bR.length fr σ) (upd H2 s2.heap.objs.size (.lst [])) { s2 with heap:=h₁,toks:=s2.toks + ([]:List (Str × Value)).length }:=by
  refine ⟨IZ,rfl,I2.bare,Un.laid old (Nat.le_refl _) I2.fresh,⟨_,uF,fun i x v e1 e2 e3=>?_⟩,fun x c e=>?_,?_,fun x c e=>?_,fun p hp=>absurd (show p ∈ ([]:List (Addr × Obj)) from hp) (by simp),I2.aR.laid old (Nat.le_refl _) ⟨Nat.zero_le _,[],0,.nil,IY⟩,?_⟩
  ·-- a name of the comprehension that has a value at the start is one of the def's cells
   have hi:bR.length <= i:=by
    refine Nat.le_of_not_lt fun aX=>?_
    unfold E2 at e2
    rw [List.getElem?_append_left (by simpa using aX),List.getElem?_replicate,if_pos aX] at e2
    cases e2
   have GI:(E4 fr σ)[i - bR.length]? = some (some v):=by
    unfold E2 at e2
    rw [List.getElem?_append_right (by simpa using hi)] at e2
    simpa using e2
   have lL:(fr.map fun j=>(X.N[j]?).getD ⟨#[]⟩)[i - bR.length]? = some x:=by
    have e1:(Bd X.N bR fr)[i]? = some x:=e1
    unfold Bd at e1
    rw [List.getElem?_append_right hi] at e1
    exact e1
   unfold E4 at GI
   rw [List.getElem?_map] at lL GI
   cases ej:fr[i - bR.length]? with
   | none=>rw [ej] at lL; cases lL
   | some j =>
    rw [ej] at lL GI
    have e1j:(X.N[j]?).getD ⟨#[]⟩ = x:=Option.some.inj lL
    have GJ:(σ[j]?).getD none = some v:=Option.some.inj GI
    have eU:=S.dY j (List.mem_of_getElem? ej)
    cases eN:X.N[j]? with
    | none=>rw [eN] at eU; cases eU
    | some x' =>
     rw [eN] at eU e1j
     have ex:x' = x:=e1j
     subst ex
     have hfx:scope.names.lookup x' = some NameKind.free:=eU
     have hσ:σ[j]? = some (some v):=by
      cases eσ:σ[j]? with
      | none=>rw [eσ] at GJ; cases GJ
      | some o=>rw [eσ] at GJ; exact congrArg some GJ
     have bV:=PySem.mem_of_lookup hfx
     have hkc:X.env.scope.names.lookup x' = some NameKind.cell:=by rw [z8]; exact S.free _ bV rfl
     obtain ⟨m,hn,hl⟩ := I2.loc
     obtain ⟨u,ru,lk⟩ := hl j x' v eN hσ (.inr (.inl hkc))
     refine ⟨u,ru,.inr ⟨?_,?_⟩⟩
     ·have e3:(relabel scope X.env).names.lookup x' = some NameKind.local \/ (relabel scope X.env).names.lookup x' = some NameKind.cell \/ (relabel scope X.env).names.lookup x' = some NameKind.free:=e3
      rcases e3 with z | z | z
      ·exfalso
       have key:∀ (names:List (Str × NameKind)),names.lookup x' = some NameKind.free -> (names.map fun (n,k)=>if (k == NameKind.free && X.env.scope.kind == .function && X.env.kindOf n == some .cell) then (n,NameKind.cell) else (n,k)).lookup x' ≠ some NameKind.local:=by
        intro names
        induction names with
        | nil=>intro h; simp at h
        | cons p r ih =>
         obtain ⟨n,k⟩ := p
         intro h h2
         have h2:List.lookup x' ((if (k == NameKind.free && X.env.scope.kind == .function && X.env.kindOf n == some .cell) = true then (n,NameKind.cell) else (n,k)) :: (r.map fun (n,k)=>if (k == NameKind.free && X.env.scope.kind == .function && X.env.kindOf n == some .cell) then (n,NameKind.cell) else (n,k))) = some NameKind.local:=h2
         rw [List.lookup_cons] at h
         cases hx:x' == n with
         | true =>
          rw [hx] at h
          have ek:k = NameKind.free:=Option.some.inj h
          subst ek
          split at h2
          ·rw [List.lookup_cons,hx] at h2; cases h2
          ·rw [List.lookup_cons,hx] at h2; cases h2
         | false =>
          rw [hx] at h
          split at h2
          ·rw [List.lookup_cons,hx] at h2; exact ih h h2
          ·rw [List.lookup_cons,hx] at h2; exact ih h h2
       exact key scope.names hfx z
      ·exact .inl z
      ·exact .inr z
     ·obtain ⟨c,ec⟩ := Ed (cells:=X.env.cells) (cs:=[]) bV
      rcases lk with ⟨k1,_⟩ | ⟨_,c',ec',ic⟩
      ·have k1:X.env.scope.names.lookup x' = some NameKind.local:=k1
       rw [hkc] at k1; cases k1
      ·have q:=iZ _ _ ec
       rw [ec'] at q
       have q':c' = c:=Option.some.inj q
       subst q'
       exact ⟨_,ec,ic.keeps old⟩
  ·obtain ⟨v,q⟩ := I2.cell x c (iZ x c e)
   exact ⟨v,q.keeps old⟩
  ·show upd H2 s2.heap.objs.size (.lst []) G2.objs.size = none
   rw [Aa hDC.symm]
   exact I2.aR.fresh hle
  ·rw [Aa (Nat.ne_of_lt (uH x c (iZ x c e)))]
   exact I2.bD x c (iZ x c e)
  ·unfold E2 E4
   show _ = (Bd X.N bR fr).length
   unfold Bd
   simp
 obtain ⟨W,⟨m0,w0⟩,turn⟩ := run
 have stat:∀ {H':Hp},(∀ b ∈ fp,H' b = none) -> ∀ b ∈ fp,Lb (Bz X (Bd X.N bR fr) scope G2.objs.size s2 H2 fp) [] H' b:=fun hn b hb =>
  ⟨hn b hb,(below b (uI b hb)).1,IZ.iT b hb,.inl hb,(IZ.zv b hb).2,fun p hp=>absurd (show p ∈ ([]:List (Addr × Obj)) from hp) (by simp)⟩
 have GG:∀ b ∈ fp,upd H2 s2.heap.objs.size (.lst []) b = none:=fun b hb=>by rw [Aa (below b (uI b hb)).2]; exact (f2 b hb).1
 have eS:tn 0 h₁:=T.keep 0 _ _ aU fun b _ o e=>old b o e
 have fin:∀ {H3:Hp} {s4:Shared},Ae (Bz X (Bd X.N bR fr) scope G2.objs.size s2 H2 fp) [] (E2 bR.length fr σ) H3 s4 -> Qf H3 -> RR (.ref s2.heap.objs.size) G2.objs.size (.ok .next) s4:=fun {H3 s4} I4 q=>by
  obtain ⟨m,hn,_⟩ := id I4.loc
  have ub:Un (dY X.stack) fp H2 H3 s2.heap s4.heap:=I4.base
  refine hRR G2.objs.size H3 s4 (I2.qS (ch:=fp) (s':=s4) I4.os ub I4.aR I4.bare fun b hb=>⟨(f2 b hb).2.2.2.1,(f2 b hb).2.1,(f2 b hb).2.2.2.2.1,(f2 b hb).2.2.2.2.2⟩) (I2.kC hle I4.free) ⟨m,hn⟩ q
 have loop : ∀ s₃ : Shared, s₃ = { s2 with heap := h₁, toks := s2.toks + ([] : List (Str × Value)).length } ->
   codeAny (model X.prog X.w) X.A (.compLoop (.ListComp elt [⟨tg,iter,ifs,0⟩] scope pos) 0 (.ref it) (.ref s2.heap.objs.size) (compEnvC scope (Dv X.env.cells scope.names []) G2.objs.size X.env)) (RR (.ref s2.heap.objs.size) G2.objs.size) s₃:=by
  rintro s₃ rfl
  refine O3 (fun n s'=>∃ i ys H',Ae (Bz X (Bd X.N bR fr) scope G2.objs.size s2 H2 fp) [] (E2 bR.length fr σ) H' s' /\ tn i s'.heap /\ (∀ b ∈ fp,H' b = none) /\ W i n ys H') ?_ m0 ⟨0,[],_,I3,eS,GG,w0⟩
  rintro n s5 ⟨i,ys,H3,J3,sti,fri,w3⟩
  rcases turn i n ys H3 w3 with ⟨stop,q⟩ | ⟨go,step⟩
  ·refine wpAny_mono (T.done (Bz X (Bd X.N bR fr) scope G2.objs.size s2 H2 fp) rfl rfl rfl hc i [] s5 _ H3 (fun _ _=>False) J3 (stat fri) sti stop) (fun r s6 ⟨hr,J4⟩=>?_) (fun _ _ f=>f)
   subst hr
   exact fin J4 q
  ·refine wpAny_mono (T.item (Bz X (Bd X.N bR fr) scope G2.objs.size s2 H2 fp) rfl rfl rfl hc i [] s5 _ H3 (fun _ _=>False) J3 (stat fri) sti go) (fun r s6 ⟨u,hr,h6⟩=>?_) (fun _ _ f=>f)
   subst hr
   refine wpAny_mono h6 (fun _ s7 ⟨x,H7,J7,r7,y7,JA,fr7⟩=>?_) (fun _ _ f=>f)
   have J7':=J7.pinned (stat fr7) (T.obj _ _ JA)
   refine wpAny_mono (hg G2.objs.size s2 H2 fp _ s7 _ H7 x u _ J7' r7 (step x H7 y7)) (fun _ s8 ⟨σ8,H8,J8,⟨zs,hz,e8⟩,q8⟩=>?_) (fun _ _ f=>f)
   have again : ∀ {H9 : Hp} {s9 : Shared} {zF : List V}, Ae (Bz X (Bd X.N bR fr) scope G2.objs.size s2 H2 fp) ([] ++ Kd fp s7.heap) σ8 H9 s9 -> (∃ m', m' < n /\ W (i + 1) m' zF H9) ->
     ∃ m,m < n /\ ∃ i ys H',Ae (Bz X (Bd X.N bR fr) scope G2.objs.size s2 H2 fp) [] (E2 bR.length fr σ) H' s9 /\ tn i s9.heap /\ (∀ b ∈ fp,H' b = none) /\ W i m ys H':=fun {H9 s9 zF} J9 ⟨m',hm,w9⟩=>by
    refine ⟨m',hm,i + 1,zF,H9,J9.dB.weak ?_ ?_,T.keep _ _ _ JA fun b hb o e=>(J9.pin (b,o) (List.mem_append_right _ (List.mem_append_right _ (Eo hb e)))).1,fun b hb=>?_,w9⟩
    ·rw [e8]; unfold E2; simp [hz]
    ·intro k v ek
     rw [e8]
     unfold E2 at ek
     by_cases hk:k < bR.length
     ·rw [List.getElem?_append_left (by simpa using hk),List.getElem?_replicate,if_pos hk] at ek
      cases ek
     ·rw [List.getElem?_append_right (by simpa using hk)] at ek
      rw [List.getElem?_append_right (by omega),hz]
      simpa using ek
    ·obtain ⟨o,e,d⟩ := T.obj _ _ JA b hb
     exact (J9.pin (b,o) (List.mem_append_right _ (List.mem_append_right _ (Eo hb e)))).2.1
   refine wpAny_mono (ht G2.objs.size s2 H2 fp _ s8 σ8 H8 _ J8 q8) (fun ok s9 ⟨H9,J9,q9⟩=>?_) (fun _ _ f=>f)
   cases ok with
   | false =>
    rw [if_neg Bool.false_ne_true] at q9 ⊢
    exact again J9 q9
   | true =>
    rw [if_pos rfl] at q9 ⊢
    refine wpAny_mono (he G2.objs.size s2 H2 fp _ s9 σ8 H9 _ J9 q9) (fun y qV ⟨v10,qW,J10,r10,hD,hlen,JB⟩=>?_) (fun _ _ f=>f)
    refine wpAny_mono (Fx (X:=Bz X (Bd X.N bR fr) scope G2.objs.size s2 H2 fp) _ qV σ8 qW (.ref s2.heap.objs.size) [v10] (.ref s2.heap.objs.size) [y] (fun _ uJ=>uJ = upd qW s2.heap.objs.size (.lst (ys ++ [v10]))) J10 rfl (.cons r10 .nil) ⟨_,ys,v10,rfl,rfl,hD,hlen,rfl⟩) (fun _ zG ⟨_,uJ,J11,_,GK⟩=>?_) (fun _ _ f=>f)
    subst GK
    exact again J11 JB
 exact codeAny_compStart_list (loop _ rfl) (T.self _ 0 _ _ _ eS (loop _ rfl))
theorem Dr (hi : PI X tg iter wi) (sc : Scope) (z8 : X.env.scope = sc) (S : Cl sc scope X.N bR fr) (hc : X.calm = true) (lM : closureFor scope X.env = pure (Dv X.env.cells scope.names []))
  (hg:∀ C s2 H2 fp,PG (Bz X (Bd X.N bR fr) scope C s2 H2 fp) tg g) (ht:∀ C s2 H2 fp,i4 (Bz X (Bd X.N bR fr) scope C s2 H2 fp) ifs tt) (he:∀ C s2 H2 fp,PE (Bz X (Bd X.N bR fr) scope C s2 H2 fp) elt te)
  (hs:∀ x,foldedSetIterable iter X.env x = pure x:=by intro _; rfl):PE X (.ListComp elt [⟨tg,iter,ifs,0⟩] scope pos) (jk bR.length fr wi g tt te):=by
 intro pins s σ H Q I h
 rw [eval_ListComp]
 refine wpAny_comprehension_free (use:=none) rfl hs lM S.kind S.loc (wpAny_mono (hi pins s σ H _ I h) (fun v s1 h1=>wpAny_mono h1 (fun GF s2 h2=>?_) fun _ _ e=>e) fun _ _ e=>e)
 obtain ⟨it,fp,tn,J,H2,e,I2,T,aU,f2,R2⟩ := h2
 subst e
 refine Lo (RR:=fun acc C=>compPost (model X.prog X.w) X.A X.xe none (EP X pins σ Q) acc C) z8 S hc hg ht he I2 T aU f2 (R2 _ I2.fresh) ?_
 intro C H3 s4 I4 fC ⟨m,hn⟩ q
 refine ⟨m,hn,fun h' zH=>⟨.ref s2.heap.objs.size,H3,?_,rfl,q⟩⟩
 obtain ⟨hh,gg,dd,JC,oo⟩ := s4
 exact I4.turned (h':=h') (t':=JC) (it:=C) (fun b o hb e=>zH.extBut b o hb e) fC.1 fC.2.1 fC.2.2.2.1 fC.2.2.2.2.1 fC.2.2.2.2.2
theorem Ep {i : Nat} {y : Str} {py zI : Pos} (hN : X.N.Nodup) (hiy : X.N[i]? = some y) (hi : PI X tg iter wi) (sc : Scope) (z8 : X.env.scope = sc) (S : Cl sc scope X.N bR fr) (hc : X.calm = true)
  (lM:closureFor scope X.env = pure (Dv X.env.cells scope.names []))
  (hg:∀ C s2 H2 fp,PG (Bz X (Bd X.N bR fr) scope C s2 H2 fp) tg g) (ht:∀ C s2 H2 fp,i4 (Bz X (Bd X.N bR fr) scope C s2 H2 fp) ifs tt) (he:∀ C s2 H2 fp,PE (Bz X (Bd X.N bR fr) scope C s2 H2 fp) elt te)
  (hy:X.env.scope.names.lookup y = some NameKind.local)
  (hsw:swapsWith (.ListComp elt [⟨tg,iter,ifs,0⟩] scope pos) (some (.Name y py)) zI.line X.env = pure true)
  (hs:∀ x,foldedSetIterable iter X.env x = pure x:=by intro _; rfl) :
  PS X (.Assign [.Name y py] (.ListComp elt [⟨tg,iter,ifs,0⟩] scope pos) zI) (Wd bR.length fr wi g tt te i):=by
 intro pins s σ H D I h
 rw [exec_Assign_Name_used _ _ _ _ hsw]
 refine wpAny_bind (wpAny_standAt (wpAny_bind ?_))
 show wpAny _ X.A (do let _ <- comprehension (.ListComp elt [⟨tg,iter,ifs,0⟩] scope pos) scope X.env _ (newList []) false (eval iter X.env) (some (assign (.Name y py) X.env))) _ _ s
 refine wpAny_bind (wpAny_mono (wpAny_comprehension_free (use:=some (assign (.Name y py) X.env)) (Q:=fun _ s'=>SP X pins D .next s') rfl hs lM S.kind S.loc
  (wpAny_mono (hi pins s σ H _ I h) (fun v s1 h1=>wpAny_mono h1 (fun GF s2 h2=>?_) fun _ _ e=>e) fun _ _ e=>e)) (fun _ s' hq=>wpAny_pure (wpAny_pure hq)) fun _ _ e=>e)
 obtain ⟨it,fp,tn,J,H2,e,I2,T,aU,f2,R2⟩ := h2
 subst e
 refine Lo (RR:=fun acc C=>compPost (model X.prog X.w) X.A X.xe (some (assign (.Name y py) X.env)) (fun _ s'=>SP X pins D .next s') acc C) z8 S hc hg ht he I2 T aU f2 (R2 _ I2.fresh) ?_
 intro C H3 s4 I4 fC ⟨m,hn⟩ q
 refine wpAny_assign_Name (M6 (v := .ref s2.heap.objs.size) I4 hN hiy (.inl hy) rfl (fun s5 I5 ⟨a,hsb,ha⟩=>?_) (.inr hy))
 have JD:C ≠ a:=by
  rcases ha with z | z
  ·rw [z]; exact fC.2.1
  ·exact fun z2=>fC.2.2.2.2.1 y a z z2.symm
 refine ⟨m,hn.sameBut hsb JD,fun h' zH=>⟨_,H3,?_,q⟩⟩
 obtain ⟨hh,gg,dd,JC,oo⟩ := s5
 exact I5.turned (h':=h') (t':=JC) (it:=C) (fun b o hb e=>zH.extBut b o hb e) fC.1 fC.2.1 fC.2.2.2.1 fC.2.2.2.2.1 fC.2.2.2.2.2
end
open PySem.Builtin.Int (intBits)
section
variable {X:Cx}
theorem Jg:Hw X (binaryOp .Mult) (rI IntMulOk fun i j=>.int (i * j)):=kg fun _ _ _ _ _ _ _ hc q=>mul_int q hc
end
theorem iy {a b:Int} {m n:Nat} (ha:intBits a <= m) (hb:intBits b <= n) (h:m + n <= 134217728):IntMulOk a b:=PyProof.Rows.mulOk_of_bits ha hb h
def lz (T C:String):Option Bool:=if (Value.type T == Value.type C) = true then some true else if PySem.W.kitMeta C = true then (fastBuiltinMro T).map (·.contains (Value.type C)) else none
section
variable {X:Cx}
def tw (K:PySem.W.Frag):List V -> Hp -> VK -> Prop:=fun xs H Q=>∃ x T C b,xs = [x,.ty C] /\ Ja K H x (.type T) /\ lz T C = some b /\ Q (.bl b) H
theorem gq {x:Str} {T:String} {pos:Pos} (hg:Gl X x) (hm:X.mg x = none) (hv:bootBuiltins x = some (.type T)) (hn:x ≠ "__name__" := by decide) (hd:(x == ("__debug__" : Str)) = false:=by decide):PE X (.Name x pos) (tC (.ty T)) :=
 Z2 hg hm hv rfl hn hd
end
mutual
def Rp (H:Hp):PyData -> V -> Prop
 | .none,v=>v = .aW
 | .bool b,v=>v = .bl b
 | .int i,v=>v = .int i
 | .tuple ds,v=>∃ a xs,v = .ref a /\ H a = some (.tup xs) /\ aM H ds xs
 | .list ds,v=>∃ a xs,v = .ref a /\ H a = some (.lst xs) /\ aM H ds xs
 | .str x,v=>v = .str x /\ PyData.strOk x = true
 | .dict _,_=>False
def aM (H:Hp):List PyData -> List V -> Prop
 | [],vs=>vs = []
 | d :: ds,vs=>∃ x xs,vs = x :: xs /\ Rp H d x /\ aM H ds xs
end
mutual
theorem Cd {H:Hp}:∀ (d:PyData) (v:V),Rp H d v -> d.canLay0 = true
 | .none,_,_=>rfl
 | .bool _,_,_=>rfl
 | .int _,_,_=>rfl
 | .tuple ds,_,h=>by
  unfold Rp at h
  obtain ⟨a,xs,_,_,h⟩ := h
  exact dZ ds xs h
 | .list ds,_,h=>by
  unfold Rp at h
  obtain ⟨a,xs,_,_,h⟩ := h
  exact dZ ds xs h
 | .str x,v,h=>by
  unfold Rp at h
  exact h.2
 | .dict _,_,h=>by unfold Rp at h; exact h.elim
theorem dZ {H:Hp}:∀ (ds:List PyData) (vs:List V),aM H ds vs -> PyData.canLayAll0 ds = true
 | [],_,_=>rfl
 | d :: ds,vs,h=>by
  unfold aM at h
  obtain ⟨x,xs,_,h1,h2⟩ := h
  show (d.canLay0 && PyData.canLayAll0 ds) = true
  rw [Cd d x h1,dZ ds xs h2]
  rfl
end
section
variable {X:Cx} {pins:List (Addr × Obj)} {σ:St} {H:Hp} {s:Shared}
mutual
theorem Ce (I:Ae X pins σ H s):∀ (d:PyData) (v:V) (u:Value),Rp H d v -> Ao v u -> ∃ as,Reads s.heap u d as
 | .none,v,u,h,r=>by
  unfold Rp at h
  subst h
  cases r
  exact ⟨_,.none⟩
 | .bool b,v,u,h,r=>by
  unfold Rp at h
  subst h
  cases r
  exact ⟨_,.bool b⟩
 | .int i,v,u,h,r=>by
  unfold Rp at h
  subst h
  obtain ⟨t,rfl⟩ := r
  exact ⟨_,.int i t⟩
 | .tuple ds,v,u,h,r=>by
  unfold Rp at h
  obtain ⟨a,xs,rfl,ha,h⟩ := h
  cases r
  obtain ⟨_,aH,rv,p⟩ := I.aR a _ ha
  obtain ⟨o,h1,h2,n,h3⟩ := p
  obtain ⟨as,q⟩ := bW I ds xs aH h rv
  exact ⟨_,.tuple h1 h2 h3 (by simpa using q)⟩
 | .list ds,v,u,h,r=>by
  unfold Rp at h
  obtain ⟨a,xs,rfl,ha,h⟩ := h
  cases r
  obtain ⟨_,aH,n,rv,p⟩ := I.aR a _ ha
  obtain ⟨as,q⟩ := bW I ds xs aH h rv
  exact ⟨_,.list p rfl rfl (by simpa using q)⟩
 | .str x,v,u,h,r=>by
  unfold Rp at h
  obtain ⟨rfl,_⟩ := h
  obtain ⟨t,rfl⟩ := r
  exact ⟨_,.str x t⟩
 | .dict _,_,_,h,_=>by unfold Rp at h; exact h.elim
theorem bW (I:Ae X pins σ H s):∀ (ds:List PyData) (vs:List V) (us:List Value),aM H ds vs -> An vs us -> ∃ as,ReadsAll s.heap us ds as
 | [],vs,us,h,r=>by
  unfold aM at h
  subst h
  cases r
  exact ⟨_,.nil⟩
 | d :: ds,vs,us,h,r=>by
  unfold aM at h
  obtain ⟨x,xs,rfl,h1,h2⟩ := h
  cases r with
  | cons r1 r2 =>
   obtain ⟨as,q1⟩ := Ce I d x _ h1 r1
   obtain ⟨bs,q2⟩ := bW I ds xs _ h2 r2
   exact ⟨_,.cons q1 q2⟩
end
end
section
variable {X:Cx} {k:Nat}
def lm (neg:Bool):R2:=fun x y H Q=>∃ d e:PyData,Rp H d x /\ Rp H e y /\ d.depth <= 60 /\ Q (.bl (if neg then !PyData.eqv d e else PyData.eqv d e)) H
theorem ag (hr:C0 k X.A):Hw X (compareOp .Eq) (lm false):=by
 intro pins s σ H x y v u Q I rx ry h
 obtain ⟨d,e,h1,h2,hd,q⟩ := h
 obtain ⟨as,q1⟩ := Ce I d x v h1 rx
 obtain ⟨bs,q2⟩ := Ce I e y u h2 ry
 have hu:=hr.units
 exact PySem.SeqAt.compareEq_reads q1 q2 (Cd d x h1) (Cd e y h2) (by omega) ⟨.bl (PyData.eqv d e),H,I,rfl,q⟩
end
theorem Se {H:Hp}:∀ ns:List Int,aM H (ns.map PyData.int) (ns.map V.int)
 | []=>by unfold aM; rfl
 | n :: ns=>by
  show aM H (PyData.int n :: ns.map PyData.int) (V.int n :: ns.map V.int)
  unfold aM
  exact ⟨_,_,rfl,by unfold Rp; rfl,Se ns⟩
theorem A9.new {H H':Hp} {p:Addr} {o:HO} (e:A9 H H') (h:H p = none):A9 H (upd H' p o):=fun b u q=>by
 rw [Aa (Aj q h)]
 exact e b u q
theorem A9.upd {H:Hp} {p:Addr} {o:HO} (h:H p = none):A9 H (upd H p o):=(A9.refl H).new h
theorem lN {l : PySem.W.OpenLaw} {n k : Nat} {q : Program} {loose : List Str} {XP : (Str -> Option Value) -> Heap -> Prop} {YP : World -> Heap -> Prop} {d : DefRec} {K : Params -> PySem.W.Frag} {CX : World -> Si} {sp : World -> Sp} {x : Str}
  (hn:l.most = some n) (z9:n <= sizeLine) (JE:d.params.defaults = []) (hr:C0 k callerA)
  (hY:∀ (w:World) (h:Heap),YP w h -> (K w.params).In h)
  (F:∀ (w:World) (mg:Str -> Option Value) (fa:Addr) (h:Heap),(K w.params).In h -> h.Ns mainGlobals mg -> mg d.name = some (.ref fa) ->
   ∃ fd:FuncData,(∀ (s:Shared) (u:Value),BindsTo s fd ⟨[u],[]⟩ [(x,u)]) /\
    ∀ base:Heap,(K w.params).In base -> base.Ns mainGlobals mg -> Ai l.prog w (K w.params) mg base (CX w) k fa fd [x] (sp w))
  (jS:∀ (w:World) (H:Hp) (a:Addr) (ns:List Int),ns.length <= n -> (∀ z ∈ ns,intBits z <= 2 ^ 20) -> fb H -> Bj (K w.params) H a (ns.map V.int) -> sp w [.ref a] H (fun v _=>v = .bl true) fun _ _ _=>False)
  (IU:∀ (w:World) (H:Hp) (s:Shared) (e:Value) (s':Shared),CX w [] H s (fun _ _ _=>False) e s' -> False) :
  PySem.W.WalkO q loose XP YP l.row.toRowW d [] (fun f vs=>PySem.call f vs):=by
 intro w s₀ s₁ mg mb G Y fa o pm cd doc dV kV ho hd iV hD hmg hg args vals as pN JF hrd qU hlo
 obtain rfl:dV = .none:=PySem.W.Dflts.none hD JE
 obtain rfl:kV = .none:=PySem.W.Dflts.noKw hD
 obtain ⟨a,vs,ns,rfl,rfl,JG,hints,hlen⟩ := Att.kG hn pN qU
 have big:∀ z ∈ ns,intBits z <= 2 ^ 20:=fun z hz=>by
  have l1:=(PySem.W.layW_cons JF).1
  have l2:=PySem.W.layableW_item l1 (.int z) (List.mem_map.mpr ⟨z,hz,rfl⟩)
  have l3:=(PySem.W.layableW_iff.mp l2).2.2
  simpa only [PySem.W.WData.weight,Builtin.Int.intBits] using l3
 have KX:=hY w _ Y
 obtain ⟨fd,hb,hF⟩ := F w mg fa _ KX G.T.g hmg
 refine PySem.W.enter_call (codeAny_mono (W3 KX G.T.g G.T.b G.T.builtins G.T.nolimit hg JG hints (Nat.le_trans hlen z9) hr hF hb (fun H hO hS=>jS w H a ns hlen big hO hS) fun H e s'=>IU w H s₁ e s') fun r s' hq=>?_)
 obtain ⟨rfl,h2,h3,h4⟩ := hq
 exact ⟨.inl ⟨.bool true,.bool true,[],rfl,fun _=>rfl,.bool true,Att.kH l _,fun _=>⟨List.Pairwise.nil,fun _ hm=>(nomatch hm)⟩⟩,h2,h3,h4⟩
section
variable {X:Cx} {tg:Expr}
def m7 (K:PySem.W.Frag):R2:=fun x y H Q=>∃ p xs i v,x = .ref p /\ y = .int i /\ (Bj K H p xs \/ Ci K H p xs) /\ Ui xs i = some v /\ Q v H
theorem Cn (K:PySem.W.Frag) (hK:X.K = K:=by rfl):jy X (m7 K):=by
 subst hK
 intro value slice pins s σ H x y v u Q I rx ry h hs
 obtain ⟨p,xs,i,z,e1,e2,h | h,ea,q⟩ := h
 ·exact Yk value slice pins s σ H x y v u Q I rx ry ⟨p,xs,i,z,e1,e2,h,ea,q⟩ hs
 ·exact fh value slice pins s σ H x y v u Q I rx ry ⟨p,xs,i,z,e1,e2,h,ea,q⟩ hs
def m8 (K:PySem.W.Frag):List V -> Hp -> VK -> Prop:=fun xs H Q=>∃ p ys,xs = [.ref p] /\ (Bj K H p ys \/ Ci K H p ys) /\ Q (.int ys.length) H
theorem Cy (K:PySem.W.Frag) (hK:X.K = K:=by rfl):El X (.builtin "len") (m8 K):=by
 subst hK
 exact Nr
theorem ee (K:PySem.W.Frag) (hK:X.K = K:=by rfl):Hw X (compareOp .In) (o9 K false):=by
 subst hK
 exact Tx
theorem X6 (K:PySem.W.Frag) (hK:X.K = K:=by rfl):li X (io K):=by
 subst hK
 exact Yu
theorem G7 (K : PySem.W.Frag) {es : List Expr} {kk : Nat} {t : Z4} {n : Nat} {pos : Pos} (hc : X.calm = true) (h : fo X es t) (hK : X.K = K := by rfl)
  (hn:(assignEach es X.env).length = n:=by rfl) (fO:(assignEach es X.env).findIdx? (·.1) = none:=by rfl):PG X (.Tuple es kk pos) (Yt K n t):=by
 subst hK
 exact az hc h hn fO
def Qo (K:PySem.W.Frag) (tl:TE):TI:=fun σ H R=>tl σ H fun x H1=>∃ a,x = .ref a /\ (((∃ xs,Bj K H1 a xs) /\ R (d8 K a) H1) \/ ((∃ xs,Ci K H1 a xs) /\ R (d0 K a) H1))
theorem Dq {l:Expr} {tl:TE} (hl:PE X l tl):PI X tg l (Qo X.K tl):=by
 intro pins s σ H R I h
 refine Bw (hl pins s σ H _ I h) fun v s1 bA=>?_
 obtain ⟨x,H1,I1,r1,q1⟩ := bA
 obtain ⟨a,e,q1⟩ := q1
 subst e
 cases r1
 rcases q1 with ⟨⟨xs,hq⟩,q⟩ | ⟨⟨xs,hq⟩,q⟩
 ·obtain ⟨aH,rv,p,hz⟩ := I1.list hq
  refine wpAny_pyIter_list p.isList ?_
  refine ⟨s1.heap.objs.size,[s1.heap.objs.size],_,_,H1,rfl,I1.kept (t':=s1.toks) fun b o e=>Heap.get?_push_of_some _ e,Uj a _,⟨_,Heap.get?_push_size _ rfl,rfl,rfl⟩,fun b hb=>?_,q⟩
  have e:b = s1.heap.objs.size:=by simpa using hb
  subst e
  exact I1.kC (Nat.le_refl _) (I1.aR.fresh (Nat.le_refl _))
 ·obtain ⟨aH,rv,p,hz⟩ := I1.tuple hq
  refine wpAny_pyIter_tuple (show s1.heap.IsTuple a aH.toArray from p) ?_
  refine ⟨s1.heap.objs.size,[s1.heap.objs.size],_,_,H1,rfl,I1.kept (t':=s1.toks) fun b o e=>Heap.get?_push_of_some _ e,Rk a _,⟨_,Heap.get?_push_size _ rfl,rfl,rfl⟩,fun b hb=>?_,q⟩
  have e:b = s1.heap.objs.size:=by simpa using hb
  subst e
  exact I1.kC (Nat.le_refl _) (I1.aR.fresh (Nat.le_refl _))
end
theorem Et {fr : List Nat} {te : TE} {σ : St} {D : Addr} {H1 : Hp} {Q : Hp -> Prop} {lo : Int} {cnt : Nat} (Pv : Nat -> List V -> Hp -> Prop) (h0 : Pv 0 [] (upd H1 D (.lst [])))
  (hs:∀ i ys H,i < cnt -> Pv i ys H -> ∀ Qe:VK,(∀ y H5,H5 D = some (.lst ys) -> ys.length < sizeLine -> Pv (i + 1) (ys ++ [y]) (upd H5 D (.lst (ys ++ [y]))) -> Qe y H5) -> te (some (.int (lo + i)) :: E4 fr σ) H Qe)
  (hd:∀ ys H,Pv cnt ys H -> Q H):Er 1 fr (Zh lo cnt) (Fi 0) Qb te σ D H1 Q:=by
 refine ⟨fun i m ys H=>m = cnt - i /\ i <= cnt /\ Pv i ys H,⟨cnt,by simp,Nat.zero_le _,h0⟩,?_⟩
 rintro i m ys H' ⟨rfl,hi,p⟩
 by_cases aX:i < cnt
 ·refine .inr ⟨aX,fun x H2 y=>?_⟩
  obtain ⟨e,y⟩ := y
  subst e y
  refine ⟨⟨[some (.int (lo + i))],rfl,rfl⟩,?_⟩
  simp only [Qb,↓reduceIte]
  exact hs i ys _ aX p _ fun y H5 hD hz pv=>⟨hD,hz,cnt - (i + 1),by omega,rfl,aX,pv⟩
 ·have e:i = cnt:=by omega
  subst e
  exact .inl ⟨Nat.le_refl _,hd ys H' p⟩
theorem N5 {K : PySem.W.Frag} {a : Addr} {xs : List V} {fr : List Nat} {te : TE} {σ : St} {D : Addr} {H1 : Hp} {Q : Hp -> Prop} (Pv : Nat -> List V -> Hp -> Prop) (h0 : Pv 0 [] (upd H1 D (.lst [])))
  (hl:∀ i ys H,i <= xs.length -> Pv i ys H -> Bj K H a xs)
  (hs:∀ i x ys H,xs[i]? = some x -> Pv i ys H -> ∀ Qe:VK,(∀ y H5,H5 D = some (.lst ys) -> ys.length < sizeLine -> Pv (i + 1) (ys ++ [y]) (upd H5 D (.lst (ys ++ [y]))) -> Qe y H5) -> te (some x :: E4 fr σ) H Qe)
  (hd:∀ ys H,Pv xs.length ys H -> Q H):Er 1 fr (d8 K a) (Fi 0) Qb te σ D H1 Q:=by
 refine ⟨fun i m ys H=>m = xs.length - i /\ i <= xs.length /\ Pv i ys H,⟨xs.length,by simp,Nat.zero_le _,h0⟩,?_⟩
 rintro i m ys H' ⟨rfl,hi,p⟩
 have q:=hl i ys H' hi p
 by_cases aX:i < xs.length
 ·refine .inr ⟨⟨xs,xs[i],q,by simp [aX]⟩,fun x H2 y=>?_⟩
  obtain ⟨e,y⟩ := y
  subst e
  refine ⟨⟨[some x],rfl,rfl⟩,?_⟩
  simp only [Qb,↓reduceIte]
  exact hs i x ys _ (y xs q) p _ fun y H5 hD hz pv=>⟨hD,hz,xs.length - (i + 1),by omega,rfl,aX,pv⟩
 ·have e:i = xs.length:=by omega
  subst e
  exact .inl ⟨⟨xs,q,Nat.le_refl _⟩,hd ys H' p⟩
theorem X8 {K : PySem.W.Frag} {a : Addr} {xs : List V} {fr : List Nat} {te : TE} {σ : St} {D : Addr} {H1 : Hp} {Q : Hp -> Prop} (Pv : Nat -> List V -> Hp -> Prop) (h0 : Pv 0 [] (upd H1 D (.lst [])))
  (hl:∀ i ys H,i <= xs.length -> Pv i ys H -> Ci K H a xs)
  (hs:∀ i x ys H,xs[i]? = some x -> Pv i ys H -> ∀ Qe:VK,(∀ y H5,H5 D = some (.lst ys) -> ys.length < sizeLine -> Pv (i + 1) (ys ++ [y]) (upd H5 D (.lst (ys ++ [y]))) -> Qe y H5) -> te (some x :: E4 fr σ) H Qe)
  (hd:∀ ys H,Pv xs.length ys H -> Q H):Er 1 fr (d0 K a) (Fi 0) Qb te σ D H1 Q:=by
 refine ⟨fun i m ys H=>m = xs.length - i /\ i <= xs.length /\ Pv i ys H,⟨xs.length,by simp,Nat.zero_le _,h0⟩,?_⟩
 rintro i m ys H' ⟨rfl,hi,p⟩
 have q:=hl i ys H' hi p
 by_cases aX:i < xs.length
 ·refine .inr ⟨⟨xs,xs[i],q,by simp [aX]⟩,fun x H2 y=>?_⟩
  obtain ⟨e,y⟩ := y
  subst e
  refine ⟨⟨[some x],rfl,rfl⟩,?_⟩
  simp only [Qb,↓reduceIte]
  exact hs i x ys _ (y xs q) p _ fun y H5 hD hz pv=>⟨hD,hz,xs.length - (i + 1),by omega,rfl,aX,pv⟩
 ·have e:i = xs.length:=by omega
  subst e
  exact .inl ⟨⟨xs,q,Nat.le_refl _⟩,hd ys H' p⟩
def Bm (ns:List Int) (k:Int):Int:=(ns[k.toNat]?).getD 0
theorem Z1 {ns:List Int} {k:Int} (h0:0 <= k) (h:k < ns.length):Ui (ns.map V.int) k = some (.int (Bm ns k)):=by
 obtain ⟨j,rfl⟩ : ∃ j:Nat,k = j:=⟨k.toNat,by omega⟩
 have hj:j < ns.length:=by omega
 refine Sv ?_
 unfold Bm
 rw [List.getElem?_map,Int.toNat_natCast,List.getElem?_eq_getElem hj]
 rfl
theorem Ul {ns:List Int} {k:Int} (h0:0 <= k) (h:¬ k < ns.length):Bm ns k = 0:=by
 unfold Bm
 rw [List.getElem?_eq_none (by omega)]
 rfl
theorem Ci.same {K:PySem.W.Frag} {H H':Hp} {a:Addr} {xs:List V} (e:A9 H H') (h:Ci K H a xs):Ci K H' a xs:=by
 rcases h with (h | ⟨o,h⟩) | h
 ·exact .inl (.inl (e _ _ h))
 ·exact .inl (.inr ⟨o,e _ _ h⟩)
 ·exact .inr h
theorem Ps {c:Bool} {A B:Prop} (hc:c = true) (h:A):if c = true then A else B:=by rw [if_pos hc]; exact h
theorem Mg {c:Bool} {A B:Prop} (hc:c = false) (h:B):if c = true then A else B:=by rw [if_neg (by rw [hc]; exact Bool.false_ne_true)]; exact h
theorem Bf {xs:List V} (h:xs.length <= 1000:=by simp):xs.length <= sizeLine:=Nat.le_of_lt (C6 h)
theorem Hi {n:Nat} (h:n <= 1000):n <= sizeLine:=Nat.le_of_lt (C6 h)
def dT (ws:List Int):PyData := .tuple (ws.map PyData.int)
def dL (ws:List Int):PyData := .list (ws.map PyData.int)
def dP (d e:PyData):PyData := .tuple [d,e]
def dO:Option Int -> PyData
 | none=>.none
 | some i=>.int i
def vO:Option Int -> V
 | none=>.aW
 | some i=>.int i
theorem Kk {H:Hp} (i:Int):Rp H (.int i) (.int i):=by unfold Rp; rfl
theorem Vm {H:Hp}:Rp H .none .aW:=by unfold Rp; rfl
theorem gh {H:Hp} {t:Addr} {ws:List Int} (h:H t = some (.tup (ws.map V.int))):Rp H (dT ws) (.ref t):=by
 unfold dT Rp
 exact ⟨t,_,rfl,h,Se ws⟩
theorem Zd {H:Hp} {p:Addr} {d e:PyData} {x y:V} (h:H p = some (.tup [x,y])) (hd:Rp H d x) (he:Rp H e y):Rp H (dP d e) (.ref p):=by
 unfold dP Rp
 refine ⟨p,_,rfl,h,?_⟩
 unfold aM
 refine ⟨x,_,rfl,hd,?_⟩
 unfold aM
 refine ⟨y,_,rfl,he,?_⟩
 unfold aM
 rfl
theorem Ge:∀ ws:List Int,PyData.depthAll (ws.map PyData.int) = 0
 | []=>rfl
 | w :: ws=>by
  show max (PyData.depth (.int w)) (PyData.depthAll (ws.map PyData.int)) = 0
  rw [Ge ws]
  rfl
theorem Vp (ws:List Int):(dT ws).depth = 1:=by
 show PyData.depthAll (ws.map PyData.int) + 1 = 1
 rw [Ge]
theorem Oj (d e:PyData):(dP d e).depth = max d.depth e.depth + 1:=by
 show max d.depth (max e.depth 0) + 1 = _
 rw [Nat.max_zero]
theorem Ds:∀ xs ys:List Int,PyData.eqvAll (xs.map PyData.int) (ys.map PyData.int) = decide (xs = ys)
 | [],[]=>rfl
 | x :: xs,y :: ys=>by
  show (PyData.eqv (.int x) (.int y) && PyData.eqvAll (xs.map PyData.int) (ys.map PyData.int)) = _
  rw [Ds xs ys]
  show ((x == y) && decide (xs = ys)) = _
  by_cases h1:x = y <;> by_cases h2:xs = ys <;> simp [h1,h2]
 | [],_ :: _=>rfl
 | _ :: _,[]=>rfl
theorem O6 (xs ys:List Int):PyData.eqv (dT xs) (dT ys) = decide (xs = ys):=Ds xs ys
theorem cq (a b c d:PyData):PyData.eqv (dP a b) (dP c d) = (PyData.eqv a c && PyData.eqv b d):=by
 show (PyData.eqv a c && (PyData.eqv b d && true)) = _
 rw [Bool.and_true]
section
variable {X:Cx} {pins:List (Addr × Obj)} {σ:St} {H:Hp} {s:Shared} {h':Heap}
theorem Ae.iD {ch : List Addr} {T : Addr} {o : HO} {t' : Nat} (I : Ae X pins σ H s) (fN : ∀ b ∈ ch, Lb X pins H b) (k : ∀ b ob, b ∉ ch -> s.heap.get? b = some ob -> h'.get? b = some ob)
  (hT:s.heap.objs.size <= T) (new:Bg X.prog X.w (upd H T o) h' T o):Ae X pins σ (upd H T o) { s with heap:=h',toks:=t' }:=by
 have hn:H T = none:=I.aR.fresh hT
 have off:∀ b u,H b = some u -> b ∉ ch:=fun b u e hb=>by
  have z:=(fN b hb).1
  rw [e] at z
  cases z
 refine I.call (g':=s.gens) (d':=s.drawn) (t':=t') (ch:=ch) ⟨fun b ob e _ _ hc=>k b ob hc e,fun b ob e _ _ hc=>⟨ob.slots,k b ob hc e⟩,fun b ob e n hc=>?_,fun b ob e hc=>⟨ob,k b ob hc e⟩,fun b xs e=>?_,fun b ob u e=>?_,fun b ps e=>⟨#[],?_⟩⟩ (fun b u e=>?_) I.bare
  (fun b hb=>⟨(fN b hb).2.2.2.1,(fN b hb).2.1,(fN b hb).2.2.2.2.1,(fN b hb).2.2.2.2.2⟩)
 ·rw [Aa (Nat.ne_of_lt (Nat.lt_of_lt_of_le (Heap.lt_size e) hT))]
  exact n
 ·rw [Aa (Aj e hn)]
  exact e
 ·rw [Aa (Aj e hn)]
  exact e
 ·rw [Aa (Aj e hn),e]
  simp
 ·by_cases hb:b = T
  ·subst hb
   rw [A5] at e
   cases e
   exact new
  ·rw [Aa hb] at e
   refine (I.aR b u e).cZ (fun c v hc q=>k c v ?_ q) (fun c q=>?_) fun c xs q=>?_
   ·rcases hc with rfl | hc
    ·exact off _ _ e
    ·exact off _ _ hc
   ·rw [Aa (Aj q hn)]
    exact q
   ·rw [Aa (Aj q hn)]
    exact q
theorem Ae.iE {ch:List Addr} {t':Nat} (I:Ae X pins σ H s) (fN:∀ b ∈ ch,Lb X pins H b) (k:∀ b ob,b ∉ ch -> s.heap.get? b = some ob -> h'.get? b = some ob):Ae X pins σ H { s with heap:=h',toks:=t' }:=by
 have off:∀ b u,H b = some u -> b ∉ ch:=fun b u e hb=>by
  have z:=(fN b hb).1
  rw [e] at z
  cases z
 refine I.call (g':=s.gens) (d':=s.drawn) (t':=t') (ch:=ch) ⟨fun b ob e _ _ hc=>k b ob hc e,fun b ob e _ _ hc=>⟨ob.slots,k b ob hc e⟩,fun b ob e n hc=>n,fun b ob e hc=>⟨ob,k b ob hc e⟩,fun b xs e=>e,fun b ob u e=>e,fun b ps e=>⟨#[],by rw [e]; simp⟩⟩ (fun b u e=>?_) I.bare
  (fun b hb=>⟨(fN b hb).2.2.2.1,(fN b hb).2.1,(fN b hb).2.2.2.2.1,(fN b hb).2.2.2.2.2⟩)
 refine (I.aR b u e).cZ (fun c v hc q=>k c v ?_ q) (fun c q=>q) fun c xs q=>q
 rcases hc with rfl | hc
 ·exact off _ _ e
 ·exact off _ _ hc
end
def qw (K:PySem.W.Frag) (l1 l2:Addr):It :=
 ⟨fun i H=>∃ xs ys x y,Bj K H l1 xs /\ Bj K H l2 ys /\ xs[i]? = some x /\ ys[i]? = some y,
  fun i H v H'=>∃ T x y,v = .ref T /\ H T = none /\ H' = upd H T (.tup [x,y]) /\ (∀ xs,Bj K H l1 xs -> xs[i]? = some x) /\ ∀ ys,Bj K H l2 ys -> ys[i]? = some y,
  fun i H=>∃ xs ys,Bj K H l1 xs /\ Bj K H l2 ys /\ (xs.length <= i \/ ys.length <= i)⟩
section
variable {X:Cx}
def rn (K:PySem.W.Frag) (ta:TA):TI:=fun σ H R=>ta σ H fun vs H1=>∃ a b,vs = [.ref a,.ref b] /\ (∃ xs,Bj K H1 a xs) /\ (∃ ys,Bj K H1 b ys) /\ R (qw K a b) H1
end
def rg (K:PySem.W.Frag) (l:Addr):It :=
 ⟨fun i H=>∃ xs x,Bj K H l xs /\ xs[i]? = some x,
  fun i H v H'=>∃ T x,v = .ref T /\ H T = none /\ H' = upd H T (.tup [.int i,x]) /\ ∀ xs,Bj K H l xs -> xs[i]? = some x,
  fun i H=>∃ xs,Bj K H l xs /\ xs.length <= i⟩
section
variable {X:Cx}
def oy (K:PySem.W.Frag) (ta:TA):TI:=fun σ H R=>ta σ H fun vs H1=>∃ a,vs = [.ref a] /\ (∃ xs,Bj K H1 a xs) /\ R (rg K a) H1
end
section
variable {X:Cx}
end
section
variable {X:Cx}
def kz (K:PySem.W.Frag):V -> List V -> Hp -> VK -> Prop:=fun x vs H Q=>∃ (l:Addr) (ns:List Int) (y:Int) (j:Nat),x = .ref l /\ vs = [.int y] /\ Bj K H l (ns.map V.int) /\ ns[j]? = some y /\ (∀ m,m < j -> ns[m]? ≠ some y) /\ Q (.int (j:Nat)) H
end
structure Pd (K:PySem.W.Frag) (x qual:Str) (st:Stmt) (f:Addr) (fd:FuncData):Prop where
 ex:∃ (oc:Value) (od:Option Addr) (dV kV doc pm:Value) (an:Option Addr) (aV ct:Value) (gO:Array (Option Value)),
  fd = PySem.W.fnOf x qual (Ap st) (Ak st) (A6 st) dV kV doc pm an aV ct /\ K.lookup f = some ⟨oc,od,.func fd,gO⟩ /\ PySem.W.codeIn K aV qual = true
section
variable {P:Program} {w:World} {K:PySem.W.Frag} {mg:Str -> Option Value} {base:Heap}
theorem Pd.ok {x qual : Str} {st : Stmt} {f : Addr} {fd : FuncData} {N ps : List Str} {k : Nat} {sp : Sp} (F : Pd K x qual st f fd) (S : Aq N ps (A6 st)) (len : ∀ vs H Q E, sp vs H Q E -> vs.length = ps.length)
  (bM:∀ (aV:Value) (A:Around) (outer:List Env) (s:Shared) (H:Hp) (vs:List V) (Q:VK) (E:XK),C0 k (A.deeper (envOfC qual (A6 st) s.heap.objs.size f aV)) -> sp vs H Q E ->
   ∃ t,Ld (Dz kr P w K mg base N qual (A6 st) f aV A outer s H E).jR (Ak st) t /\ t { nx:=fun _ H'=>Q .aW H',rt:=Q } (start N vs) H):Ai P w K mg base kr (k + 1) f fd ps sp:=by
 obtain ⟨oc,od,dV,kV,doc,pm,an,aV,ct,gO,rfl,lk,iV⟩ := F.ex
 refine Ss lk iV S len fun A outer s H vs Q E hr jS=>?_
 obtain ⟨t,h,q⟩ := bM aV A outer s H vs Q E hr jS
 exact ⟨t,h.jR,q⟩
end
section
variable {X:Cx} {a b c:Expr} {rest:List Expr} {ta tb:TE} {tA GD:TT} {t u:TS} {pos:Pos}
def ig (ta tb:TE):TE:=fun σ H Q=>ta σ H fun x H1=>∃ c d:Bool,x = .bl c /\ (c = true -> ∀ Q':VK,Q' (.bl d) H1 -> tb σ H1 Q') /\ Q (.bl (c && d)) H1
def sj (ta tb:TE):TE:=fun σ H Q=>ta σ H fun x H1=>∃ c d:Bool,x = .bl c /\ (c = false -> ∀ Q':VK,Q' (.bl d) H1 -> tb σ H1 Q') /\ Q (.bl (c || d)) H1
theorem Nu (ha:PE X a ta) (hb:PE X (.BoolOp .And (b :: rest) pos) tb):PE X (.BoolOp .And (a :: b :: rest) pos) (ig ta tb):=by
 intro pins s σ H Q I h
 refine BoolOp_and (Bw (ha pins s σ H _ I h) fun v s1 bA=>?_)
 obtain ⟨x,H1,I1,r1,q1⟩ := bA
 obtain ⟨c,d,rfl,q0,q1⟩ := q1
 cases r1
 refine wpAny_truthy_bool ?_
 cases c with
 | true=>exact hb pins s1 σ H1 Q I1 (q0 rfl Q q1)
 | false=>exact ⟨.bl false,H1,I1,rfl,q1⟩
def jh (t u:TT):TT:=fun σ H Q=>t σ H fun c H1=>∃ d:Bool,(c = true -> ∀ Q':Bool -> Hp -> Prop,Q' d H1 -> u σ H1 Q') /\ Q (c && d) H1
def sv (t u:TT):TT:=fun σ H Q=>t σ H fun c H1=>∃ d:Bool,(c = false -> ∀ Q':Bool -> Hp -> Prop,Q' d H1 -> u σ H1 Q') /\ Q (c || d) H1
theorem Za (ha:PT X a tA) (hb:PW X (.BoolOp .And (b :: rest) pos) GD):PW X (.BoolOp .And (a :: b :: rest) pos) (jh tA GD):=by
 intro wh pins s σ H Q I h
 refine isTrue_and (Bw (ha pins s σ H _ I h) fun c s1 bA=>?_)
 obtain ⟨H1,I1,d,q0,q1⟩ := bA
 cases c with
 | true=>exact hb wh pins s1 σ H1 Q I1 (q0 rfl Q q1)
 | false=>exact ⟨H1,I1,q1⟩
theorem SP.mono {pins:List (Addr × Obj)} {D D':Go} {f:Flow} {s':Shared} (h:SP X pins D f s') (hn:∀ σ H,D.nx σ H -> D'.nx σ H) (hr:∀ v H,D.rt v H -> D'.rt v H) (hb:∀ σ H,D.bk σ H -> D'.bk σ H) (hc:∀ σ H,D.ct σ H -> D'.ct σ H):SP X pins D' f s':=by
 cases f with
 | next=>obtain ⟨σ',H',I,q⟩ := h; exact ⟨σ',H',I,hn _ _ q⟩
 | brk=>obtain ⟨σ',H',I,q⟩ := h; exact ⟨σ',H',I,hb _ _ q⟩
 | cont=>obtain ⟨σ',H',I,q⟩ := h; exact ⟨σ',H',I,hc _ _ q⟩
 | ret v=>obtain ⟨x,σ',H',I,r,q⟩ := h; exact ⟨x,σ',H',I,r,hr _ _ q⟩
def ky (c:TT) (t u:TS):TS:=fun D σ H=>c σ H fun b H1=>∃ N:St -> Hp -> Prop,(b = true -> t { D with nx:=N } σ H1) /\ (b = false -> u { D with nx:=N } σ H1) /\ ∀ σ' H',N σ' H' -> D.nx σ' H'
theorem Df {c:Expr} {a b:List Stmt} {tc:TT} (hc:PT X c tc) (ha:Ld X a t) (hb:Ld X b u):PS X (.If c a b pos) (ky tc t u):=by
 intro pins s σ H D I h
 refine wpAny_If (Bw (hc pins s σ H _ I h) fun d s1 bA=>?_)
 obtain ⟨H1,I1,N,q1,q2,q3⟩ := bA
 cases d with
 | true=>exact Bw (ha pins s1 σ H1 _ I1 (q1 rfl)) fun f s2 q=>q.mono q3 (fun _ _ z=>z) (fun _ _ z=>z) fun _ _ z=>z
 | false=>exact Bw (hb pins s1 σ H1 _ I1 (q2 rfl)) fun f s2 q=>q.mono q3 (fun _ _ z=>z) (fun _ _ z=>z) fun _ _ z=>z
end
section
variable {P:Program} {w:World} {A:Around} {E:Value -> Shared -> Prop} {s:Shared}
theorem Qm {I T : Addr} {k : Nat} {vs : Array Value} {v : Value} {Q : Value -> Shared -> Prop} (hI : s.heap.IsTupleIter I T k) (hT : s.heap.IsTuple T vs) (hv : vs[k]? = some v)
  (q:∀ h',h'.IsTupleIter I T (k + 1) -> Heap.SameBut I s.heap h' -> Q v { s with heap:=h' }):wpAny (model P w) A (Builtin.SmallTypes.nextOf (.ref I)) Q E s:=by
 obtain ⟨oI,eI,cI,dI⟩ := id hI
 obtain ⟨oT,eT,_,nT,JH⟩ := hT
 unfold Builtin.SmallTypes.nextOf
 refine wpAny_bind (wpAny_callSpecial?_slot (name:=Str.ofString "__next__") hI.typeIs F.slot_tuple_iterator_next (wpAny_call_entry F.slot_tuple_iterator_next hI.typeIs F.entry_tuple_iterator_next ?_ (F.args_tuple_iterator_next_1 _)))
 show wpAny _ _ (field (.ref I) 0 >>= _) _ _ s
 refine wpAny_bind (wpAny_field eI dI (x := .ref T) rfl ?_)
 show wpAny _ _ (if (Value.ref T == Value.none) = true then _ else _) _ _ s
 rw [if_neg (show ¬ ((Value.ref T == Value.none) = true) from Bool.false_ne_true)]
 show wpAny _ _ (field (.ref I) 1 >>= _) _ _ s
 refine wpAny_bind (wpAny_field eI dI (x := .int k 0) rfl ?_)
 show wpAny _ _ (seqItems? (.ref T) >>= _) _ _ s
 refine wpAny_bind (wpAny_seqItems eT JH ?_)
 simp only [Int.toNat_natCast,hv]
 refine wpAny_bind (wpAny_setField eI dI (by simp) (wpAny_pure ⟨v,rfl,wpAny_pure (q _ ⟨_,Heap.get?_update_self _ eI (Obj.isFreed_of_fields (Obj.data_mapFields dI _)),(Obj.cls_mapFields ..).trans cI,?_⟩ (Heap.SameBut.update ..))⟩))
 rw [Obj.data_mapFields dI]
 simp [rawInt]
theorem Tt {I T : Addr} {k : Nat} {vs : Array Value} {Q : Value -> Shared -> Prop} (no : A.handled = none) (hI : s.heap.IsTupleIter I T k) (hT : s.heap.IsTuple T vs) (hv : vs[k]? = none)
  (q:∀ h' e,Heap.ExtBut I s.heap h' -> (∃ o,h'.get? e = some o /\ o.cls = .type "StopIteration") -> E (.ref e) { s with heap:=h' }):wpAny (model P w) A (Builtin.SmallTypes.nextOf (.ref I)) Q E s:=by
 obtain ⟨oI,eI,cI,dI⟩ := id hI
 obtain ⟨oT,eT,_,nT,JH⟩ := hT
 unfold Builtin.SmallTypes.nextOf
 refine wpAny_bind (wpAny_callSpecial?_slot (name:=Str.ofString "__next__") hI.typeIs F.slot_tuple_iterator_next (wpAny_call_entry F.slot_tuple_iterator_next hI.typeIs F.entry_tuple_iterator_next ?_ (F.args_tuple_iterator_next_1 _)))
 show wpAny _ _ (field (.ref I) 0 >>= _) _ _ s
 refine wpAny_bind (wpAny_field eI dI (x := .ref T) rfl ?_)
 show wpAny _ _ (if (Value.ref T == Value.none) = true then _ else _) _ _ s
 rw [if_neg (show ¬ ((Value.ref T == Value.none) = true) from Bool.false_ne_true)]
 show wpAny _ _ (field (.ref I) 1 >>= _) _ _ s
 refine wpAny_bind (wpAny_field eI dI (x := .int k 0) rfl ?_)
 show wpAny _ _ (seqItems? (.ref T) >>= _) _ _ s
 refine wpAny_bind (wpAny_seqItems eT JH ?_)
 simp only [Int.toNat_natCast,hv]
 refine wpAny_bind (wpAny_rule (wpAny_bind (wpAny_setField eI dI (by simp) ?_)))
 show wpAny _ _ (newExc (.type "StopIteration") [] >>= fun _=>_) _ _ _
 refine wpAny_bind ?_
 simp only [newExc,newTuple]
 refine wpAny_bind (wpAny_newObj_type (wpAny_bind (m:=firstArgMember _ _) (wpAny_of_eq (a:=Value.none) (by first | rfl | (simp only [firstArgMember]; rfl)) (wpAny_newObj_type ?_ (by size_fits)))) (by size_fits))
 simp only [raiseNew]
 refine wpAny_bind (wpAny_handled ?_)
 first | rw [show A.in1.handled = none from no] | rw [no]
 refine wpAny_bind (wpAny_pure (wpAny_throw (q _ _ (((Heap.SameBut.update ..).extBut.push _).push _) ⟨_,Heap.get?_push_size _ rfl,rfl⟩)))
end
theorem cx {P:Program} {w:World} {A:Around} (no:A.handled = none) (I T:Addr) (ne:T ≠ I) (vs:Array Value):Draws P w A I [I,T] vs.size (fun i v=>vs[i]? = some v) (fun i h=>h.IsTupleIter I T i /\ h.IsTuple T vs) where
 live:=fun _ _ st=>let ⟨o,e,_⟩ := st.1; ⟨o,e⟩
 frame:=fun _ _ _ st k=>⟨st.1.at fun o e=>k I (by simp) o e,let ⟨o,e,r⟩ := st.2; ⟨o,k T (by simp) o e,r⟩⟩
 item:=fun i s Q E hi st q=>Qm st.1 st.2 (v:=vs[i]) (by simp [hi]) fun h' aP sb=>q _ h' s.toks (by simp [hi]) ⟨aP,st.2.extBut sb.extBut ne⟩ sb
 done:=fun s Q E st q=>Tt no st.1 st.2 (by simp) q
def Gw:Bool -> Heap -> Addr -> Addr -> Nat -> Prop
 | true,h,I,T,i=>h.IsTupleIter I T i
 | false,h,I,T,i=>h.IsListIter I T i
def On:Bool -> Heap -> Addr -> Array Value -> Prop
 | true,h,T,vs=>h.IsTuple T vs
 | false,h,T,vs=>h.IsList T vs
def X0:Bool -> String
 | true=>"tuple_iterator"
 | false=>"list_iterator"
def Sq:Bool -> PySem.W.Frag -> Hp -> Addr -> List V -> Prop
 | true,K,H,a,xs=>Ci K H a xs
 | false,K,H,a,xs=>Bj K H a xs
theorem Op {P:Program} {w:World} {A:Around} (no:A.handled = none) (b:Bool) (I T:Addr) (ne:T ≠ I) (vs:Array Value):Draws P w A I [I,T] vs.size (fun i v=>vs[i]? = some v) (fun i h=>Gw b h I T i /\ On b h T vs):=by
 cases b
 ·exact Draws.list no I T ne vs
 ·exact cx no I T ne vs
theorem Gw.data {b:Bool} {h:Heap} {I T:Addr} {i:Nat} (x:Gw b h I T i):∃ o,h.get? I = some o /\ o.cls = .type (X0 b) /\ o.data = .fields #[.ref T,.int i 0]:=by cases b <;> exact x
theorem Gw.of {b:Bool} {h:Heap} {I T:Addr} {i:Nat} (x:∃ o,h.get? I = some o /\ o.cls = .type (X0 b) /\ o.data = .fields #[.ref T,.int i 0]):Gw b h I T i:=by cases b <;> exact x
theorem Gw.at' {b:Bool} {h h':Heap} {I T:Addr} {i:Nat} (x:Gw b h I T i) (k:∀ o,h.get? I = some o -> h'.get? I = some o):Gw b h' I T i:=by
 obtain ⟨o,e,r⟩ := x.data
 exact .of ⟨o,k _ e,r⟩
theorem On.at' {b:Bool} {h h':Heap} {T:Addr} {vs:Array Value} (x:On b h T vs) (k:∀ o,h.get? T = some o -> h'.get? T = some o):On b h' T vs:=by
 cases b <;> exact let ⟨o,e,r⟩ := x; ⟨o,k _ e,r⟩
theorem On.lt {b:Bool} {h:Heap} {T:Addr} {vs:Array Value} (x:On b h T vs):T < h.objs.size:=by
 cases b <;> exact let ⟨_,e,_⟩ := x; Heap.lt_size e
theorem Gw.lt {b:Bool} {h:Heap} {I T:Addr} {i:Nat} (x:Gw b h I T i):I < h.objs.size:=by
 obtain ⟨_,e,_⟩ := x.data
 exact Heap.lt_size e
theorem Gw.ne {b c:Bool} {h:Heap} {I T:Addr} {i:Nat} {vs:Array Value} (x:Gw b h I T i) (y:On c h T vs):T ≠ I:=by
 rintro rfl
 obtain ⟨o,e,k,_⟩ := x.data
 cases c <;> (obtain ⟨o',e',k',_⟩ := y; rw [e] at e'; cases e'; rw [k] at k'; cases b <;> simp [X0] at k')
section
variable {X:Cx} {pins:List (Addr × Obj)} {σ:St} {H:Hp} {s:Shared}
theorem Ae.sq {b:Bool} {a:Addr} {xs:List V} (I:Ae X pins σ H s) (q:Sq b X.K H a xs):∃ us,An xs us /\ On b s.heap a us.toArray:=by
 cases b
 ·obtain ⟨us,r,p,_⟩ := I.list q
  exact ⟨us,r,p.isList⟩
 ·obtain ⟨us,r,p,_⟩ := I.tuple q
  exact ⟨us,r,p⟩
theorem Ae.uK {b:Bool} {a:Addr} {xs ys:List V} (I:Ae X pins σ H s) (q:Sq b X.K H a xs) (r:Sq b X.K H a ys):xs = ys:=by
 cases b
 ·exact I.hV q r
 ·exact I.gC q r
end
open AutoSeq1 (wpAny_loadPart')
structure u8 (z TI TO i1 i2 l1 l2:Nat):Prop where
 a:TI ≠ z
 b:TO ≠ z
 c:i1 ≠ z
 d:i2 ≠ z
 e:TI ≠ TO
 f:TI ≠ i1
 g:TI ≠ i2
 h:TO ≠ i1
 i:TO ≠ i2
 j:i1 ≠ i2
 k1:l1 ≠ z /\ l1 ≠ TO /\ l1 ≠ i1 /\ l1 ≠ i2
 k2:l2 ≠ z /\ l2 ≠ TO /\ l2 ≠ i1 /\ l2 ≠ i2
section
variable {P:Program} {w:World} {A:Around} {E:Value -> Shared -> Prop} {s:Shared}
abbrev fk (b1:Bool) (h:Heap) (l1:Addr):Heap:=h.push { cls := .type (X0 b1),data := .fields #[.ref l1,.int 0 0] }
abbrev ph (b1 b2:Bool) (h:Heap) (l1 l2:Addr):Heap:=(fk b1 h l1).push { cls := .type (X0 b2),data := .fields #[.ref l2,.int 0 0] }
abbrev qb (b1 b2:Bool) (h:Heap) (l1 l2:Addr):Heap:=(ph b1 b2 h l1 l2).push { cls := .type "tuple",data := .seq #[.ref h.objs.size,.ref (fk b1 h l1).objs.size] }
abbrev qq (b1 b2:Bool) (h:Heap) (l1 l2:Addr):Heap:=(qb b1 b2 h l1 l2).push { cls := .type "tuple",data := .seq #[.none,.none] }
abbrev ul (b1 b2:Bool) (h:Heap) (l1 l2:Addr):Heap:=(qq b1 b2 h l1 l2).push { cls := .type "zip",data := .fields #[.none,.bool false,.bool false,.ref (ph b1 b2 h l1 l2).objs.size,.ref (qb b1 b2 h l1 l2).objs.size] }
end
open AutoSeq1 (wpAny_loadPart')
section
variable {P:Program} {w:World} {A:Around} {E:Value -> Shared -> Prop} {s:Shared}
end
def nq (K:PySem.W.Frag) (b1 b2:Bool) (l1 l2:Addr):It :=
 ⟨fun i H=>∃ xs ys x y,Sq b1 K H l1 xs /\ Sq b2 K H l2 ys /\ xs[i]? = some x /\ ys[i]? = some y,
  fun i H v H'=>∃ T x y,v = .ref T /\ H T = none /\ H' = upd H T (.tup [x,y]) /\ (∀ xs,Sq b1 K H l1 xs -> xs[i]? = some x) /\ ∀ ys,Sq b2 K H l2 ys -> ys[i]? = some y,
  fun i H=>∃ xs ys,Sq b1 K H l1 xs /\ Sq b2 K H l2 ys /\ (xs.length = i \/ (i < xs.length /\ ys.length = i))⟩
section
variable {X:Cx}
def oq (K:PySem.W.Frag) (ta:TA):TI:=fun σ H R=>ta σ H fun vs H1=>∃ (b1 b2:Bool) (a b:Addr),vs = [.ref a,.ref b] /\ (∃ xs,Sq b1 K H1 a xs) /\ (∃ ys,Sq b2 K H1 b ys) /\ R (nq K b1 b2 a b) H1
end
def im (K:PySem.W.Frag) (b:Bool) (l:Addr):It :=
 ⟨fun i H=>∃ xs x,Sq b K H l xs /\ xs[i]? = some x,
  fun i H v H'=>∃ T x,v = .ref T /\ H T = none /\ H' = upd H T (.tup [.int i,x]) /\ ∀ xs,Sq b K H l xs -> xs[i]? = some x,
  fun i H=>∃ xs,Sq b K H l xs /\ xs.length = i⟩
theorem Rn {P : Program} {w : World} {K : PySem.W.Frag} {elts : List Expr} {kk : Nat} {pos : Pos} {b : Bool} {e it l : Addr} (dX : e ≠ it) (hel : e ≠ l) :
  Ry P w K (.Tuple elts kk pos) (im K b l) [e,it] e (fun i h=>(∃ old,IsEnum h e it i old) /\ Gw b h it l i) where
 mem:=List.mem_cons_self
 obj:=fun i h ⟨⟨old,he⟩,h1⟩ c hc=>by
  obtain ⟨o1,e1,c1,d1⟩ := h1.data
  simp only [List.mem_cons,List.not_mem_nil,or_false] at hc
  rcases hc with rfl | rfl
  ·exact ⟨_,he,fun v q=>by cases q⟩
  ·exact ⟨_,e1,fun v q=>by rw [d1] at q; cases q⟩
 keep:=fun i h h' ⟨⟨old,he⟩,h1⟩ hk=>⟨⟨old,hk e (by simp) _ he⟩,h1.at' fun o q=>hk it (by simp) o q⟩
 item:=by
  intro X hP hw hK hc i pins s σ H E I GL ⟨⟨old,he⟩,h1⟩ ⟨xs,x,q1,ex⟩
  subst hP hw hK
  obtain ⟨kI,r1,p1⟩ := I.sq q1
  obtain ⟨u1,eu1,JI⟩ := r1.get ex
  have JJ:i < kI.toArray.size:=by
   have:=(List.getElem?_eq_some_iff.mp eu1).1
   simpa using this
  refine wpAny_pyNext_enum_itemD (Op (A:=X.A.in1) (I.ok.hd hc) b it l (h1.ne p1) kI.toArray) he ⟨h1,p1⟩ JJ dX (by simp [dX,hel]) fun u h' tk eu a1 a2 a3 a4 hk=>⟨_,rfl,?_⟩
  have e2:u = u1:=Option.some.inj (eu.symm.trans (by simpa using eu1))
  subst e2
  refine wpAny_letOwnedTupleGo_enum a1 fun JK JL uL=>?_
  have zJ:e < s.heap.objs.size:=Heap.lt_size he
  have zK:JK.get? s.heap.objs.size = some { cls := .type "tuple",data := .seq #[.int i tk,u] }:=uL.extBut _ _ (Nat.ne_of_gt zJ) a3
  refine ⟨.ref s.heap.objs.size,upd H s.heap.objs.size (.tup [.int i,x]),I.iD (t':=tk + 1) (ch:=[e,it]) GL (fun c o hc ec=>?_) (Nat.le_refl _) ?_,rfl,⟨_,x,rfl,I.fresh,rfl,fun xs' q=>?_⟩,⟨⟨u,?_⟩,?_⟩,fun c hc=>?_⟩
  ·simp only [List.mem_cons,List.not_mem_nil,or_false,not_or] at hc
   exact uL.extBut _ _ hc.1 (hk c o hc.1 hc.2 ec)
  ·exact ⟨⟨Nat.le_trans (by decide:2 <= 1000) (Hi (Nat.le_refl _)),_,zK,rfl⟩,[.int i tk,u],.cons ⟨_,rfl⟩ (.cons JI .nil),⟨_,zK,rfl,0,rfl⟩⟩
  ·rw [I.uK q q1]
   exact ex
  ·have z:=JL
   rw [show ((i:Int) + 1) = ((i + 1:Nat):Int) by omega] at z
   exact z
  ·exact a2.1.at' fun o eo=>uL.extBut _ _ (Ne.symm dX) eo
  ·rw [Aa]
   ·exact (GL c hc).1
   ·simp only [List.mem_cons,List.not_mem_nil,or_false] at hc
    rcases hc with rfl | rfl
    ·exact Nat.ne_of_lt zJ
    ·exact Nat.ne_of_lt h1.lt
 done:=by
  intro X hP hw hK hc i pins s σ H E I GL ⟨⟨old,he⟩,h1⟩ ⟨xs,q1,hl⟩
  subst hP hw hK
  obtain ⟨kI,r1,p1⟩ := I.sq q1
  have n1:=r1.length
  have n2:i = kI.toArray.size:=by simp only [List.size_toArray]; omega
  subst n2
  refine wpAny_pyNext_enum_endD (Op (A:=X.A.in1) (I.ok.hd hc) b it l (h1.ne p1) kI.toArray) he ⟨h1,p1⟩ fun h' hk=>⟨rfl,I.iE (t':=s.toks) (ch:=[e,it]) GL fun c o hc ec=>?_⟩
  simp only [List.mem_cons,List.not_mem_nil,or_false,not_or] at hc
  exact hk c o hc.2 ec
 self:=fun A i s Q E ⟨⟨old,he⟩,_⟩ hQ=>wpAny_pyIter_enum he hQ
theorem Ph (l : Addr) (items : Array Value) (n : Nat) (JM : Option Addr) (sl : Array (Option Value)) :
  Meets (Builtin.«enumerate.__new__» ⟨[.type "enumerate",.ref l],[]⟩) (fun _ R s=>s.heap.get? l = some { cls := .type "tuple",dict:=JM,data := .seq items n,slots:=sl } /\
   R (.ok (.ret (.ref (fk true s.heap l).objs.size))) { s with heap:=(fk true s.heap l).push { cls := .type "enumerate",data := .fields #[.none,.bool false,.ref s.heap.objs.size,rawInt 0,.none,.none] } }) :=
 .of_wp fun prog w A R s h=>by
  obtain ⟨hp,g,d,tk,os⟩ := s
  obtain ⟨hl,h⟩ := h
  have uM:=sub_enumerate
  have hT:Heap.IsTuple (Shared.heap ⟨hp,g,d,tk,os⟩) l items:=⟨_,hl,rfl,n,rfl⟩
  wp_walk using wpAny_loadPart' hl
  refine wpAny_stack_any fun st=>wpAny_pure ?_
  split
  ·rename_i c _ _ _ _ _
   cases (c == Value.type "enumerate")
   ·wp_walk using wpAny_loadPart' hl,wpAny_pyIter_tuple hT
    exact ⟨_,rfl,h⟩
   ·wp_walk using wpAny_loadPart' hl,wpAny_pyIter_tuple hT
    exact ⟨_,rfl,h⟩
  ·wp_walk using wpAny_loadPart' hl,wpAny_pyIter_tuple hT
   exact ⟨_,rfl,h⟩
theorem Qs {P : Program} {w : World} {A : Around} {E : Value -> Shared -> Prop} {s : Shared} {l : Addr} {items : Array Value} {Q : Value -> Shared -> Prop} (hT : s.heap.IsTuple l items)
  (h:∀ h',IsEnum h' (s.heap.objs.size + 1) s.heap.objs.size 0 .none -> h'.IsTupleIter s.heap.objs.size l 0 -> (∀ b o,s.heap.get? b = some o -> h'.get? b = some o) -> Q (.ref (s.heap.objs.size + 1)) { s with heap:=h' }) :
  wpAny (model P w) A (call (.type "enumerate") [.ref l]) Q E s:=by
 obtain ⟨⟨c,JM,dt,sl⟩,hl,hc,n,hd⟩ := hT
 have gB:c = .type "tuple" := hc
 have oP:dt = .seq items n:=hd
 subst gB oP
 refine callType_new F.called_enumerate (by decide) (F.typeCall_enumerate_1 _) (F.newCall_enumerate_1 _) (fun obj=>F.args_object_init_2 obj _) F.entry_enumerate_new (Ph l items n JM sl) ⟨hl,?_⟩
 have hz:(fk true s.heap l).objs.size = s.heap.objs.size + 1:=Heap.size_push ..
 show _ /\ _
 rw [hz]
 have he:=Heap.get?_push_size (fk true s.heap l) (o:={ cls := .type "enumerate",data := .fields #[.none,.bool false,.ref s.heap.objs.size,rawInt 0,.none,.none] }) rfl
 rw [hz] at he
 exact ⟨⟨_,he,rfl⟩,h _ he ⟨_,Heap.get?_push_of_some _ (Heap.get?_push_size _ rfl),rfl,rfl⟩ fun b o x=>Heap.get?_push_of_some _ (Heap.get?_push_of_some _ x)⟩
section
variable {X:Cx}
def aa (K:PySem.W.Frag) (ta:TA):TI:=fun σ H R=>ta σ H fun vs H1=>∃ (b:Bool) (a:Addr),vs = [.ref a] /\ (∃ xs,Sq b K H1 a xs) /\ R (im K b a) H1
theorem Vj {elts : List Expr} {kk : Nat} {kD : Pos} {a : Expr} {ta : TA} {p pos : Pos} (hg : Gl X "enumerate") (hm : X.mg "enumerate" = none) (ha : PA X [a] ta) (hs : starEach [a] X.env = [(false, eval a X.env)] := by rfl) :
  PI X (.Tuple elts kk kD) (.Call (.Name "enumerate" p) [a] [] pos) (aa X.K ta):=by
 intro pins s σ H R I h
 refine Call_ (Io I hg hm boot_enumerate (PyProof.Rows.callWith_type1 (Bw (ha pos pins s σ H _ I h) fun us s1 ⟨vs,H1,I1,r1,q1⟩=>?_) hs rfl))
 obtain ⟨b,l1,e,⟨xs,hx⟩,q⟩ := q1
 subst e
 obtain ⟨u1,rfl,JI⟩ := Ke r1
 cases JI
 obtain ⟨kI,rr1,p1⟩ := I1.sq hx
 have JJ:=p1.lt
 have fin : ∀ h', IsEnum h' (s1.heap.objs.size + 1) s1.heap.objs.size 0 .none -> Gw b h' s1.heap.objs.size l1 0 -> (∀ b o, s1.heap.get? b = some o -> h'.get? b = some o) ->
   wpAny (model X.prog X.w) X.A (pyIter (.ref (s1.heap.objs.size + 1))) (l0 X pins σ (.Tuple elts kk kD) R) X.xe { s1 with heap:=h' }:=fun h' a1 a2 hk=>by
  refine wpAny_pyIter_enum a1 ?_
  have I2:Ae X pins σ H1 { s1 with heap:=h' }:=I1.kept (t':=s1.toks) hk
  refine ⟨s1.heap.objs.size + 1,[s1.heap.objs.size + 1,s1.heap.objs.size],_,_,H1,rfl,I2,Rn (Nat.ne_of_gt (Nat.lt_succ_self _)) (Nat.ne_of_gt (Nat.lt_succ_of_lt JJ)),⟨⟨_,a1⟩,a2⟩,fun c hc=>?_,q⟩
  have hle:s1.heap.objs.size <= c:=by
   simp only [List.mem_cons,List.not_mem_nil,or_false] at hc
   rcases hc with rfl | rfl <;> omega
  exact I1.kC hle (I1.aR.fresh hle)
 cases b with
 | false=>exact call_enumerate_list p1 fun h' a1 a2 a3 hk=>fin h' a1 a2 hk
 | true=>exact Qs p1 fun h' a1 a2 hk=>fin h' a1 a2 hk
end
abbrev nh (K:PySem.W.Frag):TG:=Yt K 2 (Lq (Fi 0) (Lq (Fi 1) ci))
section
variable {X:Cx} {a b:Expr} {rest:List Expr} {ta tb:TE} {tA GD:TT} {pos:Pos}
def ge (ta tb:TE):TE:=fun σ H Q=>ta σ H fun x H1=>∃ (c:Bool) (N:Bool -> Hp -> Prop),x = .bl c /\ (c = false -> N false H1) /\ (c = true -> tb σ H1 fun y H2=>∃ d:Bool,y = .bl d /\ N d H2) /\ ∀ d H2,N d H2 -> Q (.bl d) H2
def qy (ta tb:TE):TE:=fun σ H Q=>ta σ H fun x H1=>∃ (c:Bool) (N:Bool -> Hp -> Prop),x = .bl c /\ (c = true -> N true H1) /\ (c = false -> tb σ H1 fun y H2=>∃ d:Bool,y = .bl d /\ N d H2) /\ ∀ d H2,N d H2 -> Q (.bl d) H2
theorem Z3 (ha:PE X a ta) (hb:PE X (.BoolOp .And (b :: rest) pos) tb):PE X (.BoolOp .And (a :: b :: rest) pos) (ge ta tb):=by
 intro pins s σ H Q I h
 refine BoolOp_and (Bw (ha pins s σ H _ I h) fun v s1 bA=>?_)
 obtain ⟨x,H1,I1,r1,q1⟩ := bA
 obtain ⟨c,N,rfl,q0,q1,q2⟩ := q1
 cases r1
 refine wpAny_truthy_bool ?_
 cases c with
 | true=>exact Bw (hb pins s1 σ H1 _ I1 (q1 rfl)) fun v s2 ⟨y,H2,I2,r2,d,e,n⟩=>⟨y,H2,I2,r2,by rw [e]; exact q2 d H2 n⟩
 | false=>exact ⟨.bl false,H1,I1,rfl,q2 _ _ (q0 rfl)⟩
def qc (t u:TT):TT:=fun σ H Q=>t σ H fun c H1=>∃ N:Bool -> Hp -> Prop,(c = false -> N false H1) /\ (c = true -> u σ H1 N) /\ ∀ d H2,N d H2 -> Q d H2
def sr (t u:TT):TT:=fun σ H Q=>t σ H fun c H1=>∃ N:Bool -> Hp -> Prop,(c = true -> N true H1) /\ (c = false -> u σ H1 N) /\ ∀ d H2,N d H2 -> Q d H2
end
section
variable {P:Program} {w:World} {A:Around} {E:Value -> Shared -> Prop} {s:Shared}
end
section
variable {X:Cx}
def jf (K:PySem.W.Frag) (ta:TA):TE:=fun σ H Q=>ta σ H fun vs H1=>∃ l xs,vs = [.ref l] /\ Bj K H1 l xs /\ ∀ d,H1 d = none -> Q (.ref d) (upd H1 d (.lst xs.reverse))
end
section
variable {X:Cx}
def nz (i j:Int):Prop:=0 < j /\ intBits j <= 8999
end
section
variable {X:Cx} {tg:Expr}
def qf (lo c:Int) (n:Nat):It:=⟨fun i _=>i < n,fun i H x H'=>H' = H /\ x = .int (lo + i * c),fun i _=>n <= i⟩
def i9 (a b c:Int):Nat:=if a < b then ((b - a - 1) / c + 1).toNat else 0
def oh (ta:TA):TI:=fun σ H R=>ta σ H fun vs H1=>∃ i j c:Int,vs = [.int i,.int j,.int c] /\ (-(2 ^ 60) <= i /\ i < 2 ^ 60 /\ -(2 ^ 60) <= j /\ j < 2 ^ 60) /\ (0 < c /\ c < 2 ^ 30) /\ R (qf i c (i9 i j c)) H1
end
theorem Bg.here {P:Program} {w:World} {H:Hp} {h:Heap} {a:Addr} {o:HO} (x:Bg P w H h a o):∃ ob,h.get? a = some ob:=by
 cases o with
 | lst xs=>obtain ⟨_,_,_,_,e⟩ := x; exact ⟨_,e⟩
 | tup xs=>obtain ⟨_,_,_,o,e,_⟩ := x; exact ⟨_,e⟩
 | dK kvs=>obtain ⟨_,_,_,_,o,_,_,e,_⟩ := x; exact ⟨_,e⟩
 | dT kvs=>obtain ⟨_,_,_,_,o,_,_,e,_⟩ := x; exact ⟨_,e⟩
 | set S n=>obtain ⟨o,_,_,_,e,_⟩ := x; exact ⟨_,e⟩
 | ins C dx fs=>obtain ⟨_,_,_,e,_⟩ := x; exact ⟨_,e⟩
 | own y=>exact x
 | xd fs=>obtain ⟨mA,⟨od,es,ep,e,c⟩,r⟩ := x; exact ⟨_,e⟩
 | GB lo hi=>obtain ⟨t,u,v,e⟩ := x; exact ⟨_,e⟩
 | bK ob u=>exact ⟨_,x.1⟩
 | oQ ps=>exact ⟨_,(show h.get? a = some _ from x)⟩
 | met f y=>exact ⟨_,(show h.get? a = some _ from x)⟩
 | ext φ=>exact x.2.1
theorem Fe.off {P:Program} {w:World} {H:Hp} {h:Heap} {a:Addr} (ok:Fe P w H h) (e:h.get? a = none):H a = none:=by
 cases q:H a with
 | none=>rfl
 | some u =>
  obtain ⟨ob,z⟩ := (ok a u q).here
  rw [e] at z
  cases z
def Da (a:Addr) (cls:Value) (h:Heap):Prop := ∃ o vs,h.get? a = some o /\ o.cls = cls /\ o.data = .fields vs
def gf (a:Addr) (h:Heap):Prop := ∃ o vs,h.get? a = some o /\ o.data = .fields vs
theorem Sr {P:Program} {w:World} {H:Hp} {h:Heap} {a:Addr} {cls:Value} (x:Da a cls h):Bg P w H h a (.ext (Da a cls)):=by
 refine ⟨x,?_,?_⟩
 ·obtain ⟨o,_,e,_⟩ := x
  exact ⟨o,e⟩
 ·rintro h1 h2 ⟨o,vs,e,c⟩ k
  exact ⟨o,vs,k o e,c⟩
def lg (h:Heap) (a T:Addr):Prop := ∃ oe vs oT ts a0,h.get? a = some oe /\ oe.data = .fields vs /\ vs[0]? = some a0 /\ vs[1]? = some (.ref T) /\ T ≠ a /\ h.get? T = some oT /\ oT.data = .fields ts /\ ts[3]? = some .none
structure Oq (P:Program) (w:World) (fr:List Addr) (H:Hp) (h:Heap) (H':Hp) (h':Heap) (a T:Addr) (cls:Value):Prop where
 un:Un fr [] H H' h h'
 ok:Fe P w H' h'
 exc:H' a = some (.ext (Da a cls))
 off:H' T = none
 new:h.get? T = none
 tr:lg h' a T
def B8 (P:Program) (w:World):Si:=fun outer H s E e s'=>∃ (a T:Addr) (cls:Value) (H':Hp),e = .ref a /\ s'.os = s.os /\ AllBare s'.gens /\ Oq P w (dY outer) H s.heap H' s'.heap a T cls /\ E cls none H'
theorem gc {P : Program} {w : World} {fr old : List Addr} {H H' : Hp} {h h' h2 : Heap} {a T : Addr} {cls : Value} (u : Un fr [] H H' h h') (ok : Fe P w H' h') (eU : ∀ b ∈ fr, H' b = none)
  (oS:∀ b ∈ fr,∃ o,h'.get? b = some o /\ ∀ vs,o.data ≠ .fields vs) (ha:H' a = some (.ext (Da a cls))) (hold:∀ b ∈ old,H' b = none /\ h.get? b = none)
  (st:(PySem.W.hideAll h' (fr ++ a :: old)).StaysIn h2) (sl:h'.UpToSlots h2) (xa:Da a cls h2) (xT:gf T h2) (nT:(PySem.W.hideAll h' (fr ++ a :: old)).get? T = none) (na:T ≠ a) :
  Un fr [] H H' h h2 /\ Fe P w H' h2 /\ H' T = none /\ h.get? T = none:=by
 have hT:H' T = none /\ h.get? T = none:=by
  cases q:h'.get? T with
  | none =>
   refine ⟨ok.off q,?_⟩
   cases z:h.get? T with
   | none=>rfl
   | some o =>
    obtain ⟨o',e⟩ := u.there T o z (by simp)
    rw [q] at e
    cases e
  | some o =>
   by_cases hm:T ∈ fr ++ a :: old
   ·rcases List.mem_append.mp hm with z | z
    ·obtain ⟨o1,e1,d1⟩ := oS T z
     obtain ⟨zu,e2⟩ := sl T o1 e1 d1
     obtain ⟨o3,vs,e3,d3⟩ := xT
     rw [e2] at e3
     cases e3
     exact absurd d3 (d1 vs)
    ·rcases List.mem_cons.mp z with z | z
     ·exact absurd z na
     ·exact hold T z
   ·have:=PySem.W.hideAll_get _ q hm
    rw [nT] at this
    cases this
 have lO:∀ b o u',h'.get? b = some o -> H' b = some u' -> b ≠ a -> h2.get? b = some o:=fun b o u' e q n1=>by
  refine st b o (PySem.W.hideAll_get _ e fun hm=>?_)
  rcases List.mem_append.mp hm with z | z
  ·rw [eU b z] at q
   cases q
  ·rcases List.mem_cons.mp z with z | z
   ·exact n1 z
   ·rw [(hold b z).1] at q
    cases q
 have qX:∀ b o o',h.get? b = some o -> h'.get? b = some o' -> H' b = none -> b ∉ fr -> h2.get? b = some o':=fun b o o' e e' q n=>by
  refine st b o' (PySem.W.hideAll_get _ e' fun hm=>?_)
  rcases List.mem_append.mp hm with z | z
  ·exact n z
  ·rcases List.mem_cons.mp z with z | z
   ·rw [z,ha] at q
    cases q
   ·rw [(hold b z).2] at e
    cases e
 refine ⟨⟨fun b o e q n _=>qX b o o e (u.keep b o e q n (by simp)) (u.free b o e q (by simp)) n,fun b o e q n _=>?_,fun b o e q _=>u.free b o e q (by simp),fun b o e _=>?_,u.cU,u.bU,u.cV⟩,fun b v q=>?_,hT⟩
 ·obtain ⟨sl1,e1⟩ := u.slot b o e q n (by simp)
  obtain ⟨o2,e2,d2⟩ := oS b n
  rw [e1] at e2
  cases e2
  obtain ⟨sl3,e3⟩ := sl b _ e1 d2
  exact ⟨sl3,e3⟩
 ·obtain ⟨o',e'⟩ := u.there b o e (by simp)
  cases q:H' b with
  | none =>
   by_cases n:b ∈ fr
   ·obtain ⟨o1,e1,d1⟩ := oS b n
    obtain ⟨zu,e2⟩ := sl b o1 e1 d1
    exact ⟨_,e2⟩
   ·exact ⟨_,qX b o o' e e' q n⟩
  | some v =>
   by_cases n1:b = a
   ·obtain ⟨o2,_,e2,_⟩ := xa
    rw [n1]
    exact ⟨_,e2⟩
   ·exact ⟨_,lO b o' v e' q n1⟩
 ·by_cases n1:b = a
  ·subst n1
   rw [ha] at q
   cases q
   exact Sr xa
  ·refine (ok b v q).cZ (fun c x hc e=>?_) (fun c e=>e) fun c xs e=>e
   rcases hc with z | z
   ·subst z
    exact lO c x v e q n1
   ·refine lO c x _ e z fun e2=>?_
    rw [e2,ha] at z
    cases z
section
variable {X:Cx} {pins:List (Addr × Obj)} {σ:St} {H:Hp} {s:Shared}
theorem Ae.oS (I:Ae X pins σ H s):∀ b ∈ dY X.stack,∃ o,s.heap.get? b = some o /\ ∀ vs,o.data ≠ .fields vs:=fun b hb=>(I.stack.mem hb).2
theorem Ae.pQ {h' : Heap} {e : Addr} {cls : Value} {vs : List Value} {t' : Nat} (I : Ae X pins σ H s) (m : Heap.MadeExcOf s.heap h' e cls vs) :
  A9 H (upd H e (.ext (Da e cls))) /\ Ae X pins σ (upd H e (.ext (Da e cls))) { s with heap:=h',toks:=t' }:=by
 have hn:=I.aR.off m.new
 have same:A9 H (upd H e (.ext (Da e cls))):=fun b o q=>by
  rw [Aa (Aj q hn)]
  exact q
 obtain ⟨t,e1,_,_⟩ := m.there
 refine ⟨same,I.un ⟨fun b o q _ _ _=>m.keeps b o q,fun b o q _ _ _=>⟨o.slots,m.keeps b o q⟩,fun b o q z _=>?_,fun b o q _=>⟨o,m.keeps b o q⟩,fun b xs q=>same _ _ q,fun b o u q=>same _ _ q,fun b ps q=>⟨#[],by rw [same _ _ q]; simp⟩⟩ fun b u q=>?_⟩
 ·rw [Aa (fun e2=>?_)]
  ·exact z
  ·rw [e2,m.new] at q
   cases q
 ·by_cases hb:b = e
  ·subst hb
   rw [A5] at q
   cases q
   exact Sr ⟨_,_,e1,rfl,rfl⟩
  ·rw [Aa hb] at q
   exact (I.aR b u q).cZ (fun c v _ z=>m.keeps c v z) (fun c z=>same _ _ z) fun c xs z=>same _ _ z
theorem Ae.gE {H':Hp} {s':Shared} {a T:Addr} {cls:Value} (I:Ae X pins σ H s) (os:s'.os = s.os) (bare:AllBare s'.gens) (F:Oq X.prog X.w (dY X.stack) H s.heap H' s'.heap a T cls):Ae X pins σ H' s' :=
 I.qS os F.un F.ok bare fun b z=>absurd z (by simp)
theorem Tc (I:Ae X pins σ H s) {a:Addr} {old:List Addr}:s.heap.FunFrames (PySem.W.hideAll s.heap (dY X.stack ++ a :: old)) X.stack :=
 PySem.W.funFrames_hide I.stack fun env he b hb=>List.mem_append.mpr (.inl (List.mem_filterMap.mpr ⟨env,he,hb⟩))
theorem Hf {h:Heap} {fr old:List Addr} {a:Addr}:(PySem.W.hideAll h (fr ++ a :: old)).get? a = none:=PySem.W.hideAll_none _ (List.mem_append.mpr (.inr (.head _)))
theorem Jv {h:Heap} {fr old:List Addr} {a b:Addr} (hb:b ∈ old):(PySem.W.hideAll h (fr ++ a :: old)).get? b = none:=PySem.W.hideAll_none _ (List.mem_append.mpr (.inr (.tail _ hb)))
theorem Oq.cls {P:Program} {w:World} {fr:List Addr} {H H':Hp} {h h':Heap} {a T:Addr} {cls:Value} (F:Oq P w fr H h H' h' a T cls):Da a cls h':=(F.ok a _ F.exc).1
theorem Oq.jA {P:Program} {w:World} {fr:List Addr} {H H':Hp} {h h' B:Heap} {a T:Addr} {cls:Value} (F:Oq P w fr H h H' h' a T cls) (hB:B.get? T = none):∃ a0,h'.TracedW B a cls a0:=by
 obtain ⟨oe,vs,oT,ts,a0,e1,d1,h0,h1,nT,e2,d2,h3⟩ := F.tr
 obtain ⟨o,oU,q,c,_⟩ := F.cls
 rw [e1] at q
 cases q
 exact ⟨a0,oe,vs,T,oT,ts,e1,⟨c,h0⟩,d1,h1,hB,nT,e2,d2,h3⟩
theorem Oq.on {P : Program} {w : World} {fr old : List Addr} {H H' : Hp} {h h' h2 : Heap} {a : Addr} {cls a0 : Value} (un : Un fr [] H H' h h') (ok : Fe P w H' h') (exc : H' a = some (.ext (Da a cls))) (eU : ∀ b ∈ fr, H' b = none)
  (oS:∀ b ∈ fr,∃ o,h'.get? b = some o /\ ∀ vs,o.data ≠ .fields vs) (hold:∀ b ∈ old,H' b = none /\ h.get? b = none)
  (st:(PySem.W.hideAll h' (fr ++ a :: old)).StaysIn h2) (sl:h'.UpToSlots h2) (tr:h2.TracedW (PySem.W.hideAll h' (fr ++ a :: old)) a cls a0):∃ T,Oq P w fr H h H' h2 a T cls:=by
 obtain ⟨oe,vs,T,oT,ts,q1,⟨q2,q3⟩,q4,q5,q6,q7,q8,q9,JB⟩ := tr
 obtain ⟨u,k,n1,n2⟩ := gc (T:=T) un ok eU oS exc hold st sl ⟨oe,vs,q1,q2,q4⟩ ⟨oT,ts,q8,q9⟩ q6 q7
 exact ⟨T,u,k,exc,n1,n2,oe,vs,oT,ts,a0,q1,q4,q3,q5,q7,q8,q9,JB⟩
end
section
variable {P:Program} {w:World} {K:PySem.W.Frag} {mg:Str -> Option Value} {base:Heap} {N:List Str} {qual:Str} {scope:Scope} {f:Addr} {cd:Value} {A:Around} {outer:List Env} {s₀:Shared} {H₀:Hp} {E:XK}
theorem Vu {pins : List (Addr × Obj)} {σ : St} {H H' : Hp} {s : Shared} {s' : Shared} {a T : Addr} {cls : Value} (I : Ae (Dz (B8 P w) P w K mg base N qual scope f cd A outer s₀ H₀ E) pins σ H s)
  (os:s'.os = s.os) (bare:AllBare s'.gens) (F:Oq P w (dY (Dz (B8 P w) P w K mg base N qual scope f cd A outer s₀ H₀ E).stack) H s.heap H' s'.heap a T cls) (hE:E cls none H'):B8 P w outer H₀ s₀ E (.ref a) s':=by
 have I2:=I.gE os bare F
 refine ⟨a,T,cls,H',rfl,I2.os,I2.bare,⟨I2.base,I2.aR,F.exc,F.off,?_,F.tr⟩,hE⟩
 cases q:s₀.heap.get? T with
 | none=>rfl
 | some o =>
  obtain ⟨o',e⟩ := I.base.there T o q (by intro z; cases z)
  rw [F.new] at e
  cases e
def S7 (X:Cx) (R:St -> XK -> Prop):Prop := ∀ (pins:List (Addr × Obj)) (σ:St) (H:Hp) (s:Shared) (e:Value) (s':Shared) (E:XK),R σ E -> Ae X pins σ H s -> B8 X.prog X.w X.stack H s E e s' -> X.xe e s'
def RD (E:XK):St -> XK -> Prop:=fun _ E1=>∀ c d H,E1 c d H -> E c d H
theorem Te:S7 (Dz (B8 P w) P w K mg base N qual scope f cd A outer s₀ H₀ E) (RD E):=by
 rintro pins σ H s e s' E1 hR I ⟨a,T,cls,H',rfl,os,bare,F,hE⟩
 have I1:=I.gE os bare F
 obtain ⟨a0,tr⟩ := F.jA (B:=PySem.W.hideAll s'.heap (dY (Dz (B8 P w) P w K mg base N qual scope f cd A outer s₀ H₀ E).stack ++ a :: [T])) (Jv (by simp))
 refine wpAny_leaving_nextW (L:=s₀.heap.objs.size) (outer:=outer) I.ok.frames (Tc I1) rfl tr (fun b o q=>PySem.W.of_hideAll _ q) Hf fun h' hL=>?_
 obtain ⟨k1,k2,k3,k4⟩ := hL
 obtain ⟨T',F'⟩ := Oq.on F.un F.ok F.exc I1.cH I1.oS (fun b hb=>by rw [List.mem_singleton.mp hb]; exact ⟨F.off,F.new⟩) k1 k4 k3
 exact Vu (s':={ s' with heap:=h' }) I os bare F' (hR _ _ _ hE)
def Ve (X:Cx) (E:XK):Prop := ∀ (pins:List (Addr × Obj)) (σ:St) (H:Hp) (s:Shared) (h':Heap) (e:Addr) (cls:Value) (vs:List Value),Ae X pins σ H s -> Heap.MadeExcOf s.heap h' e cls vs ->
 (∀ H2,A9 H H2 -> E cls none H2) -> X.xe (.ref e) { s with heap:=h' }
theorem ef:Ve (Dz (B8 P w) P w K mg base N qual scope f cd A outer s₀ H₀ E) E:=by
 intro pins σ H s h' e cls vs I m hE
 obtain ⟨same,I1⟩ := I.pQ (t':=s.toks) m
 obtain ⟨t,e1,_,_⟩ := m.there
 have un:Un (dY (Dz (B8 P w) P w K mg base N qual scope f cd A outer s₀ H₀ E).stack) [] H (upd H e (.ext (Da e cls))) s.heap h' :=
  ⟨fun b o q _ _ _=>m.keeps b o q,fun b o q _ _ _=>⟨o.slots,m.keeps b o q⟩,fun b o q z _=>by
   rw [Aa (fun e2=>by rw [e2,m.new] at q; cases q)]
   exact z,fun b o q _=>⟨o,m.keeps b o q⟩,fun b xs q=>same _ _ q,fun b o u q=>same _ _ q,fun b ps q=>⟨#[],by rw [same _ _ q]; simp⟩⟩
 refine wpAny_leaving_firstW (base:=PySem.W.hideAll h' (dY (Dz (B8 P w) P w K mg base N qual scope f cd A outer s₀ H₀ E).stack ++ e :: [])) (L:=s₀.heap.objs.size) (outer:=outer) I.ok.frames (Tc I1) rfl e1 (fun b o q=>PySem.W.of_hideAll _ q) Hf rfl rfl rfl fun h2 hL=>?_
 obtain ⟨k1,k2,k3,k4⟩ := hL
 obtain ⟨T',F'⟩ := Oq.on un I1.aR A5 I1.cH I1.oS (fun b hb=>absurd hb (by simp)) k1 k4 k3
 exact Vu (s':={ s with heap:=h2 }) I rfl I.bare F' (hE _ same)
end
def Y2 (K:PySem.W.Frag) (C:Addr):Prop:=PySem.W.excIn K C [.type "ValueError",.type "Exception",.type "BaseException",.type "object"] "ValueError.__new__" = true
theorem Sn {K : PySem.W.Frag} {h : Heap} {C : Addr} {bmB : List Value} {newId : String} (X : K.In h) (q : PySem.W.excIn K C bmB newId = true) :
  ∃ (bm:List Value) (N:Addr) (nm qn:Str) (bs:List Value) (hd:Bool) (sn:List Str) (sub:List Value) (ab:Bool) (col:Option Bool) (dd:Option Addr) (k0 k1 k2 k3 k5:Option Value) (mN:Str -> Option Value),
   h.get? C = some (excClassObj nm qn C N bs bm hd sn sub ab col dd k0 k1 k2 k3 k5 newId) /\ h.Ns N mN /\ mN "__init__" = none /\ OwnTail h bmB bm:=by
 unfold PySem.W.excIn at q
 split at q
 case h_2=>exact absurd q Bool.false_ne_true
 case h_1 dd cd sl ho =>
  split at q
  case h_2=>exact absurd q Bool.false_ne_true
  case h_1 C' bm k0 k1 k2 k3 n k5 hm hs =>
   simp only [beq_iff_eq,Bool.and_eq_true,Bool.not_eq_true'] at q
   obtain ⟨⟨⟨⟨⟨e1,e2⟩,e3⟩,e4⟩,e5⟩,e6⟩ := q
   subst e1 e2
   obtain ⟨nm,bs,mro,ns,qn,hd,sn,sub,ab,col,del⟩ := cd
   dsimp only at hm e3 e5 e6
   subst hm e3
   obtain ⟨l⟩ := sl
   have hl:l = [k0,k1,k2,k3,some (.builtin n),k5]:=hs
   subst hl
   exact ⟨bm,ns,nm,qn,bs,hd,sn,sub,ab,col,dd,k0,k1,k2,k3,k5,_,X _ _ ho,.of_isNs (PySem.W.isNs_of_in X e5),PySem.W.nsMap_none_of_in X e5 e6,PySem.W.tail_of_in X e4⟩
section
variable {X:Cx} {x:Str} {C:Addr} {p np aY pos:Pos} {e:Expr} {es:List Expr} {t:TA} {E:XK}
def bw (C:Addr) (t:TA) (E:XK):TS:=fun _ σ H=>t σ H fun vs H1=>vs.length <= sizeLine /\ ∀ H2,A9 H1 H2 -> E (.ref C) none H2
theorem Wu (hR : Ve X E) (hc : X.calm = true) (hg : Gl X x) (hm : X.mg x = some (.ref C)) (hx : Y2 X.K C) (ha : PA X (e :: es) t) (kA : (x == ("__debug__" : Str)) = false := by decide)
  (he:starEach (e :: es) X.env = (false,eval e X.env) :: starEach es X.env:=by rfl) (kE:(backTo aY (starEach es X.env)).any (·.1) = false:=by rfl) :
  PS X (.Raise (some (.Call (.Name x np) (e :: es) [] aY)) none pos) (bw C t E):=by
 intro pins s σ H D I h
 obtain ⟨bm,N,nm,qn,bs,hd,sn,sub,ab,col,dd,k0,k1,k2,k3,k5,mN,hC,hN,hni,T⟩ := Sn I.ok.mod.hJ hx
 have JN:(backTo aY (starEach (e :: es) X.env)).any (·.1) = false:=by
  rw [he]
  show (false || (backTo aY (starEach es X.env)).any (·.1)) = false
  rw [kE]
  rfl
 refine wpAny_Raise_call_subT (bm:=bm) (N:=N) (nm:=nm) (q:=qn) (bs:=bs) (hdct:=hd) (sn:=sn) (sub:=sub) (ab:=ab) (col:=col) (dd:=dd) (k0:=k0) (k1:=k1) (k2:=k2) (k3:=k3) (k5:=k5) (mN:=mN) (C:=C)
  PySem.F.excBase_ValueError (T.hasType rfl) (I.ok.hd hc) JN hni (Jp I hg hm ⟨rfl,?_⟩ kA)
 have w:=ha aY pins s σ H _ I h
 rw [he] at w ⊢
 refine Calls.evalArgs_plain (Bw w fun us s2 z=>?_)
 obtain ⟨vs,H2,I2,r,hl,hq⟩ := z
 exact ⟨rfl,by rw [<- r.length]; exact hl,I2.bk _ _ hC,hN.keeps I2.bk,T.keeps I2.bk,fun h' a m=>hR pins σ H2 s2 h' a _ us I2 m hq⟩
variable {k:Nat} {f:Addr} {fd:FuncData} {ps:List Str} {sp:Sp} {gD:List V} {ds:List Value} {R:St -> XK -> Prop}
def bf (sp:Sp) (gD:List V) (R:St -> XK -> Prop) (t:TA):TE:=fun σ H Q=>t σ H fun vs H1=>∃ E,R σ E /\ sp (vs ++ gD) H1 Q E
theorem Yq {pins : List (Addr × Obj)} {σ : St} {H : Hp} {s : Shared} {Q : VK} {us : List Value} {vs : List V} (F : Ai X.prog X.w X.K X.mg X.base (B8 X.prog X.w) k f fd ps sp) (hr : C0 k X.A) (hb : Aw X.K fd ps ds) (hd : An gD ds) (hx : S7 X R)
  (I:Ae X pins σ H s) (r:An vs us) (hE:R σ E) (h:sp (vs ++ gD) H Q E):wpAny (model X.prog X.w) X.A (call (.ref f) us) (EP X pins σ Q) X.xe s:=by
 have r2:=r.append hd
 have hl:(us ++ ds).length = ps.length:=r2.length.symm.trans (F.len _ _ _ _ h)
 have run:=F.run X.A X.stack s H ⟨us,[]⟩ (us ++ ds) (vs ++ gD) Q E hr I.zy (hb s us I.lI hl) r2 h
 refine wpAny_call (codeAny_mono run fun res s' hq=>?_)
 match res,hq with
 | .error e,hq=>exact hx pins σ H s e s' E hE I hq
 | .ok (.ret u),hq=>exact I.after hq
 | .ok .next,hq=>exact hq.elim
 | .ok .brk,hq=>exact hq.elim
 | .ok .cont,hq=>exact hq.elim
theorem Ej (F : Ai X.prog X.w X.K X.mg X.base (B8 X.prog X.w) k f fd ps sp) (hr : C0 k X.A) (hg : Gl X x) (hm : X.mg x = some (.ref f)) (hk : PySem.W.keepIn X.K (.ref f) = true) (hb : Aw X.K fd ps ds) (hd : An gD ds) (hx : S7 X R) (ha : PA X (e :: es) t)
  (kA:(x == ("__debug__" : Str)) = false:=by decide) (he:starEach (e :: es) X.env = (false,eval e X.env) :: starEach es X.env:=by rfl) (kE:(backTo pos (starEach es X.env)).any (·.1) = false:=by rfl) :
  PE X (.Call (.Name x p) (e :: es) [] pos) (bf sp gD R t):=by
 intro pins s σ H Q I h
 have w:=ha pos pins s σ H _ I h
 refine wpAny_Call_Name_kw (Jp I hg hm ?_ kA)
 refine PySem.W.callWith_K (h₀:=X.base) I.ok.mod.hJ hk (Bw w fun us s1 z=>?_) he kE
 obtain ⟨vs,H1,I1,r,E,hE,q⟩ := z
 exact ⟨I1.lI,Yq F hr hb hd hx I1 r hE q⟩
theorem Az {P:Program} {w:World}:Rm (B8 P w) X E0:=fun _ _ _ _ _ _ _ ⟨_,_,_,_,_,_,_,_,z⟩=>z.elim
end
section
variable {P:Program} {w:World} {K:PySem.W.Frag} {mg:Str -> Option Value} {base:Heap} {x qual:Str} {st:Stmt} {f:Addr} {fd:FuncData} {N ps:List Str} {k:Nat} {sp:Sp}
theorem F8.qY (F : F8 K x qual st f fd) (S : Aq N ps (A6 st)) (len : ∀ vs H Q E, sp vs H Q E -> vs.length = ps.length)
  (bM:∀ (aV:Value) (A:Around) (outer:List Env) (s:Shared) (H:Hp) (vs:List V) (Q:VK) (E:XK),C0 k (A.deeper (envOfC qual (A6 st) s.heap.objs.size f aV)) -> sp vs H Q E ->
   ∃ t,Ld (Dz (B8 P w) P w K mg base N qual (A6 st) f aV A outer s H E) (Ak st) t /\ t { nx:=fun _ H'=>Q .aW H',rt:=Q } (start N vs) H):Ai P w K mg base (B8 P w) (k + 1) f fd ps sp:=by
 obtain ⟨oc,od,kV,doc,pm,an,aV,ct,gO,rfl,lk,iV⟩ := F.ex
 exact Ss lk iV S len (bM aV)
theorem Pd.qY (F : Pd K x qual st f fd) (S : Aq N ps (A6 st)) (len : ∀ vs H Q E, sp vs H Q E -> vs.length = ps.length)
  (bM:∀ (aV:Value) (A:Around) (outer:List Env) (s:Shared) (H:Hp) (vs:List V) (Q:VK) (E:XK),C0 k (A.deeper (envOfC qual (A6 st) s.heap.objs.size f aV)) -> sp vs H Q E ->
   ∃ t,Ld (Dz (B8 P w) P w K mg base N qual (A6 st) f aV A outer s H E) (Ak st) t /\ t { nx:=fun _ H'=>Q .aW H',rt:=Q } (start N vs) H):Ai P w K mg base (B8 P w) (k + 1) f fd ps sp:=by
 obtain ⟨oc,od,dV,kV,doc,pm,an,aV,ct,gO,rfl,lk,iV⟩ := F.ex
 exact Ss lk iV S len (bM aV)
theorem F8.okN (F : F8 K x qual st f fd) (S : Aq N ps (A6 st)) (len : ∀ vs H Q E, sp vs H Q E -> vs.length = ps.length)
  (bM:∀ (aV:Value) (A:Around) (outer:List Env) (s:Shared) (H:Hp) (vs:List V) (Q:VK) (E:XK),C0 k (A.deeper (envOfC qual (A6 st) s.heap.objs.size f aV)) -> sp vs H Q E ->
   ∃ t,Ld (Dz (B8 P w) P w K mg base N qual (A6 st) f aV A outer s H E).jR (Ak st) t /\ t { nx:=fun _ H'=>Q .aW H',rt:=Q } (start N vs) H):Ai P w K mg base (B8 P w) (k + 1) f fd ps sp :=
 F.qY S len fun aV A outer s H vs Q E hr jS=>let ⟨t,h,q⟩ := bM aV A outer s H vs Q E hr jS; ⟨t,h.jR,q⟩
theorem Pd.okN (F : Pd K x qual st f fd) (S : Aq N ps (A6 st)) (len : ∀ vs H Q E, sp vs H Q E -> vs.length = ps.length)
  (bM:∀ (aV:Value) (A:Around) (outer:List Env) (s:Shared) (H:Hp) (vs:List V) (Q:VK) (E:XK),C0 k (A.deeper (envOfC qual (A6 st) s.heap.objs.size f aV)) -> sp vs H Q E ->
   ∃ t,Ld (Dz (B8 P w) P w K mg base N qual (A6 st) f aV A outer s H E).jR (Ak st) t /\ t { nx:=fun _ H'=>Q .aW H',rt:=Q } (start N vs) H):Ai P w K mg base (B8 P w) (k + 1) f fd ps sp :=
 F.qY S len fun aV A outer s H vs Q E hr jS=>let ⟨t,h,q⟩ := bM aV A outer s H vs Q E hr jS; ⟨t,h.jR,q⟩
theorem Qp {qual : Str} {scope : Scope} {cd : Value} {A : Around} {outer : List Env} {s : Shared} {H : Hp} {E : XK} :
  PassesOwn (model P w) (Dz (B8 P w) P w K mg base N qual scope f cd A outer s H E).A (Dz (B8 P w) P w K mg base N qual scope f cd A outer s H E).env (Dz (B8 P w) P w K mg base N qual scope f cd A outer s H E).xe:=PassesOwn.leaving
end
open PySem.W (Looks)
inductive Ex (X:Cx) (C:Addr):List Expr -> List Addr -> Prop
 | nil:Ex X C [] []
 | cons {x : Str} {p : Pos} {c : Addr} {es : List Expr} {cs : List Addr} (hg : Gl X x) (hm : X.mg x = some (.ref c)) (hd : (x == ("__debug__" : Str)) = false)
   (hb:PySem.W.subIn X.K (.ref c) (.type "BaseException") = some true) (hn:PySem.W.subIn X.K (.ref C) (.ref c) = some false) (he:∀ env:Env,starEach (.Name x p :: es) env = (false,eval (.Name x p) env) :: starEach es env) (r:Ex X C es cs):Ex X C (.Name x p :: es) (c :: cs)
section
variable {X:Cx} {pins:List (Addr × Obj)} {σ:St} {H:Hp} {s:Shared} {C:Addr}
theorem Ms {A : Around} {E : Value -> Shared -> Prop} (I : Ae X pins σ H s) (pos : Pos) : ∀ {es : List Expr} {cs : List Addr}, Ex X C es cs -> ∀ {Q : List Value -> Shared -> Prop}, Q (cs.map .ref) s ->
  wpAny (model X.prog X.w) A (spliced (backTo pos (starEach es X.env))) Q E s
 | _,_,.nil,Q,q=>Calls.spliced_nil q
 | _,_,.cons (x:=x) hg hm hd _ _ he r,Q,q=>by
  rw [he]
  refine Calls.spliced_cons ?_
  refine Calls.Name_function_global I.ok.kind hg (Calls.loadGlobal_global (by rw [I.ok.glob]; exact I.mod.glob.keeps I.bk) hm ?_) hd
  exact Ms I pos r q
theorem Ex.len {es:List Expr} {cs:List Addr} (r:Ex X C es cs):cs.length = es.length:=by
 induction r with
 | nil=>rfl
 | cons _ _ _ _ _ _ _ ih=>simp [ih]
theorem K5 {M:Model} {h:Heap} {α:Type} {f:Value -> α -> Sem (ForInStep α)} {b:α}:∀ {cs:List Value},(∀ c ∈ cs,Looks M h (f c b) (.yield b)) -> Looks M h (forIn cs b f) b
 | [],_=>PySem.W.Looks.now
 | c :: cs,k=>by
  rw [List.forIn_cons]
  exact (k c (List.mem_cons_self ..)).andThen (K5 fun d hd=>k d (List.mem_cons_of_mem _ hd))
theorem aj {M:Model} {K:PySem.W.Frag} {h:Heap} {c:Addr} {b:Value} {r:Bool} (hJ:K.In h) (e:PySem.W.subIn K (.ref c) b = some r):Looks M h (isType (.ref c)) true:=by
 obtain ⟨cd,a,_⟩ := Option.bind_eq_some_iff.mp (show PySem.W.mroIn K c b = some r from e)
 unfold PySem.W.clsIn at a
 split at a
 ·rename_i ho
  intro A' Q' E' s' k q
  unfold isType loadHead
  refine wpAny_bind (wpAny_loadPart (k _ _ (hJ _ _ ho)) ?_)
  exact wpAny_pure q
 ·cases a
theorem dy {M:Model} {K:PySem.W.Frag} {h:Heap} {c:Addr} (hJ:K.In h) (e:PySem.W.subIn K (.ref c) (.type "BaseException") = some true):Looks M h (isExcClass (.ref c)) true:=by
 unfold isExcClass
 refine (aj hJ e).andThen ?_
 rw [if_pos rfl]
 exact PySem.W.looks_subIn hJ e
theorem V9 {M : Model} {K : PySem.W.Frag} {h : Heap} {a t : Addr} {oe ot : Obj} {n : Nat} {cs : List Addr} (hJ : K.In h) (he : h.get? a = some oe) (hc : oe.cls = .ref C) (ht : h.get? t = some ot) (htc : ot.cls = .type "tuple") (htd : ot.data = .seq (cs.map Value.ref).toArray n)
  (k:∀ c ∈ cs,PySem.W.subIn K (.ref c) (.type "BaseException") = some true /\ PySem.W.subIn K (.ref C) (.ref c) = some false):Looks M h (excMatches (.ref a) (.ref t)) false:=by
 unfold excMatches
 have i1:Looks M h (isInstance (.ref t) (.type "tuple")) true:=by
  intro A' Q' E' s' kk q
  exact wpAny_isInstance ⟨ot,kk _ _ ht,htc⟩ isSubtype_tuple_tuple q
 refine i1.andThen ?_
 rw [if_pos rfl]
 have i2:Looks M h (seqItems? (.ref t)) (some (cs.map Value.ref).toArray):=by
  intro A' Q' E' s' kk q
  exact wpAny_seqItems (kk _ _ ht) htd q
 have i3:Looks M h (typeOf (.ref a)) (.ref C):=by
  have z:Looks M h (typeOf (.ref a)) oe.cls:=(PySem.W.Looks.ld he).andThen .now
  rw [hc] at z
  exact z
 refine i2.andThen ?_
 dsimp only [Option.getD_some]
 refine PySem.W.Looks.now.andThen ?_
 refine (K5 fun c gB=>?_).andThen (i3.andThen ((K5 fun c gB=>?_).andThen .now))
 ·obtain ⟨d,hd,rfl⟩ := List.mem_map.mp gB
  exact (dy hJ (k d hd).1).andThen .now
 ·obtain ⟨d,hd,rfl⟩ := List.mem_map.mp gB
  exact (PySem.W.looks_subIn hJ (k d hd).2).andThen .now
theorem Y5 {prog : Program} {w : World} {A : Around} {E : Value -> Shared -> Prop} {K : PySem.W.Frag} {v t c : Value} {Q : Value -> Shared -> Prop} (hJ : K.In s.heap) (ht : ∀ M, Looks M s.heap (typeOf v) t) (e : PySem.W.kitOne K t c = some true)
  (hx:v ≠ .builtin "__main__.__loader__#opaque") (h:Q (.bool true) s):wpAny (model prog w) A (call (.builtin "isinstance") [v,c]) Q E s:=by
 refine call_isinstance (S:=fun _ R s=>(K.In s.heap /\ ∀ M,Looks M s.heap (typeOf v) t) /\ R (.ok (.ret (.bool true))) s) (fun prog w A R s hs=>isinstance_outer ?_ hx) ⟨⟨hJ,ht⟩,h⟩
 obtain ⟨⟨hJ,ht⟩,hq⟩ := hs
 obtain ⟨h0,g,d,tt,os⟩ := s
 unfold Builtin.«isinstance.nested»
 refine wpAny_bind ((ht _).at ?_)
 unfold PySem.W.kitOne at e
 by_cases q:(t == c) = true
 ·rw [if_pos q]
  first
   | exact wpAny_bind (wpAny_rule hq)
   | exact wpAny_bind (wpAny_rule (wpAny_pure hq))
 ·rw [if_neg q] at e ⊢
  obtain ⟨k1,k2,k3⟩ := PySem.W.kit_cls (M:=model prog w) hJ e
  have k4:Looks (model prog w) h0 (isInstance v c) true:=(ht _).andThen k3
  refine wpAny_bind (k1.at ?_)
  rw [if_pos (by decide)]
  k_delta "plainIsInstance"
  refine wpAny_bind (wpAny_bind (k2.at ?_))
  simp only [Bool.not_true,if_false,Bool.false_eq_true]
  refine wpAny_bind (k4.at ?_)
  first
   | exact wpAny_pure (wpAny_pure hq)
   | (simp only [if_true]; exact wpAny_pure (wpAny_pure hq))
   | (simp only [if_true]; exact wpAny_pure hq)
   | trace_state
def fq (K:PySem.W.Frag):List V -> Hp -> VK -> Prop:=fun xs H Q=>∃ (a:Addr) (t c:Value) (v:V),xs = [.ref a,v] /\ H a = some (.ext (Da a t)) /\ (∀ u,Ao v u -> u = c) /\ PySem.W.kitOne K t c = some true /\ Q (.bl true) H
theorem Lx (K:PySem.W.Frag) (hK:X.K = K:=by rfl):El X (.builtin "isinstance") (fq K):=by
 subst hK
 intro pins s σ H xs us Q I r h
 obtain ⟨a,t,c,v,rfl,ha,hv,e,q⟩ := h
 obtain ⟨u0,u1,rfl,r0,r1⟩ := An.two r
 cases r0
 rw [hv u1 r1]
 obtain ⟨o,vs,e1,e2,_⟩ := (I.aR a _ ha).1
 refine Y5 I.lI (fun M=>?_) e (fun z=>nomatch z) ⟨.bl true,H,I,rfl,q⟩
 have z:Looks M s.heap (typeOf (.ref a)) o.cls:=(PySem.W.Looks.ld e1).andThen .now
 rw [e2] at z
 exact z
theorem Z7 {M : Model} {A : Around} {E : Value -> Shared -> Prop} {i : Nat} {n : Str} {pos : Pos} {Q : Unit -> Shared -> Prop} (I : Ae X pins σ H s) (hN : X.N.Nodup) (hi : X.N[i]? = some n) (hl : X.env.scope.names.lookup n = some .local)
  (h:∀ s',Ae X pins (σ.set i none) H s' -> Q () s'):wpAny M A (do bindName X.env n .none; unbindBehindTheSuite X.env n pos) Q E s:=by
 obtain ⟨m,hn,hm⟩ := id I.loc
 refine wpAny_nameGoes_keeps hl hn (by rw [I.ok.kind]; rfl) fun h' v ID hs=>h _ ?_
 have kp:∀ b o,b ≠ X.env.locals -> s.heap.get? b = some o -> h'.get? b = some o:=fun b o hb e=>(hs.2 b hb).trans e
 have yZ:∀ b o,X.s₀.heap.get? b = some o -> b ≠ X.env.locals:=fun b o e=>Nat.ne_of_lt (Nat.lt_of_lt_of_le (Heap.lt_size e) I.ok.above)
 have neT:∀ b u,H b = some u -> b ≠ X.env.locals:=fun b u e z=>by
  rw [z,I.free] at e
  cases e
 refine ⟨I.ok,I.os,I.bare,⟨fun b o e q1 q2 q3=>kp b o (yZ b o e) (I.base.keep b o e q1 q2 q3),fun b o e q1 q2 q3=>?_,I.base.free,fun b o e q3=>?_,I.base.cU,I.base.bU,I.base.cV⟩,⟨_,ID,fun j x w e1 e2 e3=>?_⟩,fun x c e=>?_,I.free,I.bD,fun p hp=>?_,fun b u e=>?_,?_⟩
 ·obtain ⟨sl,z⟩ := I.base.slot b o e q1 q2 q3
  exact ⟨sl,kp b _ (yZ b o e) z⟩
 ·obtain ⟨o',z⟩ := I.base.there b o e q3
  exact ⟨o',kp b _ (yZ b o e) z⟩
 ·have qZ : i ≠ j := fun z => by
   subst z
   rw [List.getElem?_set] at e2
   rw [if_pos rfl] at e2
   split at e2 <;> cases e2
  rw [List.getElem?_set_ne qZ] at e2
  obtain ⟨u,ru,lu⟩ := hm j x w e1 e2 e3
  have hxn:x ≠ n:=fun z=>qZ (Kp hN hi (by rw [<- z]; exact e1))
  refine ⟨u,ru,?_⟩
  rcases lu with ⟨k1,k2⟩ | ⟨k1,c,k2,o,k3,k4⟩
  ·exact .inl ⟨k1,by show (if x = n then v else m x) = some u; rw [if_neg hxn]; exact k2⟩
  ·exact .inr ⟨k1,c,k2,o,kp c o (I.pI x c k2) k3,k4⟩
 ·obtain ⟨v',o,k3,k4⟩ := I.cell x c e
  exact ⟨v',o,kp c o (I.pI x c e) k3,k4⟩
 ·obtain ⟨k1,k2,k3,k4,k5⟩ := I.pin p hp
  exact ⟨kp _ _ k3 k1,k2,k3,k4,k5⟩
 ·refine (I.aR b u e).cZ (fun c v' hc z=>kp c v' ?_ z) (fun _ z=>z) fun _ _ z=>z
  rcases hc with hc | hc
  ·rw [hc]
   exact neT b u e
  ·exact neT c _ hc
 ·rw [List.length_set]
  exact I.len
end
abbrev Cx.at (X:Cx) (A:Around):Cx:={ X with A:=A,calm:=false,xe:=fun _ _=>False }
abbrev Cx.uN (X:Cx) (pn:List (Addr × Obj)) (W:Value -> Shared -> Prop):Cx:={ X with pn:=pn,xe:=W }
section
variable {X:Cx} {pins:List (Addr × Obj)} {σ:St} {H:Hp} {s:Shared}
theorem Ae.at (I:Ae X pins σ H s) {A:Around} (hA:A.frames = X.A.frames):Ae (X.at A) pins σ H s :=
 ⟨⟨I.ok.mod,I.ok.kind,I.ok.glob,I.ok.blt,I.ok.above,I.ok.inj,I.ok.has,I.ok.uv,fun z=>(nomatch z),hA.trans I.ok.frames,I.ok.yY,I.ok.zv,I.ok.bs,I.ok.lD,I.ok.iR,I.ok.iT,I.ok.dA,I.ok.pH⟩,I.os,I.bare,I.base,I.loc,I.cell,I.free,I.bD,I.pin,I.aR,I.len⟩
theorem Ae.back {A:Around} (ok:X.Ok) (I:Ae (X.at A) pins σ H s):Ae X pins σ H s:=⟨ok,I.os,I.bare,I.base,I.loc,I.cell,I.free,I.bD,I.pin,I.aR,I.len⟩
theorem Ae.uN {W:Value -> Shared -> Prop} (I:Ae X pins σ H s):Ae (X.uN (X.pn ++ pins) W) [] σ H s :=
 ⟨⟨I.ok.mod,I.ok.kind,I.ok.glob,I.ok.blt,I.ok.above,I.ok.inj,I.ok.has,I.ok.uv,I.ok.hd,I.ok.frames,I.ok.yY,I.ok.zv,I.ok.bs,I.ok.lD,I.ok.iR,I.ok.iT,I.ok.dA,I.ok.pH⟩,I.os,I.bare,I.base,I.loc,I.cell,I.free,I.bD,
  fun p hp=>I.pin p (by rwa [List.append_nil] at hp),I.aR,I.len⟩
theorem Ae.out {W:Value -> Shared -> Prop} {hU:List (Addr × Obj)} (ok:X.Ok) (I:Ae (X.uN (X.pn ++ pins) W) hU σ H s):Ae X pins σ H s :=
 ⟨ok,I.os,I.bare,I.base,I.loc,I.cell,I.free,I.bD,fun p hp=>I.pin p (List.mem_append_left _ hp),I.aR,I.len⟩
theorem SP.out {W:Value -> Shared -> Prop} {D:Go} {f:Flow} {s':Shared} (ok:X.Ok) (h:SP (X.uN (X.pn ++ pins) W) [] D f s'):SP X pins D f s':=by
 cases f with
 | next=>obtain ⟨σ',H',I,q⟩ := h; exact ⟨σ',H',I.out ok,q⟩
 | brk=>obtain ⟨σ',H',I,q⟩ := h; exact ⟨σ',H',I.out ok,q⟩
 | cont=>obtain ⟨σ',H',I,q⟩ := h; exact ⟨σ',H',I.out ok,q⟩
 | ret u=>obtain ⟨v,σ',H',I,r,q⟩ := h; exact ⟨v,σ',H',I.out ok,r,q⟩
theorem Oq.kept {P:Program} {w:World} {fr:List Addr} {H H':Hp} {h h' h2:Heap} {a T:Addr} {cls:Value} (F:Oq P w fr H h H' h' a T cls) (k:∀ b o,h'.get? b = some o -> h2.get? b = some o):Oq P w fr H h H' h2 a T cls:=by
 obtain ⟨oe,vs,oT,ts,a0,e1,d1,h0,h1,nT,e2,d2,h3⟩ := F.tr
 exact ⟨F.un.trans (Un.kept k),F.ok.kept k,F.exc,F.off,F.new,oe,vs,oT,ts,a0,k _ _ e1,d1,h0,h1,nT,k _ _ e2,d2,h3⟩
def RT (tu:TS) (C:Addr) (i:Nat) (D:Go):St -> XK -> Prop:=fun σ1 E=>∀ cls H',E cls none H' -> cls = .ref C /\ ∀ a,H' a = some (.ext (Da a (.ref C))) ->
 tu { nx:=fun σ' H4=>D.nx (σ'.set i none) H4,rt:=fun _ _=>False } (σ1.set i (some (.ref a))) H'
def l8 (tb:(St -> XK -> Prop) -> TS) (tu:TS) (C:Addr) (i:Nat):TS:=fun D σ H=>tb (RT tu C i D) D σ H
theorem Ex.all {C:Addr} {es:List Expr} {cs:List Addr} (r:Ex X C es cs):∀ c ∈ cs,PySem.W.subIn X.K (.ref c) (.type "BaseException") = some true /\ PySem.W.subIn X.K (.ref C) (.ref c) = some false:=by
 induction r with
 | nil=>exact fun _ z=>nomatch z
 | cons _ _ _ hb hn _ _ ih =>
  intro c hc
  rcases List.mem_cons.mp hc with e | hc
  ·rw [e]
   exact ⟨hb,hn⟩
  ·exact ih c hc
theorem dk {C : Addr} {body : List Stmt} {es : List Expr} {cs : List Addr} {xt} {tp p1 p2 pos np : Pos} {b₀ c₀ : Stmt} {bs ss : List Stmt} {x n : Str} {i : Nat} {tb : (St -> XK -> Prop) -> TS} {tu : TS}
  (eU:X.stack = X.env :: X.outer) (hf:X.env.frame = some X.env.locals)
  (hb:∀ (W:Value -> Shared -> Prop) (pn:List (Addr × Obj)) (R:St -> XK -> Prop),S7 (X.uN pn W) R -> Ld (X.uN pn W) body (tb R))
  (hn:Ex X C es cs) (pR:es.length <= sizeLine) (hg:Gl X x) (hm:X.mg x = some (.ref C)) (hC:Y2 X.K C) (hN:X.N.Nodup) (hi:X.N[i]? = some n) (hl:X.env.scope.names.lookup n = some .local)
  (hu:∀ A:Around,Ld (X.at A) (c₀ :: ss) tu) (kA:(x == ("__debug__" : Str)) = false:=by decide) :
  PS X (.Try body [.ExceptHandler (some (.Tuple es xt tp)) none (b₀ :: bs) p1,.ExceptHandler (some (.Name x np)) (some n) (c₀ :: ss) p2] [] [] pos) (l8 tb tu C i):=by
 intro pins s σ H D I h
 refine wpAny_Try_except ?_
 have ok:=I.ok
 refine wpAny_mono (hb _ (X.pn ++ pins) _ ?_ [] s σ H D I.uN h) (fun f s1 q=>?_) fun e s1 z=>z
 ·rintro hU σ1 H1 s1 e s2 E hR I1 ⟨a,T,cls,H',rfl,os,bare,F,hE⟩
  obtain ⟨rfl,hs⟩ := hR _ _ hE
  have I0:Ae X pins σ1 H1 s1:=I1.out ok
  have F:Oq X.prog X.w (dY X.stack) H1 s1.heap H' s2.heap a T (.ref C):=F
  have I2:=I0.gE os bare F
  obtain ⟨a0,tr⟩ := F.jA (B:=PySem.W.hideAll s2.heap (dY X.stack ++ a :: [T])) (Jv (List.mem_singleton.mpr rfl))
  have hA:X.A.frames = some (X.env :: X.outer):=by rw [<- eU]; exact ok.frames
  have hF:s2.heap.FunFrames (PySem.W.hideAll s2.heap (dY X.stack ++ a :: [T])) (X.env :: X.outer):=by rw [<- eU]; exact Tc I2
  refine wpAny_looks_onW hA hf ⟨fun b o q=>PySem.W.of_hideAll _ q,Hf,hF,tr⟩ fun h3 held sm3=>?_
  refine wpAny_landsW held fun h4 fly sm4=>?_
  obtain ⟨k1,_,_,k4⟩ := fly
  obtain ⟨T2,F2⟩ := Oq.on F.un F.ok F.exc I2.cH I2.oS (fun b hb=>by rw [List.mem_singleton.mp hb]; exact ⟨F.off,F.new⟩) k1 (sm3.trans sm4) k4
  have I4:Ae X pins σ1 H' { s2 with heap:=h4 }:=I0.gE os bare F2
  refine wpAny_handleBy_cons (codeAny_handlers_test ?_) (by intro q; cases q)
  refine wpAny_Tuple_spliced (Ms I4 _ hn ⟨by rw [List.length_map,hn.len]; exact pR,?_⟩)
  have k5:∀ b o,h4.get? b = some o -> (h4.push { cls := .type "tuple",data := .seq (cs.map Value.ref).toArray }).get? b = some o:=fun b o e=>Heap.get?_push_of_some _ e
  have t5:(h4.push { cls := .type "tuple",data := .seq (cs.map Value.ref).toArray }).get? h4.objs.size = some { cls := .type "tuple",data := .seq (cs.map Value.ref).toArray }:=Heap.get?_push_size _ rfl
  dsimp only
  generalize h4.push { cls := .type "tuple",data := .seq (cs.map Value.ref).toArray } = h5 at k5 t5 ⊢
  have F5:=F2.kept k5
  obtain ⟨o5,vs5,e5,c5,d5⟩ := F5.cls
  have I5:Ae X pins σ1 H' { s2 with heap:=h5 }:=I0.gE os bare F5
  refine (V9 I5.lI e5 c5 t5 rfl rfl hn.all).at ?_
  show wpAny _ _ (handleBy _ _ [_]) _ _ _
  refine wpAny_handleBy_cons (codeAny_handlers_test (Calls.Name_function_global ok.kind hg (Calls.loadGlobal_global (by rw [ok.glob]; exact I5.mod.glob.keeps I5.bk) hm ?_) kA)) (by intro q; cases q)
  obtain ⟨bm,N,nm,qn,bs',hd,sn,sub,ab,col,dd,z0,z1,z2,z3,z5,mN,hC5,hN5,hni5,T5⟩ := Sn I5.lI hC
  refine wpAny_excMatches_sub_self hC5 e5 c5 (T5.hasType rfl) ?_
  show codeAny _ _ (.handlers _ [_] _) _ _
  refine codeAny_handlers_suite_as ?_
  obtain ⟨a5,tr5⟩ := F5.jA (B:=PySem.W.hideAll h5 (dY X.stack ++ a :: [T2])) (Jv (List.mem_singleton.mpr rfl))
  have hF5:h5.FunFrames (PySem.W.hideAll h5 (dY X.stack ++ a :: [T2])) (X.env :: X.outer):=by rw [<- eU]; exact Tc I5
  refine lands_againW (show Heap.FlyingW _ (X.env :: X.outer) a (.ref C) a5 h5 from ⟨fun b o q=>PySem.W.of_hideAll _ q,Hf,hF5,tr5⟩) fun h6 JO sm6=>?_
  obtain ⟨k6,_,_,k7⟩ := JO
  obtain ⟨T3,F6⟩ := Oq.on F5.un F5.ok F5.exc I5.cH I5.oS (fun b hb=>by rw [List.mem_singleton.mp hb]; exact ⟨F5.off,F5.new⟩) k6 sm6 k7
  have I6:Ae X pins σ1 H' { s2 with heap:=h6 }:=I0.gE os bare F6
  refine K4 (v := .ref a) I6 hN hi (.inl hl) rfl (fun s7 I7=>?_) (.inr hl)
  refine wpAny_mono (hu _ pins s7 _ H' _ (I7.at rfl) (hs a F.exc)) (fun f s8 q8=>?_) fun _ _ z=>z.elim
  cases f with
  | next =>
   obtain ⟨σ',H4,I8,q9⟩ := q8
   exact Z7 (I8.back ok) hN hi hl fun s9 I9=>⟨_,_,I9,q9⟩
  | brk =>
   obtain ⟨_,_,_,z⟩ := q8
   exact z.elim
  | cont =>
   obtain ⟨_,_,_,z⟩ := q8
   exact z.elim
  | ret u =>
   obtain ⟨_,_,_,_,_,z⟩ := q8
   exact z.elim
 ·cases f with
  | next=>exact wpAny_execs_nil (SP.out ok q)
  | brk=>exact SP.out ok q
  | cont=>exact SP.out ok q
  | ret u=>exact SP.out ok q
end
section
variable {X:Cx}
end
def Mu (val:Nat -> Int) (j:Nat) (m:Int):Prop:=(∃ i,i <= j /\ m = val i) /\ ∀ i,i <= j -> val i <= m
theorem Mu.up {val:Nat -> Int} {j:Nat} {m:Int} (h:Mu val j m) (b:m < val (j + 1)):Mu val (j + 1) (val (j + 1)):=by
 refine ⟨⟨j + 1,Nat.le_refl _,rfl⟩,fun i hi=>?_⟩
 rcases Nat.lt_or_ge j i with z | z
 ·have e:i = j + 1:=by omega
  rw [e]
  omega
 ·have:=h.2 i z
  omega
theorem Mu.same {val:Nat -> Int} {j:Nat} {m:Int} (h:Mu val j m) (b:¬ m < val (j + 1)):Mu val (j + 1) m:=by
 obtain ⟨⟨i0,z0,e0⟩,h2⟩ := h
 refine ⟨⟨i0,by omega,e0⟩,fun i hi=>?_⟩
 rcases Nat.lt_or_ge j i with z | z
 ·have e:i = j + 1:=by omega
  rw [e]
  omega
 ·exact h2 i z
section
variable {prog:Program} {w:World} {A:Around} {R:Result -> Shared -> Prop} {I S:Addr} {fp wr:List Addr} {n:Nat} {P:Nat -> Value -> Prop} {St:Nat -> Heap -> Prop} {val:Nat -> Int}
end
section
variable {prog:Program} {w:World} {A:Around} {E:Value -> Shared -> Prop} {s:Shared} {l:Addr}
theorem Mh {id : String} {b : Builtin} {args : Args} {Q : Value -> Shared -> Prop} (hk : builtinKind id = none) (hp : plainId id = true) (hb : entryFor table id = some b) (ha : argsOk id args)
  (hc:wpAny (model prog w) A.in1 (b args) (fun fin s'=>match fin with
   | .done f=>(match (Except.ok f:Result) with | .ok (.ret v)=>Q v s' | .ok _=>False | .error e=>E e s')
   | .again c'=>c'.quiet = true /\ codeAny (model prog w) A c' (fun r s'=>match r with | .ok (.ret v)=>Q v s' | .ok _=>False | .error e=>E e s') s') E s) :
  wpAny (model prog w) A (call (.builtin id) args.pos args.kw) Q E s:=by
 refine wpAny_call (codeAny_call_builtin hp hb ?_)
 simp only [checkBuiltinCall,hk]
 cases hs:Manifest.signature? id with
 | none=>exact wpAny_pure hc
 | some sg =>
  have h2:Bind.checkArgs id sg args = pure ():=by simpa only [argsOk,hs] using ha
  have h3:(⟨args.pos,args.kw⟩ : Args) = args:=rfl
  simp only [h3,h2]
  exact wpAny_pure hc
end
section
variable {X:Cx} {p pos IJ:Pos} {e d:Expr} {t:TA} {td:TE} {x:Str}
def ox (K:PySem.W.Frag) (t:TA) (td:TE):TE:=fun σ H Q=>t σ H fun vs H1=>Zp td jl σ H1 fun ys H2=>∃ (a:Addr) (ns:List Int) (dv:Int),vs = [.ref a] /\ ys = [.int dv] /\ Bj K H2 a (ns.map V.int) /\
 ∀ m:Int,(ns = [] -> m = dv) -> (ns ≠ [] -> m ∈ ns /\ ∀ b ∈ ns,b <= m) -> Q (.int m) H2
end
open PySem PySem.Spec PyProof.Rows PySem.SeqAt
def cc (A:Around) (s:Shared) (x y:Value) (b:Bool):Prop := ∀ (prog:Program) (w:World) (E:Value -> Shared -> Prop) (Q:Value -> Shared -> Prop),Q (.bool b) s -> wpAny (model prog w) A (richCompare .Lt x y) Q E s
theorem bo (l b : Addr) (xs ys : Array Value) (n n2 : Nat) (dd z6 : Option Addr) (sl z7 : Array (Option Value)) (e : Nat -> Bool) (r : Bool) :
  Meets (Builtin.«tuple.__lt__» ⟨[.ref l,.ref b],[]⟩)
   (fun A R s=>s.heap.get? l = some { cls := .type "tuple",dict:=dd,data := .seq xs n,slots:=sl } /\ s.heap.get? b = some { cls := .type "tuple",dict:=z6,data := .seq ys n2,slots:=z7 } /\
    (∀ j (h1:j < xs.size) (h2:j < ys.size),EqAt A.in1 s xs[j] ys[j] (e j)) /\ (∀ j (h1:j < xs.size) (h2:j < ys.size),(∀ i,i < j -> e i = true) -> e j = false -> cc A.in1 s xs[j] ys[j] r) /\
    ((∀ j,j < min xs.size ys.size -> e j = true) -> r = decide (xs.size < ys.size)) /\ R (.ok (.ret (.bool r))) s) :=
 .of_wp fun prog w A R s h=>by
  obtain ⟨hp,g,d,tk,os⟩ := s
  obtain ⟨hl,hb,he,hf,hz,h⟩ := h
  have f2:=AutoSeq1.sub_tuple_tuple
  have hZ:(xs.toList.zip ys.toList).length = min xs.size ys.size:=by simp
  wp_walk using wpAny_loadPart' hl,wpAny_loadPart' hb,wpAny_forIn_list _ (fun rest b s'=>b.1 = none /\ s' = ⟨hp,g,d,tk,os⟩ /\ ∃ i,rest = (xs.toList.zip ys.toList).drop i /\ ∀ k,k < i -> k < min xs.size ys.size -> e k = true) _
  case turn =>
   rintro ⟨y,x⟩ rest b s' ⟨oV,rfl,i,hq,hR⟩
   have aX:i < (xs.toList.zip ys.toList).length:=by
    apply Classical.byContradiction
    intro z
    rw [List.drop_of_length_le (by omega)] at hq
    cases hq
   have h1:i < xs.size:=by omega
   have h2:i < ys.size:=by omega
   rw [List.drop_eq_getElem_cons aX] at hq
   injection hq with zL lP
   have hy:y = xs[i]:=by simpa using congrArg Prod.fst zL
   have hx:x = ys[i]:=by simpa using congrArg Prod.snd zL
   subst hy hx
   refine wpAny_bind (he i h1 h2 prog w _ _ ?_)
   cases hy:e i with
   | true =>
    wp_walk
    refine ⟨rfl,rfl,i + 1,lP,fun k hk pS=>?_⟩
    by_cases z:k = i
    ·rw [z]
     exact hy
    ·exact hR k (by omega) pS
   | false =>
    have lE:=hf i h1 h2 (fun k hk=>hR k hk (by omega)) hy prog w
    wp_walk using lE _ _
    exact ⟨_,rfl,h⟩
  case fin =>
   rintro ⟨b1,b2⟩ s' ⟨oV,rfl,i,hq,hR⟩
   simp only at oV
   subst oV
   have hge:min xs.size ys.size <= i:=by
    apply Classical.byContradiction
    intro z
    rw [List.drop_eq_getElem_cons (by omega)] at hq
    cases hq
   have hr:=hz fun j hj=>hR j (by omega) hj
   wp_walk
   refine ⟨_,rfl,?_⟩
   rw [hr] at h
   simpa [Builtin.Tuple.tupleCompareSizes] using h
  case h =>
   exact ⟨rfl,rfl,0,rfl,fun k hk=>absurd hk (Nat.not_lt_zero k)⟩
mutual
def Gc:PyData -> PyData -> Bool
 | .int a,.int b=>decide (a < b)
 | .tuple xs,.tuple ys=>aN xs ys
 | _,_=>false
def aN:List PyData -> List PyData -> Bool
 | [],[]=>false
 | [],_ :: _=>true
 | _ :: _,[]=>false
 | x :: xs,y :: ys=>if PyData.eqv x y then aN xs ys else Gc x y
end
mutual
def Gd:PyData -> PyData -> Prop
 | .int _,.int _=>True
 | .tuple xs,.tuple ys=>bE xs ys
 | _,_=>False
def bE:List PyData -> List PyData -> Prop
 | x :: xs,y :: ys=>Gd x y /\ bE xs ys
 | _,_=>True
end
theorem N2:∀ (xs ys:List PyData),(∀ j,j < min xs.length ys.length -> pairEq xs ys j = true) -> aN xs ys = decide (xs.length < ys.length)
 | [],[],_=>rfl
 | [],y :: ys,_=>by simp [aN]
 | x :: xs,[],_=>by simp [aN]
 | x :: xs,y :: ys,h=>by
  have h0:PyData.eqv x y = true:=h 0 (by simp only [List.length_cons]; omega)
  have ih:=N2 xs ys fun j hj=>h (j + 1) (by simp only [List.length_cons]; omega)
  rw [aN,if_pos h0,ih]
  simp
mutual
theorem Hk : ∀ (da db : PyData) (A : Around) (s : Shared) (a b : Value) (as bs : List Addr), Reads s.heap a da as -> Reads s.heap b db bs -> da.canLay0 = true -> db.canLay0 = true -> Gd da db ->
  A.units + min da.depth db.depth < cLine -> cc A s a b (Gc da db)
 | .int x,db,A,s,_,_,_,_,ra,rb,_,_,hc,hu=>by
  cases db with
  | int y =>
   cases ra with
   | int _ t =>
    cases rb with
    | int _ u =>
     intro prog w E Q h
     exact richCompare_gives (op := .Lt) (typeIs_int s _ t) (typeIs_int s _ u) F.slot_int_lt F.entry_int_lt (F.args_int_lt_2 _ _) (gives_int_lt _ _ t u) (fun z=>nomatch z) h
  | none=>exact hc.elim
  | bool _=>exact hc.elim
  | str _=>exact hc.elim
  | list _=>exact hc.elim
  | tuple _=>exact hc.elim
  | dict _=>exact hc.elim
 | .tuple xs,db,A,s,_,_,_,_,ra,rb,ha,hb,hc,hu=>by
  cases db with
  | tuple ys =>
   cases ra with
   | @tuple l o vs n _ as₁ h1 h2 h3 h4 =>
    cases rb with
    | @tuple l' o' oU n' _ bs₁ k1 k2 k3 k4 =>
     obtain ⟨oc,od,JP,gO⟩ := o
     obtain ⟨oc',JQ,JR,uO⟩ := o'
     simp only at h2 h3 k2 k3
     subst h2 h3 k2 k3
     have n1:vs.size = xs.length:=by simpa using ReadsAll.length _ _ _ h4
     have n2:oU.size = ys.length:=by simpa using ReadsAll.length _ _ _ k4
     intro prog w E Q h
     refine richCompare_meets_room (op := .Lt) ⟨_,h1,rfl⟩ ⟨_,k1,rfl⟩ F.slot_tuple_lt F.entry_tuple_lt (F.args_tuple_lt_2 _ _) (bo l l' vs oU n n' od JQ gO uO (pairEq xs ys) (aN xs ys)) ⟨h1,k1,fun j j1 j2=>?_,fun j j1 j2 f1 f2=>?_,fun f=>?_,(fun z=>nomatch z),h⟩ (room_here hu)
     ·have:=eqAt_readsAll xs ys A.in1 s vs.toList oU.toList _ _ h4 k4 ha hb (room_in hu) j (by simpa using j1) (by simpa using j2)
      simpa using this
     ·have:=eF xs ys A.in1 s vs.toList oU.toList _ _ h4 k4 ha hb hc (room_in hu) j (by simpa using j1) (by simpa using j2) f1 f2
      simpa using this
     ·rw [n1,n2] at f ⊢
      exact N2 xs ys f
  | none=>exact hc.elim
  | bool _=>exact hc.elim
  | str _=>exact hc.elim
  | list _=>exact hc.elim
  | int _=>exact hc.elim
  | dict _=>exact hc.elim
 | .none,_,_,_,_,_,_,_,_,_,_,_,hc,_=>hc.elim
 | .bool _,_,_,_,_,_,_,_,_,_,_,_,hc,_=>hc.elim
 | .str _,_,_,_,_,_,_,_,_,_,_,_,hc,_=>hc.elim
 | .list _,_,_,_,_,_,_,_,_,_,_,_,hc,_=>hc.elim
 | .dict _,_,_,_,_,_,_,_,_,_,_,_,hc,_=>hc.elim
theorem eF : ∀ (xs ys : List PyData) (A : Around) (s : Shared) (vs ws : List Value) (as bs : List Addr), ReadsAll s.heap vs xs as -> ReadsAll s.heap ws ys bs -> PyData.canLayAll0 xs = true -> PyData.canLayAll0 ys = true -> bE xs ys ->
  A.units + min (PyData.depthAll xs) (PyData.depthAll ys) < cLine -> ∀ j (h1:j < vs.length) (h2:j < ws.length),(∀ i,i < j -> pairEq xs ys i = true) -> pairEq xs ys j = false -> cc A s vs[j] ws[j] (aN xs ys)
 | [],_,_,_,_,_,_,_,ra,_,_,_,_,_,j,h1,_,_,_=>by cases ra; exact absurd h1 (Nat.not_lt_zero _)
 | _ :: _,[],_,_,_,_,_,_,_,rb,_,_,_,_,j,_,h2,_,_=>by cases rb; exact absurd h2 (Nat.not_lt_zero _)
 | x :: xs,y :: ys,A,s,_,_,_,_,ra,rb,ca,cb,hc,hu,j,h1,h2,f1,f2=>by
  cases ra with
  | cons r1 r2 =>
   cases rb with
   | cons q1 q2 =>
    have rA:x.canLay0 = true /\ PyData.canLayAll0 xs = true:=by simpa [PyData.canLayAll0] using ca
    have rB:y.canLay0 = true /\ PyData.canLayAll0 ys = true:=by simpa [PyData.canLayAll0] using cb
    have hd:A.units + min x.depth y.depth < cLine /\ A.units + min (PyData.depthAll xs) (PyData.depthAll ys) < cLine:=by
     simp only [PyData.depthAll] at hu
     omega
    cases j with
    | zero =>
     have e:aN (x :: xs) (y :: ys) = Gc x y:=by
      have f3:PyData.eqv x y = false:=f2
      rw [aN,f3]
      rfl
     rw [e]
     exact Hk x y A s _ _ _ _ r1 q1 rA.1 rB.1 hc.1 hd.1
    | succ j =>
     have e:aN (x :: xs) (y :: ys) = aN xs ys:=by
      have f3:PyData.eqv x y = true:=f1 0 (Nat.succ_pos _)
      rw [aN,f3]
      rfl
     rw [e]
     exact eF xs ys A s _ _ _ _ r2 q2 rA.2 rB.2 hc.2 hd.2 j (Nat.lt_of_succ_lt_succ h1) (Nat.lt_of_succ_lt_succ h2) (fun i hi=>f1 (i + 1) (Nat.succ_lt_succ hi)) f2
end
section
variable {X:Cx} {k:Nat}
def ng:R2:=fun x y H Q=>∃ d e:PyData,Rp H d x /\ Rp H e y /\ Gd d e /\ d.depth <= 60 /\ Q (.bl (Gc d e)) H
theorem f8 (hr:C0 k X.A):Hw X (compareOp .Lt) ng:=by
 intro pins s σ H x y v u Q I rx ry h
 obtain ⟨d,e,h1,h2,hc,hd,q⟩ := h
 obtain ⟨as,q1⟩ := Ce I d x v h1 rx
 obtain ⟨bs,q2⟩ := Ce I e y u h2 ry
 have hu:=hr.units
 exact Hk d e X.A s v u as bs q1 q2 (Cd d x h1) (Cd e y h2) hc (by omega) _ _ _ _ ⟨.bl (Gc d e),H,I,rfl,q⟩
end
section
variable {X:Cx}
def j6 (K:PySem.W.Frag):R2:=fun x y H Q=>∃ a b xs ys,x = .ref a /\ y = .ref b /\ Ci K H a xs /\ H b = some (.tup ys) /\ ys ≠ [] /\ xs.length + ys.length <= sizeLine /\
 ∀ p H',A9 H H' -> H' p = some (.tup (xs ++ ys)) -> Q (.ref p) H'
theorem Yb (K:PySem.W.Frag) (hK:X.K = K:=by rfl):Hw X (binaryOp .Add) (j6 K):=by
 subst hK
 intro pins s σ H x y v u Q I rx ry h
 obtain ⟨a,b,xs,ys,rfl,rfl,ha,hb,hy,hz,q⟩ := h
 by_cases hx:xs = []
 ·subst hx
  cases rx
  cases ry
  obtain ⟨aH,r1,p1,_⟩ := I.tuple ha
  obtain ⟨eZ,r2,p2,_⟩ := I.tuple (Ci.of hb)
  cases r1
  obtain ⟨⟨c1,d1,t1,l1⟩,ho,hc,n,hd⟩ := p1
  obtain ⟨⟨c2,d2,t2,l2⟩,hX,iW,n2,hd2⟩ := p2
  simp only at hc hd iW hd2
  subst hc hd iW hd2
  exact concat_meets ⟨_,ho,rfl⟩ ⟨_,hX,rfl⟩ noFill_tuple_add seq_tuple_add PySem.F.slot_tuple_add PySem.F.entry_tuple_add (PySem.F.args_tuple_add_2 _ _) (tuple_addW0 a b _ _ n n2 d1 d2 l1 l2 rfl) ⟨ho,hX,.ref b,H,I,rfl,q b H (A9.refl H) hb⟩
 ·exact Y1 pins s σ H _ _ v u Q I rx ry ⟨a,b,xs,ys,rfl,rfl,ha,Ci.of hb,hx,hz,fun e=>absurd e hy,fun _ p hp=>q p _ (A9.upd hp) A5⟩
end
def W8 (h:Heap) (a t:Addr) (i:Int):Prop := ∃ o,h.get? a = some o /\ o.cls = .type "reversed" /\ o.data = .fields #[.ref t,rawInt i]
section
variable {prog:Program} {w:World} {A:Around} {E:Value -> Shared -> Prop} {s:Shared}
theorem W8.ty {a t:Addr} {i:Int} (x:W8 s.heap a t i):s.TypeIs (.ref a) "reversed" := let ⟨o,ho,hc,_⟩ := x; ⟨o,ho,hc⟩
theorem W8.at {h h':Heap} {a t:Addr} {i:Int} (x:W8 h a t i) (e:∀ o,h.get? a = some o -> h'.get? a = some o):W8 h' a t i:=let ⟨o,ho,r⟩ := x; ⟨o,e _ ho,r⟩
end
def lj (t:Addr) (i:Int):Obj:={ cls := .type "reversed",data := .fields #[.ref t,rawInt i] }
section
variable {prog:Program} {w:World} {A:Around} {E:Value -> Shared -> Prop} {s:Shared}
end
def se (K:PySem.W.Frag) (a:Addr) (xs:List V):It :=
 ⟨fun i H=>Ci K H a xs /\ i < xs.length,fun i H x H'=>H' = H /\ xs.reverse[i]? = some x,fun i H=>Ci K H a xs /\ xs.length <= i⟩
def t0 (K:PySem.W.Frag) (ta:TA):TI:=fun σ H R=>ta σ H fun vs H1=>∃ t xs,vs = [.ref t] /\ Ci K H1 t xs /\ R (se K t xs) H1
section
variable {X:Cx} {tg:Expr}
end
section
variable {P:Program} {w:World} {A:Around} {E:Value -> Shared -> Prop} {s:Shared}
end
section
variable {X:Cx}
def kf (K:PySem.W.Frag) (ta:TA):TE:=fun σ H Q=>ta σ H fun vs H1=>∃ l xs,vs = [.ref l] /\ Bj K H1 l xs /\ ∀ d,H1 d = none -> Q (.ref d) (upd H1 d (.tup xs.reverse))
end
section
variable {X:Cx}
end
section
variable {prog:Program} {w:World} {A:Around} {E:Value -> Shared -> Prop} {I:Addr} {fp wr:List Addr} {St:Nat -> Heap -> Prop} {items:Array Value}
end
section
variable {X:Cx} {pos:Pos}
def sd (K:PySem.W.Frag) (n:Nat) (t:Z4):TG:=fun v σ H Q=>∃ a xs,v = .ref a /\ Bj K H a xs /\ xs.length = n /\ t xs σ H Q
end
open PySem.W (Looks)
section
variable {prog:Program} {w:World} {A:Around} {E:Value -> Shared -> Prop} {K:PySem.W.Frag} {x C:Addr} {h:Heap} {g:Array GenState} {d:Drawn} {t:Nat} {os:OsState}
structure g0 (K:PySem.W.Frag) (C:Addr):Prop where
 ga:PySem.W.findIn K (.ref C) "__getattribute__" = some (some (.builtin "BaseException.__getattribute__"))
 gt:PySem.W.findIn K (.ref C) "__getattr__" = some none
 cl:PySem.W.findIn K (.ref C) "__class__" = some (some (.builtin "object.__class__"))
 gs:PySem.W.specialIn K (.builtin "object.__class__") "__get__" = some (some (.builtin "getset_descriptor.__get__"))
 tk:PySem.W.takesIn K (.builtin "object.__class__") = some true
 ob:PySem.W.mroIn K C (.type "object") = some true
 be:PySem.W.subIn K (.ref C) (.type "BaseException") = some true
end
section
variable {X:Cx}
def ol (K:PySem.W.Frag):List V -> Hp -> VK -> Prop:=fun xs H Q=>∃ (a C:Addr) (c:Value) (v:V) (b:Bool),xs = [.ref a,v] /\ H a = some (.ext (Da a (.ref C))) /\ (∀ u,Ao v u -> u = c) /\ g0 K C /\ PySem.W.kitOne K (.ref C) c = some b /\ Q (.bl b) H
end
open PySem.W (Looks)
section
variable {X:Cx}
def r9 (K:PySem.W.Frag) (tu:TS) (Y:Addr) (i:Nat) (D:Go):St -> XK -> Prop:=fun σ1 E=>∀ cls H',E cls none H' -> ∃ C,cls = .ref C /\ PySem.W.subIn K (.ref C) (.ref Y) = some true /\ ∀ a,H' a = some (.ext (Da a (.ref C))) ->
 tu { nx:=fun σ' H4=>D.nx (σ'.set i none) H4,rt:=fun _ _=>False } (σ1.set i (some (.ref a))) H'
def oz (K:PySem.W.Frag) (tb:(St -> XK -> Prop) -> TS) (tu:TS) (Y:Addr) (i:Nat):TS:=fun D σ H=>tb (r9 K tu Y i D) D σ H
end
section
variable {X:Cx}
def r6 (i j:Int):Prop:=0 <= j /\ ((intBits i:Nat):Int) + j <= 2 ^ 27
end
section
variable {prog:Program} {w:World} {A:Around} {E:Value -> Shared -> Prop} {s:Shared} {l:Addr} {xs:Array (Int × Tok)}
end
section
variable {X:Cx}
end
section
variable {X:Cx}
def qd (K:PySem.W.Frag):R2:=fun x y H Q=>∃ a b xs ys,x = .ref a /\ y = .ref b /\ H a = some (.tup xs) /\ H b = some (.tup ys) /\ xs.length + ys.length <= sizeLine /\
 ∀ p H',A9 H H' -> H' p = some (.tup (xs ++ ys)) -> Q (.ref p) H'
end
structure uh (K:PySem.W.Frag) (C:Addr):Prop where
 makes:PySem.W.makesIn K C = true
 init:PySem.W.findIn K (.ref C) "__init__" = some (some (.builtin "object.__init__"))
 kp:PySem.W.keepIn K (.ref C) = true
def l6 (C:Addr):TE:=fun σ H Q=>∀ x dx,H x = none -> H dx = none -> dx ≠ x -> Q (.ref x) (upd (upd H dx (.own x)) x (.ins C dx []))
section
variable {X:Cx} {C:Addr} {x:Str} {p pos:Pos}
end
section
variable {K:PySem.W.Frag} {x C:Addr}
theorem Ma:∀ (as:List Addr) (us:List Value),An (as.map V.ref) us -> us = as.map Value.ref
 | [],us,r=>by
  cases r
  rfl
 | a :: as,us,r=>by
  cases r with
  | cons h t =>
   cases (show _ = Value.ref a from h)
   rw [Ma as _ t]
   rfl
end
section
variable {X:Cx}
def o7 (K:PySem.W.Frag):List V -> Hp -> VK -> Prop:=fun xs H Q=>∃ (a C tp:Addr) (as:List Addr) (b:Bool),xs = [.ref a,.ref tp] /\ H a = some (.ext (Da a (.ref C))) /\ H tp = some (.tup (as.map V.ref)) /\ g0 K C /\ Y2 K C /\
 PySem.W.kitAny K (.ref C) (as.map Value.ref) = some b /\ Q (.bl b) H
end
section
variable {X:Cx}
def jv (K:PySem.W.Frag):V -> List V -> Hp -> VK -> Prop:=fun x vs H Q=>∃ (l:Addr) (ns:List Int) (y:Int) (j:Nat),x = .ref l /\ vs = [.int y] /\ Ci K H l (ns.map V.int) /\ ns[j]? = some y /\ (∀ m,m < j -> ns[m]? ≠ some y) /\ Q (.int (j:Nat)) H
end
section
variable {X:Cx}
end
section
variable {X:Cx} {tg:Expr}
def qg (ta:TA):TI:=fun σ H R=>ta σ H fun vs H1=>∃ i j:Int,vs = [.int i,.int j,.int (-1)] /\ (-(2 ^ 60) <= i /\ i < 2 ^ 60 /\ -(2 ^ 60) <= j /\ j < 2 ^ 60) /\ R (qf i (-1) (i - j).toNat) H1
end
section
variable {κ:Type} [DecidableEq κ]
def Af (kvs:List (κ × V)) (k:κ):Option V:=(kvs.find? fun kv=>decide (kv.1 = k)).map (·.2)
def Bc (kvs:List (κ × V)) (k:κ) (v:V):List (κ × V) :=
 if (kvs.any fun kv=>decide (kv.1 = k)) = true then kvs.map (fun kv=>if kv.1 = k then (kv.1,v) else kv) else kvs ++ [(k,v)]
def Ba (kvs:List (κ × V)) (k:κ):List (κ × V):=kvs.filter fun kv=>decide (kv.1 ≠ k)
theorem Bn {p:κ × V} {r:List (κ × V)} {k:κ} (e:p.1 = k):Af (p :: r) k = some p.2:=by simp [Af,List.find?_cons,e]
theorem Bo {p:κ × V} {r:List (κ × V)} {k:κ} (e:¬ p.1 = k):Af (p :: r) k = Af r k:=by simp [Af,List.find?_cons,e]
theorem D6 (k:κ):∀ kvs:List (κ × V),(kvs.any fun kv=>decide (kv.1 = k)) = (Af kvs k).isSome
 | []=>rfl
 | p :: r=>by
  rw [List.any_cons]
  by_cases e:p.1 = k
  ·simp only [Bn e,decide_eq_true e,Bool.true_or,Option.isSome_some]
  ·rw [Bo e,decide_eq_false e,Bool.false_or]; exact D6 k r
theorem Px (k j:κ) (y:V):∀ kvs:List (κ × V),Af (kvs.map fun kv=>if kv.1 = k then (kv.1,y) else kv) j = (Af kvs j).map fun x=>if j = k then y else x
 | []=>rfl
 | p :: r=>by
  have ih:=Px k j y r
  rw [List.map_cons]
  by_cases h:p.1 = k
  ·rw [if_pos h]
   by_cases e:p.1 = j
   ·rw [Bn (p:=(p.1,y)) e,Bn e,Option.map_some,if_pos (e.symm.trans h)]
   ·rw [Bo (p:=(p.1,y)) e,Bo e,ih]
  ·rw [if_neg h]
   by_cases e:p.1 = j
   ·rw [Bn (p:=p) e,Bn e,Option.map_some,if_neg (fun z=>h (e.trans z))]
   ·rw [Bo (p:=p) e,Bo e,ih]
theorem N9 (k j:κ) (y:V):∀ kvs:List (κ × V),Af kvs k = none -> Af (kvs ++ [(k,y)]) j = if j = k then some y else Af kvs j
 | [],_=>by
  by_cases e:k = j
  ·rw [if_pos e.symm]; exact Bn (p:=(k,y)) e
  ·rw [if_neg (fun z=>e z.symm)]; exact Bo (p:=(k,y)) e
 | p :: r,hn=>by
  rw [List.cons_append]
  have hk:¬ p.1 = k:=fun z=>by rw [Bn z] at hn; cases hn
  rw [Bo hk] at hn
  have ih:=N9 k j y r hn
  by_cases e:p.1 = j
  ·rw [Bn e,Bn e,if_neg (fun z=>hk (e.trans z))]
  ·rw [Bo e,Bo e,ih]
theorem Fm (kvs:List (κ × V)) (k j:κ) (y:V):Af (Bc kvs k y) j = if j = k then some y else Af kvs j:=by
 unfold Bc
 by_cases a:(kvs.any fun kv=>decide (kv.1 = k)) = true
 ·rw [if_pos a,Px]
  rw [D6] at a
  by_cases e:j = k
  ·obtain ⟨x,hx⟩ := Option.isSome_iff_exists.mp a
   rw [if_pos e,e,hx,Option.map_some,if_pos rfl]
  ·rw [if_neg e]
   cases Af kvs j with
   | none=>rfl
   | some x=>rw [Option.map_some,if_neg e]
 ·rw [if_neg a]
  refine N9 k j y kvs ?_
  rw [D6] at a
  cases q:Af kvs k with
  | none=>rfl
  | some x=>rw [q] at a; exact (a rfl).elim
theorem D5 (kvs:List (κ × V)) (k:κ) (v:V):(Bc kvs k v).length <= kvs.length + 1:=by
 unfold Bc
 split
 ·rw [List.length_map]; omega
 ·rw [List.length_append,List.length_cons,List.length_nil]; omega
theorem De {kvs:List (κ × V)} {k:κ} (v:V) (h:Af kvs k = none):Bc kvs k v = kvs ++ [(k,v)]:=by
 unfold Bc
 rw [D6,h]
 exact if_neg (by decide)
theorem Ir.bN {o:Option V} {u:Option Value} (r:Ir o u):o.isSome = u.isSome:=by
 cases o with
 | none=>cases u with
  | none=>rfl
  | some _=>exact (show False from r).elim
 | some _=>cases u with
  | none=>exact (show False from r).elim
  | some _=>rfl
theorem Ir.getD {o:Option V} {u:Option Value} {d:V} {d':Value} (r:Ir o u) (rd:Ao d d'):Ao (o.getD d) (u.getD d'):=by
 cases o with
 | none=>cases u with
  | none=>exact rd
  | some _=>exact (show False from r).elim
 | some _=>cases u with
  | none=>exact (show False from r).elim
  | some _=>exact r
theorem KV.val {kvs:List (κ × V)} {vs:List (κ × Value)} (r:KV kvs vs) (k:κ):Ir (Af kvs k) (valueAt vs k):=by
 unfold KV at r
 induction r with
 | nil=>exact True.intro
 | @cons p q ps qs h t ih =>
  obtain ⟨h1,h2⟩ := h
  by_cases e:p.1 = k
  ·have e':q.1 = k:=h1.symm.trans e
   have b:valueAt (q :: qs) k = some q.2:=by simp [valueAt,List.find?_cons,e']
   rw [Bn e,b]; exact h2
  ·have e':¬ q.1 = k:=fun z=>e (h1.trans z)
   have b:valueAt (q :: qs) k = valueAt qs k:=by simp [valueAt,List.find?_cons,e']
   rw [Bo e,b]; exact ih
theorem KV.any {kvs:List (κ × V)} {vs:List (κ × Value)} (r:KV kvs vs) (k:κ):(kvs.any fun kv=>decide (kv.1 = k)) = vs.any fun kv=>decide (kv.1 = k):=by
 unfold KV at r
 induction r with
 | nil=>rfl
 | cons h t ih=>rw [List.any_cons,List.any_cons,ih,h.1]
theorem KV.uP {kvs : List (κ × V)} {vs : List (κ × Value)} (r : KV kvs vs) (k : κ) {y : V} {u : Value} (ry : Ao y u) :
  KV (kvs.map fun kv=>if kv.1 = k then (kv.1,y) else kv) (vs.map fun kv=>if kv.1 = k then (kv.1,u) else kv):=by
 unfold KV at r ⊢
 induction r with
 | nil=>exact .nil
 | @cons p q ps qs h t ih =>
  rw [List.map_cons,List.map_cons]
  refine .cons ?_ ih
  obtain ⟨h1,h2⟩ := h
  by_cases e:p.1 = k
  ·rw [if_pos e,if_pos (h1.symm.trans e)]; exact ⟨h1,ry⟩
  ·rw [if_neg e,if_neg (fun z=>e (h1.trans z))]; exact ⟨h1,h2⟩
theorem KV.put {kvs:List (κ × V)} {vs:List (κ × Value)} (r:KV kvs vs) (k:κ) {y:V} {u:Value} (ry:Ao y u):KV (Bc kvs k y) (stored vs k u):=by
 unfold Bc stored
 rw [r.any k]
 by_cases e:(vs.any fun kv=>decide (kv.1 = k)) = true
 ·rw [if_pos e,if_pos e]; exact r.uP k ry
 ·rw [if_neg e,if_neg e]; exact Paired.snoc r ⟨rfl,ry⟩
theorem KV.drop {kvs:List (κ × V)} {vs:List (κ × Value)} (r:KV kvs vs) (k:κ):KV (Ba kvs k) (without vs k):=by
 unfold KV at r ⊢
 unfold Ba without
 induction r with
 | nil=>exact .nil
 | @cons p q ps qs h t ih =>
  obtain ⟨h1,h2⟩ := h
  rw [List.filter_cons,List.filter_cons]
  by_cases e:p.1 = k
  ·have a:¬ decide (p.1 ≠ k) = true:=by simp [e]
   have b:¬ decide (q.1 ≠ k) = true:=by simp [h1.symm.trans e]
   rw [if_neg a,if_neg b]; exact ih
  ·have e':¬ q.1 = k:=fun z=>e (h1.trans z)
   have a:decide (p.1 ≠ k) = true:=by simp [e]
   have b:decide (q.1 ≠ k) = true:=by simp [e']
   rw [if_pos a,if_pos b]; exact .cons ⟨h1,h2⟩ ih
theorem KV.keys {kvs:List (κ × V)} {vs:List (κ × Value)} (r:KV kvs vs):kvs.map (·.1) = vs.map (·.1):=by
 unfold KV at r
 induction r with
 | nil=>rfl
 | cons h t ih=>rw [List.map_cons,List.map_cons,ih,h.1]
theorem KV.length {kvs:List (κ × V)} {vs:List (κ × Value)} (r:KV kvs vs):kvs.length = vs.length:=Paired.length r
theorem K2 (kvs:List (κ × V)) (k:κ):(Ba kvs k).length <= kvs.length:=List.length_filter_le _ _
end
theorem Lp {P:Program} {w:World} {k:Ct} {u:Value} (r:Ao (kV k) u):(Cp P w).is k u = true:=by
 cases k with
 | inl i=>obtain ⟨t,e⟩ := (show ∃ t,u = Value.int i t from r); subst e; exact P1 P w i t
 | inr x=>obtain ⟨t,e⟩ := (show ∃ t,u = Value.str x t from r); subst e; exact Pq P w x t
abbrev KT (H:Hp):List ((List Int × Int) × V) -> List ((List Int × Int) × Addr × Value) -> Prop:=Paired fun p q=>p.1 = q.1 /\ F4 H q.2.1 p.1 /\ Ao p.2 q.2.2
theorem KT.val {H:Hp} {kvs:List ((List Int × Int) × V)} {xs:List ((List Int × Int) × Addr × Value)} (r:KT H kvs xs) (k:(List Int × Int)):Ir (Af kvs k) ((atKey xs k).map (·.2)):=by
 induction r with
 | nil=>exact True.intro
 | @cons p q ps qs h t ih =>
  obtain ⟨h1,_,h2⟩ := h
  by_cases e:p.1 = k
  ·have e':q.1 = k:=h1.symm.trans e
   have b:atKey (q :: qs) k = some q.2:=by simp [atKey,List.find?_cons,e']
   rw [Bn e,b]; exact h2
  ·have e':¬ q.1 = k:=fun z=>e (h1.trans z)
   have b:atKey (q :: qs) k = atKey qs k:=by simp [atKey,List.find?_cons,e']
   rw [Bo e,b]; exact ih
theorem KT.uP {H : Hp} {kvs : List ((List Int × Int) × V)} {xs : List ((List Int × Int) × Addr × Value)} (r : KT H kvs xs) (k : (List Int × Int)) {y : V} {u : Value} (ry : Ao y u) :
  KT H (kvs.map fun kv=>if kv.1 = k then (kv.1,y) else kv) (xs.map (putAt k u)):=by
 induction r with
 | nil=>exact .nil
 | @cons p q ps qs h t ih =>
  rw [List.map_cons,List.map_cons]
  refine .cons ?_ ih
  obtain ⟨h1,h2,h3⟩ := h
  unfold putAt
  by_cases e:p.1 = k
  ·rw [if_pos e,if_pos (h1.symm.trans e)]; exact ⟨h1,h2,ry⟩
  ·rw [if_neg e,if_neg (fun z=>e (h1.trans z))]; exact ⟨h1,h2,h3⟩
theorem KT.put {H : Hp} {kvs : List ((List Int × Int) × V)} {xs : List ((List Int × Int) × Addr × Value)} (r : KT H kvs xs) (k : (List Int × Int)) {b : Addr} {y : V} {u : Value} (hb : F4 H b k) (ry : Ao y u) :
  KT H (Bc kvs k y) (storedH xs k b u):=by
 have e:(kvs.any fun kv=>decide (kv.1 = k)) = (atKey xs k).isSome:=by
  rw [D6,(r.val k).bN,Option.isSome_map]
 unfold Bc storedH
 rw [e]
 by_cases q:(atKey xs k).isSome = true
 ·rw [if_pos q,if_pos q]; exact r.uP k ry
 ·rw [if_neg q,if_neg q]; exact Paired.snoc r ⟨rfl,hb,ry⟩
theorem KT.keeps {H H':Hp} {kvs:List ((List Int × Int) × V)} {xs:List ((List Int × Int) × Addr × Value)} (r:KT H kvs xs) (ht:∀ b ys,H b = some (.tup ys) -> H' b = some (.tup ys)):KT H' kvs xs :=
 Paired.zr r fun _ _ z=>⟨z.1,z.2.1.up ht,z.2.2⟩
section
variable {P:Program} {w:World} {H:Hp} {h:Heap} {a:Addr}
theorem Ze {u:HO} (ok:Fe P w H h) (e:Rd H a u):Bg P w H h a u:=e.ok ok
theorem Iv {kvs:List (Ct × V)} (ok:Fe P w H h) (e:Rd H a (.dK kvs)):kvs.length <= sizeLine /\ (a == sysModules) = false /\ ∃ vs,KV kvs vs /\ h.DictOf (Cp P w) a vs :=
 show Bg P w H h a (.dK kvs) from Ze ok e
theorem Zl {kvs:List (Ct × V)} (ok:Fe P w H h) (e:H a = some (.dK kvs)):kvs.length <= sizeLine /\ (a == sysModules) = false /\ ∃ vs,KV kvs vs /\ h.DictOf (Cp P w) a vs:=Iv ok (.inl e)
theorem Q8 {P:Program} {w:World}:∀ {ks:List Int} {us:List Value},An (ks.map V.int) us -> ItemsAre (intKind P w) ks us
 | [],us,r=>by
  cases r
  exact .nil
 | k :: ks,us,r=>by
  cases r with
  | cons h t =>
   obtain ⟨tk,rfl⟩ := h
   exact .cons (by simp [intKind,Value.isInt]) (Q8 t)
theorem D0 {P:Program} {w:World} {A:Around} (hu:A.units + 20 < cLine):(C7 P w).room A.in1:=by
 first | (show A.units + 1 + 8 < cLine; omega) | (show A.units + 8 < cLine; omega)
theorem Gp {ks:List Int × Int} (ok:Fe P w H h) (e:F4 H a ks):(C7 P w).is h ks a:=by
 obtain ⟨u,e1,e2⟩ := e
 obtain ⟨_,aH,r,o,h1,h2,n,h3⟩ := (show Bg P w H h a (.tup [.ref u,.int ks.2]) from ok a _ e1)
 obtain ⟨_,eZ,r2,o2,g1,g2,m,g3⟩ := (show Bg P w H h u (.tup (ks.1.map V.int)) from ok u _ e2)
 cases r with
 | cons r1 rr =>
  cases rr with
  | cons r3 rr =>
   cases rr
   cases (show _ = Value.ref u from r1)
   obtain ⟨t,rfl⟩ := r3
   exact ⟨o,n,u,t,h1,h2,h3,o2,eZ.toArray,m,g1,g2,g3,by simpa using Q8 r2⟩
theorem La {kvs : List ((List Int × Int) × V)} (ok : Fe P w H h) (e : Rd H a (.dT kvs)) : kvs.length <= sizeLine /\ (a == sysModules) = false /\
  ∃ xs,KT H kvs xs /\ h.DictOfH (C7 P w) a xs:=by
 obtain ⟨z,y,xs,r,o,es,ep,h1,h2,h3,h4,h5⟩ := (show Bg P w H h a (.dT kvs) from Ze ok e)
 refine ⟨z,y,xs,r,o,es,ep,h1,h2,h3,h4,fun x hx=>?_,h5⟩
 have all:∀ {l:List ((List Int × Int) × V)} {m:List ((List Int × Int) × Addr × Value)},KT H l m -> ∀ x ∈ m,(C7 P w).is h x.1 x.2.1:=by
  intro l m q
  induction q with
  | nil=>intro x hx; exact nomatch hx
  | @cons p q ps qs hq t ih =>
   intro x hx
   rcases List.mem_cons.mp hx with e | hx
   ·subst e
    exact Gp ok (by rw [<- hq.1]; exact hq.2.1)
   ·exact ih x hx
 exact all r x hx
theorem Zj {kvs : List ((List Int × Int) × V)} (ok : Fe P w H h) (e : H a = some (.dT kvs)) : kvs.length <= sizeLine /\ (a == sysModules) = false /\
  ∃ xs,KT H kvs xs /\ h.DictOfH (C7 P w) a xs:=La ok (.inl e)
end
def D8 (H:Hp) (a:Addr) (y:V) (r:Option V):Prop :=
 (∃ kvs k,Rd H a (.dK kvs) /\ y = kV k /\ r = Af kvs k) \/ ∃ kvs k b,Rd H a (.dT kvs) /\ y = .ref b /\ F4 H b k /\ r = Af kvs k
def Ll (H:Hp) (a:Addr) (y v:V) (H':Hp):Prop :=
 (∃ kvs k,H a = some (.dK kvs) /\ y = kV k /\ kvs.length < sizeLine /\ H' = upd H a (.dK (Bc kvs k v))) \/
 ∃ kvs k b,H a = some (.dT kvs) /\ y = .ref b /\ F4 H b k /\ kvs.length < sizeLine /\ H' = upd H a (.dT (Bc kvs k v))
theorem D8.k {H:Hp} {a:Addr} {kvs:List (Ct × V)} {k:Ct} (e:H a = some (.dK kvs)):D8 H a (kV k) (Af kvs k) := .inl ⟨kvs,k,.inl e,rfl,rfl⟩
theorem D8.t {H:Hp} {a b:Addr} {kvs:List ((List Int × Int) × V)} {k:(List Int × Int)} (e:H a = some (.dT kvs)) (eb:F4 H b k):D8 H a (.ref b) (Af kvs k) := .inr ⟨kvs,k,b,.inl e,rfl,eb,rfl⟩
theorem Ll.k {H:Hp} {a:Addr} {kvs:List (Ct × V)} {k:Ct} {v:V} (e:H a = some (.dK kvs)) (hl:kvs.length < sizeLine):Ll H a (kV k) v (upd H a (.dK (Bc kvs k v))) := .inl ⟨kvs,k,e,rfl,hl,rfl⟩
theorem Ll.t {H : Hp} {a b : Addr} {kvs : List ((List Int × Int) × V)} {k : (List Int × Int)} {v : V} (e : H a = some (.dT kvs)) (eb : F4 H b k) (hl : kvs.length < sizeLine) :
  Ll H a (.ref b) v (upd H a (.dT (Bc kvs k v))) := .inr ⟨kvs,k,b,e,rfl,eb,hl,rfl⟩
section
variable {X:Cx} {pins:List (Addr × Obj)} {σ:St} {H:Hp} {s:Shared} {a:Addr} {y v:V} {u r:Value} {o:Option V} {A:Around} {E:Value -> Shared -> Prop}
theorem Ae.big (I:Ae X pins σ H s):sysModules < s.heap.objs.size:=by
 have h:mainGlobals < s.heap.objs.size:=(I.mod.glob.keeps I.bk).lt
 exact Nat.lt_trans (by decide) h
theorem Ud {Q : Value -> Shared -> Prop} (hu : A.units + 20 < cLine) (I : Ae X pins σ H s) (g : D8 H a y (some v)) (ry : Ao y u) (h : ∀ w' s', Ae X pins σ H s' -> Ao v w' -> Q w' s') :
  wpAny (model X.prog X.w) A (getItem (.ref a) u) Q E s:=by
 rcases g with ⟨kvs,k,e,ey,l⟩ | ⟨kvs,k,b,e,ey,eb,l⟩
 ·subst ey
  obtain ⟨z,hd,vs,rel,dd⟩ := Iv I.aR e
  obtain ⟨w',hw,iA⟩ := Ir.some_of (v:=v) (o:=valueAt vs k) (by rw [l]; exact rel.val k)
  exact wpAny_getItem_of (Lp ry) dd.mapOf hw (h w' _ (I.tok _) iA)
 ·subst ey
  cases (show u = Value.ref b from ry)
  obtain ⟨z,hd,xs,rel,dd⟩ := La I.aR e
  obtain ⟨w',hw,iA⟩ := Ir.some_of (v:=v) (o:=(atKey xs k).map (·.2)) (by rw [l]; exact rel.val k)
  obtain ⟨p,hp,zM⟩ := Option.map_eq_some_iff.mp hw
  refine wpAny_getItem_heap (D0 hu) (Gp I.aR eb) dd hp ?_
  rw [zM]
  exact h w' _ (I.tok _) iA
theorem lf {Q : Value -> Shared -> Prop} (hu : A.units + 20 < cLine) (I : Ae X pins σ H s) (g : D8 H a y o) (ry : Ao y u) (h : ∀ s', Ae X pins σ H s' -> Q (.bool o.isSome) s') :
  wpAny (model X.prog X.w) A (compareOp .In u (.ref a)) Q E s:=by
 rcases g with ⟨kvs,k,e,ey,l⟩ | ⟨kvs,k,b,e,ey,eb,l⟩
 ·subst ey
  obtain ⟨z,hd,vs,rel,dd⟩ := Iv I.aR e
  refine wpAny_in_of (Lp ry) hd dd.mapOf ?_
  rw [<- (rel.val k).bN,<- l]
  exact h _ (I.tok _)
 ·subst ey
  cases (show u = Value.ref b from ry)
  obtain ⟨z,hd,xs,rel,dd⟩ := La I.aR e
  refine wpAny_in_heap (D0 hu) (Gp I.aR eb) hd dd ?_
  have q:=(rel.val k).bN
  rw [Option.isSome_map] at q
  rw [<- q,<- l]
  exact h _ (I.tok _)
theorem Yi {Q : Value -> Shared -> Prop} (hu : A.units + 20 < cLine) (I : Ae X pins σ H s) (g : D8 H a y o) (ry : Ao y u) (h : ∀ s', Ae X pins σ H s' -> Q (.bool (!o.isSome)) s') :
  wpAny (model X.prog X.w) A (compareOp .NotIn u (.ref a)) Q E s:=by
 rcases g with ⟨kvs,k,e,ey,l⟩ | ⟨kvs,k,b,e,ey,eb,l⟩
 ·subst ey
  obtain ⟨z,hd,vs,rel,dd⟩ := Iv I.aR e
  refine wpAny_notIn_of (Lp ry) hd dd.mapOf ?_
  rw [<- (rel.val k).bN,<- l]
  exact h _ (I.tok _)
 ·subst ey
  cases (show u = Value.ref b from ry)
  obtain ⟨z,hd,xs,rel,dd⟩ := La I.aR e
  refine wpAny_notIn_heap (D0 hu) (Gp I.aR eb) hd dd ?_
  have q:=(rel.val k).bN
  rw [Option.isSome_map] at q
  rw [<- q,<- l]
  exact h _ (I.tok _)
theorem Jl {h' : Heap} {t' : Nat} {ob : HO} (I : Ae X pins σ H s) (mu : i7 (H a)) (hs : Heap.SameBut a s.heap h') (he : ∃ q, h'.get? a = some q) (new : Bg X.prog X.w (upd H a ob) h' a ob) :
  Ae X pins σ (upd H a ob) { s with heap:=h',toks:=t' } :=
 I.write (x:=a) (e:=a) mu (.inl rfl) (fun b q hb z=>(hs.2 b hb).trans z) he new
theorem V8 {P : Program} {w : World} {H' : Hp} {h' : Heap} {kvs : List (Ct × V)} {vs : List (Ct × Value)} (z : kvs.length <= sizeLine) (hd : (a == sysModules) = false) (rel : KV kvs vs) (dd : h'.DictOf (Cp P w) a vs) :
  Bg P w H' h' a (.dK kvs):=⟨z,hd,vs,rel,dd⟩
theorem Tz {H' : Hp} {Q : Unit -> Shared -> Prop} (hu : A.units + 20 < cLine) (I : Ae X pins σ H s) (g : Ll H a y v H') (ry : Ao y u) (rv : Ao v r) (h : ∀ s', Ae X pins σ H' s' -> Q () s') :
  wpAny (model X.prog X.w) A (setItem (.ref a) u r) Q E s:=by
 rcases g with ⟨kvs,k,e,ey,l,eH⟩ | ⟨kvs,k,b,e,ey,eb,l,eH⟩
 ·subst ey eH
  obtain ⟨z,hd,vs,rel,dd⟩ := Zl I.aR e
  have hz:vs.length <= sizeLine:=by rw [<- rel.length]; exact z
  have hl:(Bc kvs k v).length <= sizeLine:=by have:=D5 kvs k v; omega
  refine wpAny_setItem_pairs (hsz:=hz) (Lp ry) dd fun h' pT hs=>h _ ?_
  have he:∃ q,h'.get? a = some q:=let ⟨q,_,_,hq,_⟩ := pT; ⟨q,hq⟩
  exact Jl I (by rw [e]; exact True.intro) hs he (V8 hl hd (rel.put k rv) pT)
 ·subst ey eH
  cases (show u = Value.ref b from ry)
  obtain ⟨z,hd,xs,rel,dd⟩ := Zj I.aR e
  have hz:xs.length <= sizeLine:=by rw [<- Paired.length rel]; exact z
  have hl:(Bc kvs k v).length <= sizeLine:=by have:=D5 kvs k v; omega
  refine wpAny_setItem_heap (hsz:=hz) (D0 hu) (Gp I.aR eb) dd fun h' pT hs=>h _ ?_
  obtain ⟨q,es,ep,hq,h2,h3,h4,_,h5⟩ := pT
  refine Jl I (by rw [e]; exact True.intro) hs ⟨q,hq⟩ ⟨hl,hd,_,(rel.put k eb rv).keeps fun c ys ec=>?_,q,es,ep,hq,h2,h3,h4,h5⟩
  rw [Aa (Bh ec e (fun z=>nomatch z))]
  exact ec
end
section
variable {X:Cx} {pins:List (Addr × Obj)} {σ:St} {H:Hp} {s:Shared} {a:Addr} {kvs:List (Ct × V)} {k:Ct} {u:Value} {A:Around} {E:Value -> Shared -> Prop}
theorem i5 {v : V} {more : List Value} {Q : Value -> Shared -> Prop} (I : Ae X pins σ H s) (e : H a = some (.dK kvs)) (ry : Ao (kV k) u) (l : Af kvs k = some v) (hm : more = [] \/ ∃ x, more = [x])
  (h:∀ w' s',Ae X pins σ (upd H a (.dK (Ba kvs k))) s' -> Ao v w' -> Q w' s'):wpAny (model X.prog X.w) A (call (.builtin "dict.pop") (.ref a :: u :: more)) Q E s:=by
 obtain ⟨z,hd,vs,rel,dd⟩ := Zl I.aR e
 obtain ⟨w',hw,iA⟩ := Ir.some_of (v:=v) (o:=valueAt vs k) (by rw [<- l]; exact rel.val k)
 have hp:(keyPart u).isSome = true:=by
  cases k with
  | inl i=>obtain ⟨t,q⟩ := (show ∃ t,u = Value.int i t from ry); subst q; rfl
  | inr x=>obtain ⟨t,q⟩ := (show ∃ t,u = Value.str x t from ry); subst q; rfl
 have ha:argsOk "dict.pop" ⟨.ref a :: u :: more,[]⟩ := by
  rcases hm with q | ⟨x,q⟩
  ·subst q; exact PySem.F.args_dict_pop_2 _ _
  ·subst q; exact PySem.F.args_dict_pop_3 _ _ _
 refine call_meetsIn PySem.F.slot_dict_pop dd.typeIs PySem.F.entry_dict_pop ha (meets_dict_pop_there (Cp X.prog X.w) a (Lp ry) more hm hp)
  ⟨vs,w',dd,by rw [<- rel.length]; exact z,hw,fun h' pT hs=>h w' _ ?_ iA⟩
 have he:∃ q,h'.get? a = some q:=let ⟨q,_,_,hq,_⟩ := pT; ⟨q,hq⟩
 exact Jl I (by rw [e]; exact True.intro) hs he (V8 (Nat.le_trans (K2 kvs k) z) hd (rel.drop k) pT)
end
def j8 (i:Expr):Prop := ∀ ov iv,subscripted i false ov iv = operate [ov,iv] (getItem ov iv)
theorem Zb {prog : Program} {w : World} {A : Around} {E : Value -> Shared -> Prop} {s : Shared} {env : Env} {value slice : Expr} {pos : Pos} {T id : String} {Q : Value -> Shared -> Prop}
  (hl:typeLookup (.type T) "__getitem__" = pure (some (.builtin id))) (hs:j8 slice)
  (h:wpAny (model prog w) A (eval value env) (fun o s₁=>wpAny (model prog w) A (eval slice env) (fun i s₂=>s₂.TypeIs o T /\ wpAny (model prog w) A (getItem o i) Q E s₂) E s₁) E s) :
  wpAny (model prog w) A (eval (.Subscript value slice pos) env) Q E s:=by
 refine Subscript_ (wpAny_mono h (fun o s₁ h₁=>wpAny_mono h₁ (fun i s₂ h₂=>?_) fun _ _ x=>x) fun _ _ x=>x)
 obtain ⟨hT,h₂⟩ := h₂
 unfold subscriptTail
 refine wpAny_bind ?_
 rw [getitemInPython_of_ne hT.not_modules]
 refine wpAny_bind (wpAny_specialOf hT hl ?_)
 have fin:wpAny (model prog w) A (subscripted slice false o i) (fun r s₃=>wpAny (model prog w) A (letTemporaryGo value o r >>= fun _=>pure r) Q E s₃) E s₂:=by
  rw [hs o i]
  exact wpAny_operating (wpAny_mono h₂ (fun r s₃ h₃=>wpAny_bind (wpAny_letTemporaryGo (wpAny_pure h₃))) fun _ _ x=>x)
 first
  | exact wpAny_pure (wpAny_bind fin)
  | exact wpAny_bind (wpAny_pure (wpAny_bind fin))
  | exact wpAny_bind fin
theorem Pk {X:Cx} {pins:List (Addr × Obj)} {σ:St} {H:Hp} {s:Shared} {a:Addr} {y:V} {o:Option V} (I:Ae X pins σ H s) (g:D8 H a y o):s.TypeIs (.ref a) "dict" := by
 rcases g with ⟨kvs,k,e,_,_⟩ | ⟨kvs,k,b,e,_,_,_⟩
 ·obtain ⟨_,_,vs,_,dd⟩ := Iv I.aR e
  exact dd.typeIs
 ·obtain ⟨_,_,xs,_,dd⟩ := La I.aR e
  exact dd.typeIs
def jn (td ty:TE):TE:=fun σ H Q=>td σ H fun x H1=>ty σ H1 fun y H2=>∃ a v,x = .ref a /\ D8 H2 a y (some v) /\ Q v H2
def lh (ty td:TE):TE:=fun σ H Q=>ty σ H fun y H1=>td σ H1 fun x H2=>∃ a o,x = .ref a /\ D8 H2 a y o /\ Q (.bl o.isSome) H2
def Xy (ty td:TE):TE:=fun σ H Q=>ty σ H fun y H1=>td σ H1 fun x H2=>∃ a o,x = .ref a /\ D8 H2 a y o /\ Q (.bl (!o.isSome)) H2
def gd (td ty tv:TE):TS:=fun D σ H=>tv σ H fun v H1=>td σ H1 fun x H2=>ty σ H2 fun y H3=>∃ a H4,x = .ref a /\ Ll H3 a y v H4 /\ D.nx σ H4
def ow (td ty tv:TE) (rd:V -> V -> Hp -> VK -> Prop):TS:=fun D σ H=>td σ H fun x H1=>ty σ H1 fun y H2=>∃ a v,x = .ref a /\ D8 H2 a y (some v) /\
 tv σ H2 fun y2 H3=>rd v y2 H3 fun z H4=>∃ H5,Ll H4 a y z H5 /\ D.nx σ H5
def pp (td ty:TE):TS:=fun D σ H=>td σ H fun x H1=>ty σ H1 fun y H2=>∃ a kvs k,x = .ref a /\ H2 a = some (.dK kvs) /\ y = kV k /\ (Af kvs k).isSome = true /\ D.nx σ (upd H2 a (.dK (Ba kvs k)))
section
variable {X:Cx} {o i e value:Expr} {pos pos' kD:Pos} {td ty tv:TE}
theorem Hj (hu:X.A.units + 20 < cLine) (ho:PE X o td) (hi:PE X i ty) (hs:j8 i):PE X (.Subscript o i pos) (jn td ty):=by
 intro pins s σ H Q I h
 refine Zb PySem.F.slot_dict_getitem.lookup hs (Bw (ho pins s σ H _ I h) fun u s1 ⟨x,H1,I1,rx,q1⟩=>Bw (hi pins s1 σ H1 _ I1 q1) fun iv s2 bA=>?_)
 obtain ⟨y,H2,I2,ry,a,v,ex,g,q2⟩ := bA
 subst ex
 obtain rfl:u = Value.ref a:=rx
 exact ⟨Pk I2 g,Ud hu I2 g ry fun w' s3 I3 iA=>⟨v,H2,I3,iA,q2⟩⟩
theorem Qu (hu:X.A.units + 20 < cLine) (hi:PE X i ty) (ho:PE X o td):PC X .In i o (lh ty td):=by
 intro pins s σ H Q I h
 refine Bw (hi pins s σ H _ I h) fun iv s1 ⟨y,H1,I1,ry,q1⟩=>Bw (ho pins s1 σ H1 _ I1 q1) fun u s2 bA=>?_
 obtain ⟨x,H2,I2,rx,a,ov,ex,g,q2⟩ := bA
 subst ex
 obtain rfl:u = Value.ref a:=rx
 exact lf hu I2 g ry fun s3 I3=>⟨.bl ov.isSome,H2,I3,rfl,q2⟩
theorem Hu (hu:X.A.units + 20 < cLine) (hi:PE X i ty) (ho:PE X o td):PC X .NotIn i o (Xy ty td):=by
 intro pins s σ H Q I h
 refine Bw (hi pins s σ H _ I h) fun iv s1 ⟨y,H1,I1,ry,q1⟩=>Bw (ho pins s1 σ H1 _ I1 q1) fun u s2 bA=>?_
 obtain ⟨x,H2,I2,rx,a,ov,ex,g,q2⟩ := bA
 subst ex
 obtain rfl:u = Value.ref a:=rx
 exact Yi hu I2 g ry fun s3 I3=>⟨.bl (!ov.isSome),H2,I3,rfl,q2⟩
theorem Ho (hu : X.A.units + 20 < cLine) (ho : PE X o td) (hi : PE X i ty) (hv : PE X value tv) (hs : swapsWith value (some (.Subscript o i pos')) pos.line X.env = pure false) :
  PS X (.Assign [.Subscript o i pos'] value pos) (gd td ty tv):=by
 intro pins s σ H D I h
 refine wpAny_Assign_Subscript (Bw (hv pins s σ H _ I h) fun r s1 ⟨v,H1,I1,rv,q1⟩=>Bw (ho pins s1 σ H1 _ I1 q1) fun u s2 ⟨x,H2,I2,rx,q2⟩=>Bw (hi pins s2 σ H2 _ I2 q2) fun iv s3 ⟨y,H3,I3,ry,a,H4,ex,g,q3⟩=>?_) hs
 subst ex
 obtain rfl:u = Value.ref a:=rx
 exact Tz hu I3 g ry rv fun s4 I4=>⟨σ,H4,I4,q3⟩
end
theorem Xg {P:Program} {w:World} {H:Hp} (h:Heap) (hb:sysModules < h.objs.size):Bg P w H (h.push { cls := .type "dict",data := .dict #[] }) h.objs.size (.dK []) :=
 ⟨Nat.zero_le _,beq_eq_false_iff_ne.mpr (Ne.symm (Nat.ne_of_lt hb)),[],.nil,Heap.DictOf.new h⟩
theorem Xb {P:Program} {w:World} {H:Hp} (h:Heap) (hb:sysModules < h.objs.size):Bg P w H (h.push { cls := .type "dict",data := .dict #[] }) h.objs.size (.dT []) :=
 ⟨Nat.zero_le _,beq_eq_false_iff_ne.mpr (Ne.symm (Nat.ne_of_lt hb)),[],.nil,_,#[],0,Heap.get?_push_size _ rfl,⟨rfl,rfl,rfl⟩,rfl,rfl,List.nodup_nil⟩
def a8:TE:=fun _ H Q=>∀ p,H p = none -> Q (.ref p) (upd H p (.dK []))
def am:TE:=fun _ H Q=>∀ p,H p = none -> Q (.ref p) (upd H p (.dT []))
section
variable {X:Cx} {pos:Pos}
theorem We:PE X (.Dict [] [] pos) a8:=fun pins s σ H Q I h =>
 wpAny_Dict_empty ⟨.ref s.heap.objs.size,_,I.laid (a:=s.heap.objs.size) (o := .dK []) (t':=s.toks) (fun _ _ q=>Heap.get?_push_of_some _ q) (Nat.le_refl _) (Xg s.heap I.big),rfl,h _ (I.aR.fresh (Nat.le_refl _))⟩
theorem Fc:PE X (.Dict [] [] pos) am:=fun pins s σ H Q I h =>
 wpAny_Dict_empty ⟨.ref s.heap.objs.size,_,I.laid (a:=s.heap.objs.size) (o := .dT []) (t':=s.toks) (fun _ _ q=>Heap.get?_push_of_some _ q) (Nat.le_refl _) (Xb s.heap I.big),rfl,h _ (I.aR.fresh (Nat.le_refl _))⟩
end
def O9:List (TE × TE) -> St -> Hp -> (List (V × V) -> Hp -> Prop) -> Prop
 | [],_,H,Q=>Q [] H
 | (tk,tv) :: r,σ,H,Q=>tk σ H fun x H1=>tv σ H1 fun y H2=>O9 r σ H2 fun ps H3=>Q ((x,y) :: ps) H3
abbrev VV:List (V × V) -> List (Value × Value) -> Prop:=Paired fun p q=>Ao p.1 q.1 /\ Ao p.2 q.2
def ui (X:Cx) (pos:Pos) (keys:List (Option Expr)) (values:List Expr) (JS:List (TE × TE)):Prop :=
 ∀ (pins:List (Addr × Obj)) (s:Shared) (σ:St) (H:Hp) (Q:List (V × V) -> Hp -> Prop),Ae X pins σ H s -> O9 JS σ H Q ->
  wpAny (model X.prog X.w) X.A (evalPairs (pairTrees keys values X.env pos)) (fun vs s'=>∃ ps H',Ae X pins σ H' s' /\ VV ps vs /\ Q ps H') X.xe s
def cn (kvs more:List (Ct × V)):List (Ct × V):=more.foldl (fun acc kv=>Bc acc kv.1 kv.2) kvs
def pq (JS:List (TE × TE)):TE:=fun σ H Q=>∀ p,H p = none -> O9 JS σ (upd H p (.dK [])) fun ps H2=>H2 p = some (.dK []) /\ ∃ kvs:List (Ct × V),ps = kvs.map (fun kv=>(kV kv.1,kv.2)) /\ kvs.length <= 15 /\ Q (.ref p) (upd H2 p (.dK (cn [] kvs)))
structure M1 (X:Cx) (o:Expr) (m:Str) (apos:Pos) (e:Expr) (aY:Pos):Prop where
 base:attributeBase o m X.env (eval o X.env) = eval o X.env
 GN:((backTo aY (starEach [e] X.env)).all (fun x=>!x.1) && (backToKw aY (keywordEach [] X.env)).all (fun x=>x.1.isSome)
  && decide (([e]:List Expr).length + ([]:List Keyword).length + (if ([]:List Keyword).isEmpty then 0 else 1) < 30)) = true
 line:(apos.endLine == aY.line) = true
 trees:backTo aY (starEach [e] X.env) = [(false,eval e X.env)]
structure M2 (X:Cx) (o:Expr) (m:Str) (apos:Pos) (e f:Expr) (aY:Pos):Prop where
 base:attributeBase o m X.env (eval o X.env) = eval o X.env
 GN:((backTo aY (starEach [e,f] X.env)).all (fun x=>!x.1) && (backToKw aY (keywordEach [] X.env)).all (fun x=>x.1.isSome)
  && decide (([e,f]:List Expr).length + ([]:List Keyword).length + (if ([]:List Keyword).isEmpty then 0 else 1) < 30)) = true
 line:(apos.endLine == aY.line) = true
 trees:backTo aY (starEach [e,f] X.env) = [(false,eval e X.env),(false,eval f X.env)]
def fi (H:Hp) (a:Addr):Prop:=(∃ kvs,Rd H a (.dK kvs)) \/ ∃ kvs,Rd H a (.dT kvs)
theorem S0 {X : Cx} {pins : List (Addr × Obj)} {σ : St} {H : Hp} {s : Shared} {a : Addr} (I : Ae X pins σ H s) (d : fi H a) :
  s.TypeIs (.ref a) "dict" /\ (∀ b,Value.ref a = .ref b -> ∃ ob,s.heap.get? b = some ob /\ ob.dict = none) /\ (a == sysModules) = false:=by
 rcases d with ⟨kvs,e⟩ | ⟨kvs,e⟩
 ·obtain ⟨_,hd,vs,_,dd⟩ := Iv I.aR e
  refine ⟨dd.typeIs,fun b q=>?_,hd⟩
  cases q
  obtain ⟨ob,_,_,h1,h2,_⟩ := dd
  exact ⟨ob,h1,h2.2.1⟩
 ·obtain ⟨_,hd,xs,_,dd⟩ := La I.aR e
  refine ⟨dd.typeIs,fun b q=>?_,hd⟩
  cases q
  obtain ⟨ob,_,_,h1,h2,_⟩ := dd
  exact ⟨ob,h1,h2.2.1⟩
section
variable {X:Cx} {pins:List (Addr × Obj)} {σ:St} {H:Hp} {s:Shared} {a:Addr} {y d:V} {u r:Value} {o:Option V} {A:Around} {E:Value -> Shared -> Prop}
theorem cr {Q : Value -> Shared -> Prop} (hu : A.units + 20 < cLine) (I : Ae X pins σ H s) (g : D8 H a y o) (ry : Ao y u) (rd : Ao d r) (h : ∀ w' s', Ae X pins σ H s' -> Ao (o.getD d) w' -> Q w' s') :
  wpAny (model X.prog X.w) A (call (.builtin "dict.get") [.ref a,u,r]) Q E s:=by
 rcases g with ⟨kvs,k,e,ey,l⟩ | ⟨kvs,k,b,e,ey,eb,l⟩
 ·subst ey
  obtain ⟨z,hd,vs,rel,dd⟩ := Iv I.aR e
  refine call_meetsIn PySem.F.slot_dict_get dd.typeIs PySem.F.entry_dict_get (PySem.F.args_dict_get_3 _ _ _) (meets_dict_get_default (Cp X.prog X.w) a (Lp ry) hd r) ⟨_,dd.mapOf,h _ _ (I.tok _) ?_⟩
  rw [l]
  exact (rel.val k).getD rd
 ·subst ey
  cases (show u = Value.ref b from ry)
  obtain ⟨z,hd,xs,rel,dd⟩ := La I.aR e
  refine call_meetsIn PySem.F.slot_dict_get dd.typeIs PySem.F.entry_dict_get (PySem.F.args_dict_get_3 _ _ _) (meetsH_dict_get_default (C7 X.prog X.w) a b hd r) ⟨D0 hu,k,xs,Gp I.aR eb,dd,h _ _ (I.tok _) ?_⟩
  rw [l]
  exact (rel.val k).getD rd
end
def nl (td ty:TE):TE:=fun σ H Q=>td σ H fun x H1=>∃ a,x = .ref a /\ fi H1 a /\ ty σ H1 fun y H2=>∃ o,D8 H2 a y o /\ Q (o.getD .aW) H2
def b8 (td ty tx:TE):TE:=fun σ H Q=>td σ H fun x H1=>∃ a,x = .ref a /\ fi H1 a /\ ty σ H1 fun y H2=>tx σ H2 fun z H3=>∃ o,D8 H3 a y o /\ Q (o.getD z) H3
def c6 (td ty:TE):TE:=fun σ H Q=>td σ H fun x H1=>∃ a,x = .ref a /\ fi H1 a /\ ty σ H1 fun y H2=>∃ kvs k v,H2 a = some (.dK kvs) /\ y = kV k /\ Af kvs k = some v /\ Q v (upd H2 a (.dK (Ba kvs k)))
def mm (td ty tx:TE):TE:=fun σ H Q=>td σ H fun x H1=>∃ a,x = .ref a /\ fi H1 a /\ ty σ H1 fun y H2=>tx σ H2 fun z H3=>∃ kvs k,H3 a = some (.dK kvs) /\ y = kV k /\
 (∀ v,Af kvs k = some v -> Q v (upd H3 a (.dK (Ba kvs k)))) /\ (Af kvs k = none -> Q z H3)
section
variable {X:Cx} {o e f:Expr} {apos aY:Pos} {td ty tx:TE}
theorem Wm (hu:X.A.units + 20 < cLine) (ho:PE X o td) (he:PE X e ty) (hf:PE X f tx) (m:M2 X o "get" apos e f aY):PE X (.Call (.Attribute o "get" apos) [e,f] [] aY) (b8 td ty tx):=by
 intro pins s σ H Q I h
 refine wpAny_Call_method m.base m.GN m.line PySem.F.plainAttrs_dict PySem.F.slot_dict_get PySem.F.type_dict_get (Bw (ho pins s σ H _ I h) fun u s1 bA=>?_)
 obtain ⟨x,H1,I1,rx,a,ex,d,q1⟩ := bA
 subst ex
 obtain rfl:u = Value.ref a:=rx
 obtain ⟨t1,t2,_⟩ := S0 I1 d
 refine ⟨t1,t2,?_⟩
 rw [m.trees]
 refine Calls.callWith_builtin rfl (Calls.evalArgs_plain (Calls.spliced_cons (Bw (he pins s1 σ H1 _ I1 q1) fun iv s2 ⟨y,H2,I2,ry,q2⟩ =>
  Calls.spliced_cons (Bw (hf pins s2 σ H2 _ I2 q2) fun fv s3 ⟨z,H3,I3,rz,ov,g,q3⟩=>Calls.spliced_nil ?_))))
 exact cr hu I3 g ry rz fun w' s4 I4 iA=>⟨_,H3,I4,iA,q3⟩
theorem X4 (ho:PE X o td) (he:PE X e ty) (m:M1 X o "pop" apos e aY):PE X (.Call (.Attribute o "pop" apos) [e] [] aY) (c6 td ty):=by
 intro pins s σ H Q I h
 refine wpAny_Call_method m.base m.GN m.line PySem.F.plainAttrs_dict PySem.F.slot_dict_pop PySem.F.type_dict_pop (Bw (ho pins s σ H _ I h) fun u s1 bA=>?_)
 obtain ⟨x,H1,I1,rx,a,ex,d,q1⟩ := bA
 subst ex
 obtain rfl:u = Value.ref a:=rx
 obtain ⟨t1,t2,_⟩ := S0 I1 d
 refine ⟨t1,t2,?_⟩
 rw [m.trees]
 refine Calls.callWith_builtin rfl (Calls.evalArgs_plain (Calls.spliced_cons (Bw (he pins s1 σ H1 _ I1 q1) fun iv s2 ⟨y,H2,I2,ry,kvs,k,v,ea,ey,l,q2⟩=>Calls.spliced_nil ?_)))
 subst ey
 exact i5 I2 ea ry l (.inl rfl) fun w' s3 I3 iA=>⟨v,_,I3,iA,q2⟩
end
section
variable {X:Cx} {pins:List (Addr × Obj)} {σ:St} {H:Hp} {s:Shared} {a:Addr} {kvs:List (Ct × V)} {A:Around} {E:Value -> Shared -> Prop}
end
section
variable {X:Cx} {pins:List (Addr × Obj)} {σ:St} {H:Hp} {s:Shared} {a:Addr} {y:V} {u:Value} {A:Around} {E:Value -> Shared -> Prop}
end
section
variable {κ:Type} [DecidableEq κ]
theorem Jz {kvs:List (κ × V)} {k:κ} (h:Af kvs k = none):¬ k ∈ kvs.map (·.1):=by
 intro m
 obtain ⟨p,hp,e⟩ := List.mem_map.mp m
 have q:(kvs.any fun kv=>decide (kv.1 = k)) = true:=List.any_eq_true.mpr ⟨p,hp,decide_eq_true e⟩
 rw [D6,h] at q
 exact absurd q (by simp)
theorem Yr {kvs:List (κ × V)} {k:κ} {v:V} (h:Af kvs k = some v):k ∈ kvs.map (·.1):=by
 have q:(kvs.any fun kv=>decide (kv.1 = k)) = true:=by
  rw [D6,h]
  all_goals rfl
 obtain ⟨p,hp,e⟩ := List.any_eq_true.mp q
 exact List.mem_map.mpr ⟨p,hp,of_decide_eq_true e⟩
theorem Sw:∀ {l:List κ} {k:κ},l.Nodup -> ¬ k ∈ l -> (l ++ [k]).Nodup
 | [],k,_,_=>by simp
 | a :: r,k,h,hk=>by
  obtain ⟨h1,h2⟩ := List.nodup_cons.mp h
  show (a :: (r ++ [k])).Nodup
  refine List.nodup_cons.mpr ⟨fun m=>?_,Sw h2 fun m=>hk (List.mem_cons.mpr (Or.inr m))⟩
  rcases List.mem_append.mp m with q | q
  ·exact h1 q
  ·exact hk (List.mem_cons.mpr (Or.inl (List.mem_singleton.mp q).symm))
theorem Xn {kvs:List (κ × V)} {k:κ} (v:V) (hn:(kvs.map (·.1)).Nodup) (h:Af kvs k = none):((Bc kvs k v).map (·.1)).Nodup:=by
 rw [De v h,List.map_append]
 exact Sw hn (Jz h)
theorem U1 {p:κ × V} {r:List (κ × V)} {k:κ} (e:p.1 = k):Ba (p :: r) k = Ba r k:=by
 unfold Ba
 rw [List.filter_cons,if_neg (by simp [e])]
end
section
variable {P:Program} {w:World} {A:Around} {E:Value -> Shared -> Prop} {s:Shared}
theorem W6 {it d : Addr} {i n ep : Nat} {ok ov key val : Value} {Q : Value -> Shared -> Prop} (hit : IsItemIter s.heap it d i n ep ok ov)
  (hQ:∀ h',IsItemIterOut h' it d i n ep key val s.heap.objs.size -> h'.get? s.heap.objs.size = some { cls := .type "tuple",data := .seq #[key,val] } -> (∀ b o,b ≠ it -> s.heap.get? b = some o -> h'.get? b = some o) -> Q (.ref s.heap.objs.size) { s with heap:=h' }) :
  wpAny (model P w) A (Builtin.Dict_items.pairFromOwner (.ref it) 6 key val) Q E s:=by
 unfold Builtin.Dict_items.pairFromOwner; refine wpAny_bind (wpAny_newTuple ?_)
 have aX:it < s.heap.objs.size:=Heap.lt_size hit
 have a1:IsItemIter (s.heap.push { cls := .type "tuple",data := .seq #[key,val] }) it d i n ep ok ov:=Heap.get?_push_of_some _ hit
 have a2:(s.heap.push { cls := .type "tuple",data := .seq #[key,val] }).get? s.heap.objs.size = some { cls := .type "tuple",data := .seq #[key,val] }:=Heap.get?_push_size _ rfl
 have a3:∀ b o,s.heap.get? b = some o -> (s.heap.push { cls := .type "tuple",data := .seq #[key,val] }).get? b = some o:=fun b o z=>Heap.get?_push_of_some _ z
 show wpAny (model P w) A (Builtin.Dict_items.ownedTupleIsFree (.ref it) >>= _) Q E { s with heap:=s.heap.push { cls := .type "tuple",data := .seq #[key,val] } }
 generalize s.heap.push { cls := .type "tuple",data := .seq #[key,val] } = h1 at a1 a2 a3 ⊢
 unfold Builtin.Dict_items.ownedTupleIsFree; refine wpAny_bind (wpAny_bind (wpAny_field a1 rfl (x := .none) rfl (wpAny_pure ?_))); simp only [if_true]
 refine wpAny_bind (wpAny_field a1 rfl (x:=ok) rfl (wpAny_bind (wpAny_field a1 rfl (x:=ov) rfl ?_)))
 refine wpAny_bind (wpAny_setField_rec a1 (by simp) fun h2 b2 c2=>wpAny_bind ?_)
 have b2':IsItemIter h2 it d i n ep key ov:=b2
 refine wpAny_setField_rec b2' (by simp) fun h3 b3 c3=>wpAny_bind ?_
 have b3':IsItemIter h3 it d i n ep key val:=b3
 refine wpAny_setField_rec b3' (by simp) fun h4 b4 c4=>wpAny_bind ?_
 have b4':IsItemIterOut h4 it d i n ep key val s.heap.objs.size:=b4
 refine wpAny_setField_rec b4' (by simp) fun h5 b5 c5=>wpAny_bind (wpAny_letGo (wpAny_pure ?_))
 have up:∀ b o,b ≠ it -> h1.get? b = some o -> h5.get? b = some o:=fun b o hb z=>c5.extBut b o hb (c4.extBut b o hb (c3.extBut b o hb (c2.extBut b o hb z)))
 exact hQ h5 b5 (up _ _ (Nat.ne_of_gt aX) a2) fun b o hb z=>up b o hb (a3 b o z)
theorem Po {it d : Addr} {i ep : Nat} {es : Array DictEntry} {ok ov : Value} {o : Obj} {Q : Option Value -> Shared -> Prop} (hit : IsItemIter s.heap it d i es.size ep ok ov) (fR : s.heap.get? d = some o) (dC : o.data = .dict es ep)
  {en:DictEntry} (he:es[i]? = some en)
  (hQ:∀ h',IsItemIterOut h' it d (i + 1) es.size ep en.key en.val s.heap.objs.size -> h'.get? s.heap.objs.size = some { cls := .type "tuple",data := .seq #[en.key,en.val] } -> (∀ b o,b ≠ it -> s.heap.get? b = some o -> h'.get? b = some o) -> Q (some (.ref s.heap.objs.size)) { s with heap:=h' }) :
  wpAny (model P w) A (pyNext (.ref it)) Q E s:=by
 have hT:s.TypeIs (.ref it) "dict_itemiterator" := ⟨_,hit,rfl⟩
 have own:Builtin.Dict_items.ownsTuple "dict_itemiterator" = true:=by decide
 unfold pyNext; refine wpAny_bind (wpAny_attempt (wpAny_callSpecial?_slot (name:=Str.ofString "__next__") hT F.slot_dict_itemiterator_next (wpAny_call_entry F.slot_dict_itemiterator_next hT F.entry_dict_itemiterator_next ?_ (F.args_dict_itemiterator_next_1 _))))
 refine wpAny_bind (wpAny_pure (wpAny_bind (wpAny_bind (wpAny_bind (wpAny_typeNameOfWhole_itemiter hT (wpAny_pure (wpAny_bind (wpAny_fieldsOf hit rfl ?_))))))))
 simp only [own,if_true]; show wpAny _ _ (if (Value.ref d == Value.none) = true then _ else _) _ _ s
 rw [if_neg (show ¬ (Value.ref d == Value.none) = true from Bool.false_ne_true)]; refine wpAny_bind (wpAny_pure (wpAny_bind (wpAny_dictEntries fR dC ?_)))
 rw [if_neg (show ¬ ((es.size:Int) != (es.size:Int)) = true by simp)]; refine wpAny_bind (wpAny_pure (wpAny_bind (wpAny_dictEpoch fR dC ?_)))
 rw [if_neg (show ¬ ((ep:Int) != (ep:Int)) = true by simp)]; refine wpAny_pure ?_
 simp only [show ¬ ((i:Int) < 0) by omega,if_false,Int.toNat_natCast,he]
 refine wpAny_bind (wpAny_bind (wpAny_typeNameOfWhole_itemiter hT (wpAny_pure (wpAny_bind (wpAny_isOneOf_itemiter hT ?_)))))
 show wpAny _ _ (setField (.ref it) 3 (rawInt ((i:Int) + 1)) >>= _) _ _ s; refine wpAny_bind (wpAny_setField_rec hit (by simp) fun h1 b1 c1=>?_)
 have rC:IsItemIter h1 it d (i + 1) es.size ep ok ov:=by
  have e:((i + 1:Nat):Int) = (i:Int) + 1:=by omega
  unfold IsItemIter; rw [e]; simpa [rawInt] using b1
 have zN:Shared.TypeIs { s with heap:=h1 } (.ref it) "dict_itemiterator" := ⟨_,rC,rfl⟩
 refine wpAny_bind (wpAny_holding (wpAny_bind (wpAny_isOneOf_itemiter zN (wpAny_bind (wpAny_isOneOf_itemiter zN ?_)))))
 have z1:h1.objs.size = s.heap.objs.size:=c1.1
 refine W6 (s:={ s with heap:=h1 }) rC fun h2 e1 e2 e3=>?_
 rw [show (Shared.heap { s with heap:=h1 }).objs.size = s.heap.objs.size from z1] at e1 e2 ⊢
 exact wpAny_pure ⟨_,rfl,wpAny_pure (hQ h2 e1 e2 fun b o hb z=>e3 b o hb (c1.extBut b o hb z))⟩
end
section
variable {X:Cx}
def oj (K:PySem.W.Frag):V -> List V -> Hp -> VK -> Prop:=fun x xs H Q=>∃ (sep:Str) (a:Addr) (zs:List Str),x = .str sep /\ xs = [.ref a] /\ Bj K H a (zs.map V.str) /\ zs.length <= 500 /\ (∀ z ∈ zs,z.length <= 30000) /\ sep.length <= 500 /\ Q (.str (Txt.join sep zs)) H
def pc (K:PySem.W.Frag):List V -> Hp -> VK -> Prop:=fun xs H Q=>∃ (a C dx:Addr) (fs:List (Str × V)) (c:Value) (v:V),xs = [.ref a,v] /\ H a = some (.ins C dx fs) /\ (∀ u,Ao v u -> u = c) /\ PySem.W.kitOne K (.ref C) c = some true /\ Q (.bl true) H
def o8 (K:PySem.W.Frag):R2:=fun x y H Q=>∃ a b xs ys,x = .ref a /\ y = .ref b /\ Bj K H a xs /\ Bj K H b ys /\ xs.length + ys.length <= sizeLine /\ ∀ p,H p = none -> Q (.ref p) (upd H p (.lst (xs ++ ys)))
end
section
variable {P:Program} {w:World} {A:Around} {R:Result -> Shared -> Prop} {K:Type} [DecidableEq K] {knd:HeapKind P w K}
def js (ps:Nat -> K × Addr × Value) (xs:List (K × Addr × Value)) (i k:Nat):List (K × Addr × Value):=(List.range' i k).foldl (fun xs j=>storedH xs (ps j).1 (ps j).2.1 (ps j).2.2) xs
end
section
variable {prog:Program} {w:World} {A:Around} {E:Value -> Shared -> Prop} {s:Shared}
end
section
variable {P:Program} {w:World} {A:Around} {E:Value -> Shared -> Prop} {s:Shared} {R:Result -> Shared -> Prop}
end
theorem Bk.frame {prog:Program} {w:World} {h h':Heap} {k:List Int × Int} {a I l:Addr} {j:Nat} (x:Bk prog w h k a) (hI:h.IsListIter I l j) (hk:∀ b o,b ≠ I -> h.get? b = some o -> h'.get? b = some o):Bk prog w h' k a:=by
 obtain ⟨o,n,u,t,ho,hc,hd,o2,aH,n2,hX,iW,hd2,hi⟩ := x
 obtain ⟨oi,hoi,hci,_⟩ := hI
 have n1:a ≠ I:=by
  rintro rfl
  rw [hoi] at ho
  cases ho
  rw [hci] at hc
  exact absurd hc (by decide)
 have JT:u ≠ I:=by
  rintro rfl
  rw [hoi] at hX
  cases hX
  rw [hci] at iW
  exact absurd iW (by decide)
 exact ⟨o,n,u,t,hk _ _ n1 ho,hc,hd,o2,aH,n2,hk _ _ JT hX,iW,hd2,hi⟩
theorem Bk.ext {prog:Program} {w:World} {h h':Heap} {k:List Int × Int} {a:Addr} (x:Bk prog w h k a) (hk:∀ b o,h.get? b = some o -> h'.get? b = some o):Bk prog w h' k a:=by
 obtain ⟨o,n,u,t,ho,hc,hd,o2,aH,n2,hX,iW,hd2,hi⟩ := x
 exact ⟨o,n,u,t,hk _ _ ho,hc,hd,o2,aH,n2,hk _ _ hX,iW,hd2,hi⟩
def dm (kvs:List ((List Int × Int) × V)) (ps:List ((List Int × Int) × V)):List ((List Int × Int) × V):=ps.foldl (fun acc p=>Bc acc p.1 p.2) kvs
section
variable {X:Cx}
def ll (K:PySem.W.Frag):List V -> Hp -> VK -> Prop:=fun xs H Q=>∃ (p:Addr) (us:List V) (ps:List ((List Int × Int) × V)),xs = [.ref p] /\ Bj K H p us /\ us.length = ps.length /\
 (∀ (j:Nat) u q,us[j]? = some u -> ps[j]? = some q -> ∃ t b,u = .ref t /\ H t = some (.tup [.ref b,q.2]) /\ F4 H b q.1) /\ ∀ d,H d = none -> Q (.ref d) (upd H d (.dT (dm [] ps)))
end
section
variable {X:Cx} {pins:List (Addr × Obj)} {σ:St} {H:Hp} {s:Shared} {k:Nat}
theorem Fu (I:Ae X pins σ H s) {d:PyData} {v:V} {u:Value} (h:Rp H d v) (r:Ao v u):∃ as,Reads s.heap u d as:=Ce I d v u h r
noncomputable def Hc (h:Heap) (d:PyData) (w:Value):Bool:=open Classical in if z:∃ e as,Reads h w e as /\ e.canLay0 = true then PyData.eqv z.choose d else false
theorem Jw {h:Heap} {d e:PyData} {w:Value} {as:List Addr} (r:Reads h w e as) (hc:e.canLay0 = true):Hc h d w = PyData.eqv e d:=by
 have z:∃ e as,Reads h w e as /\ e.canLay0 = true:=⟨e,as,r,hc⟩
 unfold Hc
 rw [dif_pos z]
 obtain ⟨bs,r',gB⟩ := z.choose_spec
 rw [(PySem.SeqAt.Reads.unique e _ w as bs hc r r')]
theorem Oi (I:Ae X pins σ H s) {d:PyData}:∀ {ds:List PyData} {vs:List V} {us:List Value},aM H ds vs -> An vs us -> us.any (Hc s.heap d) = ds.any fun e=>PyData.eqv e d
 | [],vs,us,h,r=>by
  unfold aM at h
  subst h
  cases r
  rfl
 | e :: ds,vs,us,h,r=>by
  unfold aM at h
  obtain ⟨x,xs,rfl,h1,h2⟩ := h
  cases r with
  | cons r1 r2 =>
   obtain ⟨as,q⟩ := Fu I h1 r1
   rw [List.any_cons,List.any_cons,Jw q (Cd e x h1),Oi I h2 r2]
theorem K3 (I:Ae X pins σ H s) {A:Around} {d:PyData} {x:V} {v:Value} (hx:Rp H d x) (rx:Ao x v) (hu:A.units + d.depth < cLine):∀ {ds:List PyData} {vs:List V} {us:List Value},aM H ds vs -> An vs us -> ∀ w ∈ us,SeqAt.EqAt A s w v (Hc s.heap d w)
 | [],vs,us,h,r,w,hw=>by
  unfold aM at h
  subst h
  cases r
  cases hw
 | e :: ds,vs,us,h,r,w,hw=>by
  unfold aM at h
  obtain ⟨y,ys,rfl,h1,h2⟩ := h
  cases r with
  | cons r1 r2 =>
   rcases List.mem_cons.mp hw with z | z
   ·subst z
    obtain ⟨as,q⟩ := Fu I h1 r1
    obtain ⟨bs,q2⟩ := Fu I hx rx
    rw [Jw q (Cd e y h1)]
    exact PySem.SeqAt.eqAt_reads e d A s _ _ _ _ q q2 (Cd e y h1) (Cd d x hx) (by omega)
   ·exact K3 I hx rx hu h2 r2 w z
end
section
variable {X:Cx} {k:Nat}
def mj (K:PySem.W.Frag) (neg:Bool):R2:=fun x y H Q=>∃ (p:Addr) (us:List V) (d:PyData) (ds:List PyData),y = .ref p /\ Bj K H p us /\ Rp H d x /\ aM H ds us /\ d.depth <= 50 /\ Q (.bl (if neg then !(ds.any fun e=>PyData.eqv e d) else ds.any fun e=>PyData.eqv e d)) H
theorem Tm (K:PySem.W.Frag) (hr:C0 k X.A) (hK:X.K = K:=by rfl):Hw X (compareOp .NotIn) (mj K true):=by
 subst hK
 intro pins s σ H x y v u Q I rx ry h
 obtain ⟨p,us,d,ds,rfl,hq,hx,hall,hd,q⟩ := h
 cases ry
 obtain ⟨aH,r,pl,hz⟩ := I.list hq
 have hu:=hr.units
 refine SeqAt.notIn_listAt (Hc s.heap d) pl.isList (fun w hw=>K3 I hx rx (by show X.A.units + 1 + d.depth < cLine; omega) hall r w (by simpa using hw)) ⟨.bl _,H,I,rfl,?_⟩
 rw [show aH.toArray.any (Hc s.heap d) = aH.any (Hc s.heap d) by simp,Oi I hall r]
 exact q
end
abbrev mh (K:PySem.W.Frag):TG:=Yt K 3 (Lq (Fi 0) (Lq (Fi 1) (Lq (Fi 2) ci)))
theorem F7 {k:Nat} {A:Around} (hr:C0 k A):A.units + 20 < cLine:=by have:=hr.units; omega
section
variable {X:Cx}
theorem Um {e:Expr} {t:TE} (h:PE X e t):PE X e (fun σ H Q=>∃ N:VK,t σ H N /\ ∀ v H',N v H' -> Q v H'):=by
 intro pins s σ H Q I z
 obtain ⟨N,z,m⟩ := z
 refine Bw (h pins s σ H N I z) fun v s1 z1=>?_
 obtain ⟨x,H1,I1,r1,q1⟩ := z1
 exact ⟨x,H1,I1,r1,m _ _ q1⟩
end
def Kr:HO -> Prop
 | .dK _=>True
 | .dT _=>True
 | _=>False
section
variable {X:Cx} {pins:List (Addr × Obj)} {σ:St} {H:Hp} {s:Shared} {d:Addr}
theorem Ae.swap {v u:HO} (I:Ae X pins σ H s) (e:H d = some v) (n1:∀ xs,v ≠ .tup xs) (n2:∀ ps,v ≠ .oQ ps) (n3:∀ y,v ≠ .own y) (n4:∀ o u,X.H₀ d ≠ some (.bK o u)) (ok:Bg X.prog X.w (upd H d u) s.heap d u):Ae X pins σ (upd H d u) s:=by
 have ht:∀ b xs,H b = some (.tup xs) -> (upd H d u) b = some (.tup xs):=fun b xs z=>by
  rw [Aa (fun y=>by rw [y,e] at z; exact n1 _ (Option.some.inj z))]
  exact z
 have hn:∀ b,H b = none -> (upd H d u) b = none:=fun b z=>by
  rw [Aa (fun y=>by rw [y,e] at z; cases z)]
  exact z
 refine ⟨I.ok,I.os,I.bare,⟨I.base.keep,I.base.slot,fun b o q n hx=>hn b (I.base.free b o q n hx),I.base.there,fun b xs q=>ht b xs (I.base.cU b xs q),fun b o x q=>?_,fun b ps q=>?_⟩,I.loc,I.cell,hn _ I.free,fun x c z=>hn c (I.bD x c z),fun p hp=>?_,fun b o q=>?_,I.len⟩
 ·have hb : b ≠ d := fun y => by
   rw [y] at q
   exact n4 o x q
  rw [Aa hb]
  exact I.base.bU b o x q
 ·obtain ⟨m,z⟩ := I.base.cV b ps q
  refine ⟨m,?_⟩
  rw [Aa (fun y=>by rw [y,e] at z; exact n2 _ (Option.some.inj z))]
  exact z
 ·obtain ⟨a,b,c⟩ := I.pin p hp
  exact ⟨a,hn _ b,c⟩
 ·by_cases hb:b = d
  ·subst hb
   rw [A5] at q
   cases q
   exact ok
  ·rw [Aa hb] at q
   refine (I.aR b o q).cZ (fun _ _ _ z=>z) (fun c z=>?_) ht
   rw [Aa (fun y=>by rw [y,e] at z; exact n3 _ (Option.some.inj z))]
   exact z
theorem Ae.uQ {v:HO} (I:Ae X pins σ H s) (e:H d = some v) (hv:Kr v):∀ o u,X.H₀ d ≠ some (.bK o u):=fun o u z=>by
 have y:=I.base.bU d o u z
 rw [e] at y
 cases y
 exact hv
theorem Ae.bK {v:HO} (I:Ae X pins σ H s) (e:H d = some v) (hv:Kr v):∃ o,s.heap.get? d = some o /\ Ae X pins σ (upd H d (.bK o v)) s:=by
 have aR:=I.aR d v e
 obtain ⟨o,ho⟩ : ∃ o,s.heap.get? d = some o:=by
  cases v with
  | dK kvs=>obtain ⟨_,_,_,_,o,_,_,z,_⟩ := aR; exact ⟨o,z⟩
  | dT kvs=>obtain ⟨_,_,_,_,o,_,_,z,_⟩ := aR; exact ⟨o,z⟩
  | _=>exact hv.elim
 have n1:∀ xs,v ≠ .tup xs:=fun xs z=>by rw [z] at hv; exact hv
 have n2:∀ ps,v ≠ .oQ ps:=fun ps z=>by rw [z] at hv; exact hv
 have n3:∀ y,v ≠ .own y:=fun y z=>by rw [z] at hv; exact hv
 refine ⟨o,ho,I.swap e n1 n2 n3 (I.uQ e hv) ⟨ho,aR.cZ (fun _ _ _ z=>z) (fun c z=>?_) (fun b xs z=>?_)⟩⟩
 ·rw [Aa (fun y=>by rw [y,e] at z; exact n3 _ (Option.some.inj z))]
  exact z
 ·rw [Aa (fun y=>by rw [y,e] at z; exact n1 _ (Option.some.inj z))]
  exact z
theorem Ae.zO {v:HO} {o:Obj} (I:Ae X pins σ H s) (e:H d = some (.bK o v)) (n4:∀ o u,X.H₀ d ≠ some (.bK o u)):Ae X pins σ (upd H d v) s:=by
 refine I.swap e (fun _ z=>nomatch z) (fun _ z=>nomatch z) (fun _ z=>nomatch z) n4 ((I.aR d _ e).2.cZ (fun _ _ _ z=>z) (fun c z=>?_) (fun b xs z=>?_))
 ·rw [Aa (fun y=>by rw [y,e] at z; cases z)]
  exact z
 ·rw [Aa (fun y=>by rw [y,e] at z; cases z)]
  exact z
end
def i6 (t:TS):TS:=fun D σ H=>∃ d u,Kr u /\ H d = some u /\ t { D with nx:=fun σ' H'=>∃ o,H' d = some (.bK o u) /\ D.nx σ' (upd H' d u) } σ H
def fw (t:TE):TE:=fun σ H Q=>∃ d u,Kr u /\ H d = some u /\ t σ H fun v H'=>∃ o,H' d = some (.bK o u) /\ Q v (upd H' d u)
section
variable {X:Cx}
theorem Ng {st:Stmt} {t:TS} (h:PS X st t):PS X st (i6 t):=by
 intro pins s σ H D I z
 obtain ⟨d,u,hu,e,z⟩ := z
 have n4:=I.uQ e hu
 refine Bw (h pins s σ H _ I z) fun f s1 q=>?_
 cases f with
 | next =>
  obtain ⟨σ',H',I',o,e',q'⟩ := q
  exact ⟨σ',_,I'.zO e' n4,q'⟩
 | brk=>exact q
 | cont=>exact q
 | ret v=>exact q
theorem Xs {e:Expr} {t:TE} (h:PE X e t):PE X e (fw t):=by
 intro pins s σ H Q I z
 obtain ⟨d,u,hu,e0,z⟩ := z
 have n4:=I.uQ e0 hu
 refine Bw (h pins s σ H _ I z) fun v s1 q=>?_
 obtain ⟨x,H',I',r,o,e',q'⟩ := q
 exact ⟨x,_,I'.zO e' n4,r,q'⟩
end
section
variable {P:Program} {w:World} {A:Around} {E:Value -> Shared -> Prop} {s:Shared}
theorem Py {d : Addr} {o : Obj} {Q : Value -> Shared -> Prop} (hs : (d == sysModules) = false) (ho : s.heap.get? d = some o) (hx : o.ExactDict)
  (h:Q (.ref s.heap.objs.size) { s with heap:=s.heap.push { cls := .type "dict_items",data := .fields #[.ref d] } }):wpAny (model P w) A (call (.builtin "dict.items") [.ref d]) Q E s:=by
 have hT:s.TypeIs (.ref d) "dict" := ⟨o,ho,hx.1⟩
 refine wpAny_call_entry F.slot_dict_items hT F.entry_dict_items ?_ (F.args_dict_items_1 _)
 unfold Builtin.«dict.items» Builtin.Dict.noArgs
 refine wpAny_bind (wpAny_bind (wpAny_notOrdered_dict hT ?_))
 refine wpAny_bind (wpAny_of_eq (a:=()) rfl ?_)
 refine wpAny_bind (wpAny_of_eq (a:=Value.ref d) rfl ?_)
 refine wpAny_of_eq (a:=d) rfl ?_
 refine wpAny_bind ?_
 unfold Builtin.Dict.showsAll
 rw [hs,if_neg Bool.false_ne_true]
 refine wpAny_pure ?_
 refine wpAny_bind ?_
 unfold newFields
 exact wpAny_newObj_type (wpAny_pure ⟨_,rfl,h⟩)
theorem Sj {v d : Addr} {o : Obj} {es : Array DictEntry} {ep : Nat} {Q : Value -> Shared -> Prop} (hv : s.heap.IsItemsView v d) (ho : s.heap.get? d = some o) (dC : o.data = .dict es ep)
  (h:Q (.ref s.heap.objs.size) { s with heap:=s.heap.push { cls := .type "dict_itemiterator",data := .fields #[.none,.bool false,.ref d,.int 0 0,.int es.size 0,.int ep 0,.none,.none] } }):wpAny (model P w) A (pyIter (.ref v)) Q E s:=by
 obtain ⟨ov,GO,hc,hd⟩ := hv
 have hT:s.TypeIs (.ref v) "dict_items" := ⟨ov,GO,hc⟩
 refine wpAny_pyIter_slot hT F.slot_dict_items_iter (wpAny_call_entry F.slot_dict_items_iter hT F.entry_dict_items_iter ?_ (F.args_dict_items_iter_1 _))
 unfold Builtin.«dict_items.__iter__» Builtin.Dict_items.slot0 Builtin.Dict_items.dictOf Builtin.Dict_items.newIterator
 refine wpAny_bind (wpAny_bind (wpAny_of_eq (a:=(Value.ref v,[])) rfl (wpAny_pure ?_)))
 refine wpAny_bind (wpAny_bind (wpAny_field GO hd (x := .ref d) rfl (wpAny_of_eq (a:=d) rfl ?_)))
 refine wpAny_bind (wpAny_bind (wpAny_dictEntries ho dC (wpAny_bind (wpAny_dictEpoch ho dC ?_))))
 show wpAny (model P w) _ (newObj (.type "dict_itemiterator") (.fields #[.none,.bool false,.ref d,.int 0 0,.int es.size 0,.int ep 0,.none,.none]) none) _ _ _
 refine wpAny_newObj_type (wpAny_pure ⟨_,rfl,"dict_itemiterator",_,⟨_,Heap.get?_push_size _ rfl,rfl⟩,F.slot_dict_itemiterator_next.lookup,h⟩)
theorem Vr {it d : Addr} {i ep : Nat} {es : Array DictEntry} {ok ov : Value} {o : Obj} {Q : Option Value -> Shared -> Prop} (hh : A.handled = none) (hit : IsItemIter s.heap it d i es.size ep ok ov) (fR : s.heap.get? d = some o) (dC : o.data = .dict es ep)
  (he:es[i]? = none) (hQ:∀ h',Heap.ExtBut it s.heap h' -> Q none { s with heap:=h' }):wpAny (model P w) A (pyNext (.ref it)) Q E s:=by
 have hT:s.TypeIs (.ref it) "dict_itemiterator" := ⟨_,hit,rfl⟩
 have own:Builtin.Dict_items.ownsTuple "dict_itemiterator" = true:=by decide
 unfold pyNext; refine wpAny_bind (wpAny_attempt (wpAny_callSpecial?_slot (name:=Str.ofString "__next__") hT F.slot_dict_itemiterator_next (wpAny_call_entry F.slot_dict_itemiterator_next hT F.entry_dict_itemiterator_next ?_ (F.args_dict_itemiterator_next_1 _))))
 refine wpAny_bind (wpAny_pure (wpAny_bind (wpAny_bind (wpAny_bind (wpAny_typeNameOfWhole_itemiter hT (wpAny_pure (wpAny_bind (wpAny_fieldsOf hit rfl ?_))))))))
 simp only [own,if_true]; show wpAny _ _ (if (Value.ref d == Value.none) = true then _ else _) _ _ s
 rw [if_neg (show ¬ (Value.ref d == Value.none) = true from Bool.false_ne_true)]; refine wpAny_bind (wpAny_pure (wpAny_bind (wpAny_dictEntries fR dC ?_)))
 rw [if_neg (show ¬ ((es.size:Int) != (es.size:Int)) = true by simp)]; refine wpAny_bind (wpAny_pure (wpAny_bind (wpAny_dictEpoch fR dC ?_)))
 rw [if_neg (show ¬ ((ep:Int) != (ep:Int)) = true by simp)]; refine wpAny_pure ?_
 simp only [show ¬ ((i:Int) < 0) by omega,if_false,Int.toNat_natCast,he]
 refine wpAny_bind (wpAny_bind (wpAny_typeNameOfWhole_itemiter hT (wpAny_pure ?_)))
 show wpAny _ _ (setField (.ref it) 2 Value.none >>= _) _ _ s
 refine wpAny_bind (wpAny_setField hit rfl (by simp) ?_)
 generalize hg:Heap.update s.heap it (Obj.mapFields (·.setIfInBounds 2 Value.none)) = h2
 have eb:Heap.ExtBut it s.heap h2:=by
  rw [<- hg]
  exact fun b ob hb e=>(Heap.get?_update_other _ _ (Ne.symm hb)).trans e
 show wpAny (model P w) _ (newExc (.type "StopIteration") [] >>= _) _ _ { s with heap:=h2 }
 refine wpAny_bind ?_; simp only [newExc,newTuple]
 refine wpAny_bind (wpAny_newObj_type (T := "tuple") ?_ (by size_fits))
 refine wpAny_bind (m:=firstArgMember _ _) (wpAny_of_eq (a:=Value.none) (by first | rfl | simp only [firstArgMember]) ?_)
 refine wpAny_newObj_type (T := "StopIteration") ?_ (by size_fits)
 simp only [raiseNew]; refine wpAny_bind (wpAny_handled ?_)
 first | rw [show A.in1.handled = Option.none from hh] | rw [hh]
 refine wpAny_bind (wpAny_pure (wpAny_throw ?_)); refine wpAny_bind (wpAny_isInstance (T := "StopIteration") (b:=true) ⟨_,Heap.get?_push_size _ rfl,rfl⟩ isSubtype_stop ?_)
 exact wpAny_pure (hQ _ ((eb.push _).push _))
end
theorem Tl:entryFor table "dict_itemiterator.__iter__" = some Builtin.«dict_keyiterator.__iter__» :=
 entryFor_alias (id' := "dict_keyiterator.__iter__") (by kernel_rfl) (by first | rfl | decide +kernel | (unfold String.splitOn; simp +decide [String.splitOnAux])) (by decide +kernel) (by kernel_rfl)
def kh:HO -> Hp -> Nat -> V -> V -> Prop
 | .dT kvs,H,i,x,y=>∃ k b,kvs[i]? = some (k,y) /\ x = .ref b /\ F4 H b k
 | .dK kvs,_,i,x,y=>∃ k,kvs[i]? = some (k,y) /\ x = kV k
 | _,_,_,_,_=>False
def Cr:HO -> Nat
 | .dT kvs=>kvs.length
 | .dK kvs=>kvs.length
 | _=>0
def al (d:Addr) (o:Obj) (u:HO):It :=
 ⟨fun i H=>H d = some (.bK o u) /\ i < Cr u,fun i H v H'=>∃ T x y,v = .ref T /\ H T = none /\ H' = upd H T (.tup [x,y]) /\ kh u H i x y,fun i H=>H d = some (.bK o u) /\ Cr u <= i⟩
theorem Yz {P:Program} {w:World} {k:Ct} {u:Value} (h:(Cp P w).is k u = true):Ao (kV k) u:=by
 have h':Ha k u = true:=h
 cases k with
 | inl i =>
  cases u <;> simp [Ha,Value.isInt] at h'
  subst h'
  exact ⟨_,rfl⟩
 | inr x =>
  cases u <;> simp [Ha,Value.isStrOf] at h'
  subst h'
  exact ⟨_,rfl⟩
theorem En {α β:Type} {F:α -> β -> Prop}:∀ {xs:List α} {ys:List β} {i:Nat},Paired F xs ys -> i < xs.length -> ∃ x y,xs[i]? = some x /\ ys[i]? = some y /\ F x y
 | _,_,i,.nil,h=>absurd h (by simp)
 | _,_,0,.cons r _,_=>⟨_,_,rfl,rfl,r⟩
 | _,_,i + 1,.cons _ t,h=>by
  obtain ⟨x,y,e1,e2,e3⟩ := En (i:=i) t (by simpa using h)
  exact ⟨x,y,by simpa using e1,by simpa using e2,e3⟩
theorem Rq {α β:Type} {F:α -> β -> Prop} {xs:List α} {ys:List β} (h:Paired F xs ys):xs.length = ys.length:=by
 induction h with
 | nil=>rfl
 | cons r t ih=>rw [List.length_cons,List.length_cons,ih]
theorem Lz {P:Program} {w:World} {K:Type} [DecidableEq K] {knd:PySem.KeyKind P w K}:∀ {es:List DictEntry} {vs:List (K × Value)} {i:Nat} {kv:K × Value},Pairs knd es vs -> vs[i]? = some kv -> ∃ e,es[i]? = some e /\ knd.is kv.1 e.key = true /\ e.val = kv.2
 | _,_,i,kv,.nil,h=>by simp at h
 | _,_,0,kv,.cons h1 h2 _,h=>by
  cases (show some _ = some _ from h)
  exact ⟨_,rfl,h1,h2⟩
 | _,_,i + 1,kv,.cons _ _ t,h=>by
  obtain ⟨e,e1,e2⟩ := Lz t (i:=i) (by simpa using h)
  exact ⟨e,by simpa using e1,e2⟩
theorem Uc {P:Program} {w:World} {K:Type} [DecidableEq K] {knd:PySem.KeyKind P w K} {es:List DictEntry} {vs:List (K × Value)} (h:Pairs knd es vs):es.length = vs.length:=by
 induction h with
 | nil=>rfl
 | cons r q t ih=>rw [List.length_cons,List.length_cons,ih]
theorem Vi {P : Program} {w : World} {H : Hp} {h : Heap} {d : Addr} {o : Obj} {u : HO} {es : Array DictEntry} {ep : Nat} (ok : Bg P w H h d u) (hu : Kr u) (ho : h.get? d = some o) (hd : o.data = .dict es ep) :
  es.size = Cr u /\ ∀ i,i < Cr u -> ∃ e x y,es[i]? = some e /\ Ao x e.key /\ Ao y e.val /\ kh u H i x y:=by
 cases u with
 | dT kvs =>
  obtain ⟨_,_,xs,r,o',pJ,pK,h1,h2,h3,h4,h5⟩ := ok
  rw [ho] at h1
  cases h1
  rw [hd] at h3
  cases h3
  have hl:=Rq r
  refine ⟨?_,fun i hi=>?_⟩
  ·show es.size = kvs.length
   rw [<- Array.length_toList,h4,List.length_map,hl]
  ·obtain ⟨p,q,e1,e2,e3,e4,e5⟩ := En r hi
   refine ⟨entryOfKey (C7 P w) q,.ref q.2.1,p.2,?_,rfl,e5,p.1,q.2.1,e1,rfl,e4⟩
   rw [<- Array.getElem?_toList,h4,List.getElem?_map,e2]
   rfl
 | dK kvs =>
  obtain ⟨_,_,vs,r,o',pJ,pK,h1,h2,h3,h4,h5,h6⟩ := ok
  rw [ho] at h1
  cases h1
  rw [hd] at h3
  cases h3
  have hl:kvs.length = vs.length:=r.length
  refine ⟨?_,fun i hi=>?_⟩
  ·show es.size = kvs.length
   rw [<- Array.length_toList,Uc h5,hl]
  ·obtain ⟨p,q,e1,e2,e3⟩ := En r hi
   obtain ⟨e,f1,f2,f3⟩ := Lz h5 e2
   refine ⟨e,kV p.1,p.2,by rw [<- Array.getElem?_toList]; exact f1,?_,?_,p.1,e1,rfl⟩
   ·rw [e3.1]
    exact Yz f2
   ·rw [f3]
    exact e3.2
 | _=>exact hu.elim
theorem Ra {P : Program} {w : World} {K : PySem.W.Frag} {elts : List Expr} {kk : Nat} {pos : Pos} {it d : Addr} {o : Obj} {u : HO} {es : Array DictEntry} {ep : Nat} (hu : Kr u) (hd : o.data = .dict es ep) (dX : d ≠ it) :
  Ry P w K (.Tuple elts kk pos) (al d o u) [it] it (fun i h=>∃ ok ov,IsItemIter h it d i es.size ep ok ov) where
 mem:=by simp
 obj:=fun i h ⟨ok,ov,st⟩ b hb=>by
  have e:b = it:=by simpa using hb
  subst e
  exact ⟨_,st,fun v z=>by cases z⟩
 keep:=fun i h h' ⟨ok,ov,st⟩ k=>⟨ok,ov,k it (by simp) _ st⟩
 item:=by
  intro X hP hw hK hc i pins s σ H E I hf ⟨ok,ov,st⟩ ⟨jB,hg2⟩
  subst hP hw hK
  obtain ⟨ho,aR⟩ := I.aR d _ jB
  obtain ⟨hsz,kJ⟩ := Vi aR hu ho hd
  obtain ⟨e,x,y,e1,rx,ry,hi⟩ := kJ i hg2
  have aX:it < s.heap.objs.size:=Heap.lt_size st
  refine Po st ho hd e1 fun h' a1 a2 a3=>⟨_,rfl,?_⟩
  refine wpAny_letOwnedTupleGo_items (s:={ s with heap:=h' }) a1 fun JK b1 b2=>?_
  have zK:JK.get? s.heap.objs.size = some { cls := .type "tuple",data := .seq #[e.key,e.val] }:=b2.extBut _ _ (Nat.ne_of_gt aX) a2
  refine ⟨.ref s.heap.objs.size,upd H s.heap.objs.size (.tup [x,y]),I.iD (t':=s.toks) (ch:=[it]) hf (fun c ob hc e=>?_) (Nat.le_refl _) ?_,rfl,⟨_,x,y,rfl,I.fresh,rfl,hi⟩,⟨_,_,b1⟩,fun c hc=>?_⟩
  ·have gB:c ≠ it:=by simpa using hc
   exact b2.extBut _ _ gB (a3 c ob gB e)
  ·exact ⟨⟨Nat.le_trans (by decide:2 <= 1000) (Hi (Nat.le_refl _)),_,zK,rfl⟩,[e.key,e.val],.cons rx (.cons ry .nil),⟨_,zK,rfl,0,rfl⟩⟩
  ·have gB:c = it:=by simpa using hc
   subst gB
   rw [Aa (Nat.ne_of_lt aX)]
   exact (hf c hc).1
 done:=by
  intro X hP hw hK hc i pins s σ H E I hf ⟨ok,ov,st⟩ ⟨jB,hg2⟩
  subst hP hw hK
  obtain ⟨ho,aR⟩ := I.aR d _ jB
  obtain ⟨hsz,kJ⟩ := Vi aR hu ho hd
  refine Vr (I.ok.hd hc) st ho hd (Array.getElem?_eq_none (by omega)) fun h' eb=>⟨rfl,I.iE (t':=s.toks) (ch:=[it]) hf fun c ob hc e=>?_⟩
  have gB:c ≠ it:=by simpa using hc
  exact eb c ob gB e
 self:=fun A i s Q E ⟨ok,ov,st⟩ hQ=>by
  have hT:s.TypeIs (.ref it) "dict_itemiterator" := ⟨_,st,rfl⟩
  refine wpAny_pyIter_slot hT F.slot_dict_itemiterator_iter (wpAny_call_entry F.slot_dict_itemiterator_iter hT Tl ?_ (F.args_dict_itemiterator_iter_1 _))
  exact wpAny_pure ⟨_,rfl,"dict_itemiterator",_,hT,F.slot_dict_itemiterator_next.lookup,hQ⟩
section
variable {X:Cx}
def Zw (td:TE):TI:=fun σ H R=>td σ H fun x H1=>∃ d u,x = .ref d /\ Kr u /\ H1 d = some u /\ ∀ o,R (al d o u) (upd H1 d (.bK o u))
theorem Hh {elts : List Expr} {kk : Nat} {kD apos pos : Pos} {e : Expr} {td : TE} (he : PE X e td) (iB : attributeBase e "items" X.env (eval e X.env) = eval e X.env := by rfl) (iC : (apos.endLine == pos.line) = true := by rfl) :
  PI X (.Tuple elts kk kD) (.Call (.Attribute e "items" apos) [] [] pos) (Zw td):=by
 intro pins s σ H R I h
 refine wpAny_Call_method0_late iB iC (Bw (he pins s σ H _ I h) fun v s1 bA=>?_)
 obtain ⟨x,H1,I1,r1,d,u,ex,hu,hd,q⟩ := bA
 subst ex
 obtain rfl:v = Value.ref d:=r1
 obtain ⟨o,ho,I2⟩ := I1.bK hd hu
 obtain ⟨es,ep,hx,dC,JU⟩ : ∃ es ep,o.ExactDict /\ o.data = .dict es ep /\ (d == sysModules) = false:=by
  have aR:=I1.aR d u hd
  cases u with
  | dT kvs =>
   obtain ⟨_,y,xs,r,o',pJ,pK,h1,h2,h3,_⟩ := aR
   rw [ho] at h1
   cases h1
   exact ⟨pJ,pK,h2,h3,y⟩
  | dK kvs =>
   obtain ⟨_,y,vs,r,o',pJ,pK,h1,h2,h3,_⟩ := aR
   rw [ho] at h1
   cases h1
   exact ⟨pJ,pK,h2,h3,y⟩
  | _=>exact hu.elim
 have hT:s1.TypeIs (.ref d) "dict" := ⟨o,ho,hx.1⟩
 refine ⟨"dict","dict.items",PySem.F.plainAttrs_dict,PySem.F.slot_dict_items,PySem.F.type_dict_items,hT,?_,Calls.callWith_builtin rfl (PySem.evalArgs_none (Py JU ho hx ?_))⟩
 ·intro a z
  cases z
  exact ⟨o,ho,hx.2.1⟩
 have GO:(s1.heap.push { cls := .type "dict_items",data := .fields #[.ref d] }).get? d = some o:=Heap.get?_push_of_some _ ho
 refine Sj (s:={ s1 with heap:=s1.heap.push { cls := .type "dict_items",data := .fields #[.ref d] } }) ⟨_,Heap.get?_push_size _ rfl,rfl,rfl⟩ GO dC ?_
 have hk:∀ b ob,s1.heap.get? b = some ob -> ((s1.heap.push { cls := .type "dict_items",data := .fields #[.ref d] }).push { cls := .type "dict_itemiterator",data := .fields #[.none,.bool false,.ref d,.int 0 0,.int es.size 0,.int ep 0,.none,.none] }).get? b = some ob:=fun b ob z=>Heap.get?_push_of_some _ (Heap.get?_push_of_some _ z)
 have hsz:(s1.heap.push { cls := .type "dict_items",data := .fields #[.ref d] }).objs.size = s1.heap.objs.size + 1:=by simp [Heap.push]
 have hdl:d < s1.heap.objs.size:=Heap.lt_size ho
 refine ⟨_,[_],_,al d o u,upd H1 d (.bK o u),rfl,I2.kept (t':=s1.toks) hk,Ra (es:=es) (ep:=ep) hu dC ?_,⟨.none,.none,Heap.get?_push_size _ rfl⟩,fun c hc=>?_,q o⟩
 ·rw [hsz]
  exact Nat.ne_of_lt (Nat.lt_succ_of_lt hdl)
 ·have hle : s1.heap.objs.size <= c := by
   have:c = (s1.heap.push { cls := .type "dict_items",data := .fields #[.ref d] }).objs.size:=by simpa using hc
   rw [this,hsz]
   omega
  exact I2.kC hle (I2.aR.fresh hle)
end
theorem N8 {o : Obj} {u : HO} {d : Addr} {g : TG} {tb : TS} {D : Go} {σ : St} {H : Hp} (Pv : Nat -> St -> Hp -> Prop) (h0 : Pv 0 σ H) (hl : ∀ i σ H, i <= Cr u -> Pv i σ H -> H d = some (.bK o u))
  (hs:∀ i x y T σ H,i < Cr u -> kh u H i x y -> Pv i σ H -> H T = none -> g (.ref T) σ (upd H T (.tup [x,y])) fun σ2 H2=>tb { D with nx:=Pv (i + 1),ct:=Pv (i + 1),bk:=D.nx } σ2 H2) (hd:∀ σ H,Pv (Cr u) σ H -> D.nx σ H) :
  ∃ W:Nat -> Nat -> St -> Hp -> Prop,(∃ m,W 0 m σ H) /\ ∀ i m σ H,W i m σ H ->
   ((al d o u).stop i H /\ D.nx σ H) \/ ((al d o u).go i H /\ ∃ N:St -> Hp -> Prop,(∀ σ' H',N σ' H' -> ∃ m',m' < m /\ W (i + 1) m' σ' H') /\ ∀ x H',(al d o u).uw i H x H' -> g x σ H' fun σ2 H2=>tb { D with nx:=N,ct:=N,bk:=D.nx } σ2 H2):=by
 refine ⟨fun i m σ H=>m = Cr u - i /\ i <= Cr u /\ Pv i σ H,⟨Cr u,by simp,Nat.zero_le _,h0⟩,?_⟩
 rintro i m σ H ⟨rfl,hi,p⟩
 have q1:=hl i σ H hi p
 by_cases aX:i < Cr u
 ·refine .inr ⟨⟨q1,aX⟩,Pv (i + 1),fun σ' H' p'=>⟨Cr u - (i + 1),by omega,rfl,aX,p'⟩,fun v H' y=>?_⟩
  obtain ⟨T,x,z,rfl,hT,rfl,e1⟩ := y
  exact hs i x z T σ H aX e1 p hT
 ·have e:i = Cr u:=by omega
  subst e
  exact .inl ⟨⟨q1,Nat.le_refl _⟩,hd σ H p⟩
theorem Qq {K : PySem.W.Frag} {o : Obj} {u : HO} {d : Addr} {fr : List Nat} {tt : TT} {te : TE} {σ : St} {D : Addr} {H1 : Hp} {Q : Hp -> Prop} (Pv : Nat -> List V -> Hp -> Prop) (h0 : Pv 0 [] (upd H1 D (.lst [])))
  (hl:∀ i zs H,i <= Cr u -> Pv i zs H -> H d = some (.bK o u))
  (hs:∀ i x y T zs H,i < Cr u -> kh u H i x y -> Pv i zs H -> H T = none -> tt (some x :: some y :: E4 fr σ) (upd H T (.tup [x,y])) fun b H4 =>
   if b = true then te (some x :: some y :: E4 fr σ) H4 fun v H5=>H5 D = some (.lst zs) /\ zs.length < sizeLine /\ Pv (i + 1) (zs ++ [v]) (upd H5 D (.lst (zs ++ [v]))) else Pv (i + 1) zs H4)
  (mt:∀ σ H Q Q',(∀ b H',Q b H' -> Q' b H') -> tt σ H Q -> tt σ H Q') (me:∀ σ H Q Q',(∀ v H',Q v H' -> Q' v H') -> te σ H Q -> te σ H Q')
  (hd:∀ zs H,Pv (Cr u) zs H -> Q H):Er 2 fr (al d o u) (nh K) tt te σ D H1 Q:=by
 refine ⟨fun i m zs H=>m = Cr u - i /\ i <= Cr u /\ Pv i zs H,⟨Cr u,by simp,Nat.zero_le _,h0⟩,?_⟩
 rintro i m zs H' ⟨rfl,hi,p⟩
 have q1:=hl i zs H' hi p
 by_cases aX:i < Cr u
 ·refine .inr ⟨⟨q1,aX⟩,fun v H2 y=>?_⟩
  obtain ⟨T,x,z,rfl,hT,rfl,e1⟩ := y
  refine ⟨T,_,rfl,Ci.of A5,rfl,x,_,rfl,z,_,rfl,rfl,⟨[some x,some z],rfl,rfl⟩,?_⟩
  refine mt _ _ _ _ ?_ (hs i x z T zs H' aX e1 p hT)
  intro b H4 q
  cases b with
  | false=>exact ⟨Cr u - (i + 1),by omega,rfl,aX,q⟩
  | true=>exact me _ _ _ _ (fun v H5 ⟨r1,r2,r3⟩=>⟨r1,r2,Cr u - (i + 1),by omega,rfl,aX,r3⟩) q
 ·have e:i = Cr u:=by omega
  subst e
  exact .inl ⟨⟨q1,Nat.le_refl _⟩,hd zs H' p⟩
section
variable {prog:Program} {w:World} {K:Type} [DecidableEq K] {knd:HeapKind prog w K} {A:Around} {E:Value -> Shared -> Prop} {s:Shared} {d a:Addr} {k:K} {xs:List (K × Addr × Value)}
theorem Ug {v:Value} (hn:(xs.map (·.1)).Nodup) (uR:k ∉ xs.map (·.1)):((xs ++ [(k,a,v)]).map (·.1)).Nodup:=by
 rw [List.map_append,List.nodup_append]
 refine ⟨hn,by simp,fun x hx y hy=>?_⟩
 have e:y = k:=by simpa using hy
 rw [e]
 exact fun e=>uR (e ▸ hx)
theorem Va {dflt : Value} {Q : Value -> Shared -> Prop} (hu : knd.room A) (fS : knd.is s.heap k a) (hm : s.heap.DictOfH knd d xs) (hsz : xs.length <= sizeLine)
  (h1:∀ p,atKey xs k = some p -> Q p.2 { s with toks:=s.toks + knd.draws k })
  (h2:atKey xs k = none -> ∀ h',h'.DictOfH knd d (xs ++ [(k,a,dflt)]) -> Heap.SameBut d s.heap h' -> Q dflt { s with heap:=h',toks:=s.toks + knd.draws k }) :
  wpAny (model prog w) A (dictSetDefault d (.ref a) dflt) Q E s:=by
 obtain ⟨o,es,ep,ho,hc,hd,he,his,hn⟩ := hm
 unfold dictSetDefault
 try with_reducible refine wpAny_holding ?_
 refine wpAny_bind (knd.pyHash hu fS ?_)
 refine wpAny_bind (wpAny_dictFind_heap (s:={ s with toks:=s.toks + knd.draws k }) hu fS ho hd he his hn ?_ ?_)
 ·intro lQ
  have uR:k ∉ xs.map (·.1):=not_mem_keys_of_get lQ
  have kJ:=atKey_none_of_get lQ
  have hz:es.size <= sizeLine:=by
   have e:=size_of_entries he
   omega
  refine wpAny_bind (wpAny_rule (wpAny_bind (wpAny_updateDictKeys (hz:=hz) (s:={ s with toks:=s.toks + knd.draws k }) ho hd (wpAny_pure (h2 kJ _
   ⟨_,_,ep + 1,Heap.get?_update_self _ ho (Obj.isFreed_of_dict (Obj.data_mapDictKeys hd _)),hc.mapDictKeys _,Obj.data_mapDictKeys hd _,?_,?_,Ug hn uR⟩ (Heap.SameBut.update ..))))))
  ·simp [he,entryOfKey]
  ·intro x hx
   rcases List.mem_append.mp hx with hx | hx
   ·exact knd.keeps (his x hx) ho hd (Heap.SameBut.update ..)
   ·cases List.mem_singleton.mp hx
    exact knd.keeps fS ho hd (Heap.SameBut.update ..)
 ·intro j p hj
  have kJ:=atKey_of_get hn hj
  refine wpAny_bind (wpAny_dictEntries (s:={ s with toks:=s.toks + knd.draws k }) ho hd ?_)
  rw [entry_at he j,hj]
  exact wpAny_bind (wpAny_rule (wpAny_pure (h1 p kJ)))
theorem Rc (hd : (d == sysModules) = false) (dflt : Value) :
  MeetsIn prog w (Builtin.«dict.setdefault» ⟨[.ref d,.ref a,dflt],[]⟩) (fun A R s=>knd.room A.in1 /\ ∃ k xs,knd.is s.heap k a /\ s.heap.DictOfH knd d xs /\ xs.length <= sizeLine /\
   (∀ p,atKey xs k = some p -> R (.ok (.ret p.2)) { s with toks:=s.toks + knd.draws k }) /\
   (atKey xs k = none -> ∀ h',h'.DictOfH knd d (xs ++ [(k,a,dflt)]) -> Heap.SameBut d s.heap h' -> R (.ok (.ret dflt)) { s with heap:=h',toks:=s.toks + knd.draws k })) :=
 .of_wp fun A R s ⟨hu,k,xs,fS,hm,hz,h1,h2⟩=>by
  unfold Builtin.«dict.setdefault» Builtin.Dict.keyAndDefault
  refine wpAny_bind (wpAny_bind (wpAny_notOrdered_dict hm.typeIs ?_))
  show wpAny _ _ (pure (d,Value.ref a,some dflt)) _ _ s
  refine wpAny_pure ?_
  show wpAny _ _ (if (d == sysModules) = true then _ else (dictSetDefault d (.ref a) dflt >>= _)) _ _ s
  rw [if_neg (by rw [hd]; exact Bool.false_ne_true)]
  exact wpAny_bind (Va hu fS hm hz (fun p hp=>wpAny_pure ⟨p.2,rfl,h1 p hp⟩) fun hn h' kK zH=>wpAny_pure ⟨dflt,rfl,h2 hn h' kK zH⟩)
end
section
variable {X:Cx} {pins:List (Addr × Obj)} {σ:St} {H:Hp} {s:Shared} {a b:Addr} {kvs:List ((List Int × Int) × V)} {k:List Int × Int} {z:V} {r:Value} {A:Around} {E:Value -> Shared -> Prop}
theorem g9 {Q : Value -> Shared -> Prop} (hu : A.units + 20 < cLine) (I : Ae X pins σ H s) (e : H a = some (.dT kvs)) (eb : F4 H b k) (hl : kvs.length < sizeLine) (rz : Ao z r)
  (h1:∀ v w' s',Af kvs k = some v -> Ae X pins σ H s' -> Ao v w' -> Q w' s') (h2:Af kvs k = none -> ∀ s',Ae X pins σ (upd H a (.dT (Bc kvs k z))) s' -> Q r s') :
  wpAny (model X.prog X.w) A (call (.builtin "dict.setdefault") [.ref a,.ref b,r]) Q E s:=by
 obtain ⟨z0,hd,xs,rel,dd⟩ := Zj I.aR e
 have hz:xs.length <= sizeLine:=by rw [<- Paired.length rel]; exact z0
 have hv:=rel.val k
 refine call_meetsIn PySem.F.slot_dict_setdefault dd.typeIs PySem.F.entry_dict_setdefault (PySem.F.args_dict_setdefault_3 _ _ _) (Rc (knd:=C7 X.prog X.w) hd r) ⟨D0 hu,k,xs,Gp I.aR eb,dd,hz,fun p hp=>?_,fun hn h' pT hs=>?_⟩
 ·rw [hp] at hv
  cases e2:Af kvs k with
  | none=>rw [e2] at hv; exact hv.elim
  | some v =>
   rw [e2] at hv
   exact h1 v p.2 _ e2 (I.tok _) hv
 ·rw [hn] at hv
  cases e2:Af kvs k with
  | some v=>rw [e2] at hv; exact hv.elim
  | none =>
   have hp:Bc kvs k z = kvs ++ [(k,z)]:=De z e2
   refine h2 e2 _ ?_
   rw [hp]
   obtain ⟨q,es,ep,hq,g2,g3,g4,_,g5⟩ := pT
   refine Jl I (by rw [e]; exact True.intro) hs ⟨q,hq⟩ ⟨by rw [List.length_append,List.length_singleton]; omega,hd,_,KT.keeps (Paired.snoc rel ⟨rfl,eb,rz⟩) (fun c ys ec=>?_),q,es,ep,hq,g2,g3,g4,g5⟩
   rw [Aa (Bh ec e (fun z=>nomatch z))]
   exact ec
end
def gn (td ty tx:TE):TE:=fun σ H Q=>td σ H fun x H1=>∃ a,x = .ref a /\ fi H1 a /\ ty σ H1 fun y H2=>tx σ H2 fun z H3=>∃ kvs k b,y = .ref b /\ F4 H3 b k /\ H3 a = some (.dT kvs) /\ kvs.length < sizeLine /\
 (∀ v,Af kvs k = some v -> Q v H3) /\ (Af kvs k = none -> Q z (upd H3 a (.dT (Bc kvs k z))))
section
variable {X:Cx} {o e f:Expr} {apos aY:Pos} {td ty tx:TE}
theorem Xp (hu:X.A.units + 20 < cLine) (ho:PE X o td) (he:PE X e ty) (hf:PE X f tx) (m:M2 X o "setdefault" apos e f aY):PE X (.Call (.Attribute o "setdefault" apos) [e,f] [] aY) (gn td ty tx):=by
 intro pins s σ H Q I h
 refine wpAny_Call_method m.base m.GN m.line PySem.F.plainAttrs_dict PySem.F.slot_dict_setdefault PySem.F.type_dict_setdefault (Bw (ho pins s σ H _ I h) fun u s1 bA=>?_)
 obtain ⟨x,H1,I1,rx,a,ex,d,q1⟩ := bA
 subst ex
 obtain rfl:u = Value.ref a:=rx
 obtain ⟨t1,t2,_⟩ := S0 I1 d
 refine ⟨t1,t2,?_⟩
 rw [m.trees]
 refine Calls.callWith_builtin rfl (Calls.evalArgs_plain (Calls.spliced_cons (Bw (he pins s1 σ H1 _ I1 q1) fun iv s2 ⟨y,H2,I2,ry,q2⟩ =>
  Calls.spliced_cons (Bw (hf pins s2 σ H2 _ I2 q2) fun fv s3 ⟨z,H3,I3,rz,kvs,k,b,ey,eb,ea,hl,q3,q4⟩=>Calls.spliced_nil ?_))))
 subst ey
 obtain rfl:iv = Value.ref b:=ry
 exact g9 hu I3 ea eb hl rz (fun v w' s4 hv I4 iA=>⟨v,H3,I4,iA,q3 v hv⟩) fun hn s4 I4=>⟨z,_,I4,rz,q4 hn⟩
theorem Sh {a : Expr} {ta : TE} (ha : PE X a ta) (he : ∀ whole, isTrue a X.env whole = (do let v <- whole; standAt a.pos; holding [v] (truthy v)) := by intro _; rfl) :
  PT X a (fun σ H Q=>ta σ H fun x H'=>∃ d kvs,x = .ref d /\ Rd H' d (.dK kvs) /\ Q (!kvs.isEmpty) H'):=by
 intro pins s σ H Q I h
 refine isTrue_plain (Bw (ha pins s σ H _ I h) fun v s1 ⟨x,H1,I1,r1,d,kvs,ex,hd,q1⟩=>?_) (he _)
 subst ex
 obtain rfl:v = Value.ref d:=r1
 obtain ⟨z,hs,vs,rel,dd⟩ := Iv I1.aR hd
 have hl:kvs.length = vs.length:=rel.length
 have h24:sizeLine < 2 ^ 30:=by decide
 refine wpAny_truthy_dict hs dd (by omega) ⟨H1,I1.tok _,?_⟩
 have e:kvs.isEmpty = vs.isEmpty:=by
  cases kvs <;> cases vs <;> simp at hl <;> rfl
 rw [<- e]
 exact q1
end
open PySem PySem.Spec PyProof.Rows PySem.SeqAt
def dr (A:Around) (s:Shared) (x y:Value) (b:Bool):Prop := ∀ (prog:Program) (w:World) (E:Value -> Shared -> Prop) (Q:Value -> Shared -> Prop),Q (.bool b) s -> wpAny (model prog w) A (richCompare .Gt x y) Q E s
theorem du (l b : Addr) (xs ys : Array Value) (n n2 : Nat) (dd z6 : Option Addr) (sl z7 : Array (Option Value)) (e : Nat -> Bool) (r : Bool) :
  Meets (Builtin.«tuple.__gt__» ⟨[.ref l,.ref b],[]⟩)
   (fun A R s=>s.heap.get? l = some { cls := .type "tuple",dict:=dd,data := .seq xs n,slots:=sl } /\ s.heap.get? b = some { cls := .type "tuple",dict:=z6,data := .seq ys n2,slots:=z7 } /\
    (∀ j (h1:j < xs.size) (h2:j < ys.size),EqAt A.in1 s xs[j] ys[j] (e j)) /\ (∀ j (h1:j < xs.size) (h2:j < ys.size),(∀ i,i < j -> e i = true) -> e j = false -> dr A.in1 s xs[j] ys[j] r) /\
    ((∀ j,j < min xs.size ys.size -> e j = true) -> r = decide (xs.size > ys.size)) /\ R (.ok (.ret (.bool r))) s) :=
 .of_wp fun prog w A R s h=>by
  obtain ⟨hp,g,d,tk,os⟩ := s
  obtain ⟨hl,hb,he,hf,hz,h⟩ := h
  have f2:=AutoSeq1.sub_tuple_tuple
  have hZ:(xs.toList.zip ys.toList).length = min xs.size ys.size:=by simp
  wp_walk using wpAny_loadPart' hl,wpAny_loadPart' hb,wpAny_forIn_list _ (fun rest b s'=>b.1 = none /\ s' = ⟨hp,g,d,tk,os⟩ /\ ∃ i,rest = (xs.toList.zip ys.toList).drop i /\ ∀ k,k < i -> k < min xs.size ys.size -> e k = true) _
  case turn =>
   rintro ⟨y,x⟩ rest b s' ⟨oV,rfl,i,hq,hR⟩
   have aX:i < (xs.toList.zip ys.toList).length:=by
    apply Classical.byContradiction
    intro z
    rw [List.drop_of_length_le (by omega)] at hq
    cases hq
   have h1:i < xs.size:=by omega
   have h2:i < ys.size:=by omega
   rw [List.drop_eq_getElem_cons aX] at hq
   injection hq with zL lP
   have hy:y = xs[i]:=by simpa using congrArg Prod.fst zL
   have hx:x = ys[i]:=by simpa using congrArg Prod.snd zL
   subst hy hx
   refine wpAny_bind (he i h1 h2 prog w _ _ ?_)
   cases hy:e i with
   | true =>
    wp_walk
    refine ⟨rfl,rfl,i + 1,lP,fun k hk pS=>?_⟩
    by_cases z:k = i
    ·rw [z]
     exact hy
    ·exact hR k (by omega) pS
   | false =>
    have lE:=hf i h1 h2 (fun k hk=>hR k hk (by omega)) hy prog w
    wp_walk using lE _ _
    exact ⟨_,rfl,h⟩
  case fin =>
   rintro ⟨b1,b2⟩ s' ⟨oV,rfl,i,hq,hR⟩
   simp only at oV
   subst oV
   have hge:min xs.size ys.size <= i:=by
    apply Classical.byContradiction
    intro z
    rw [List.drop_eq_getElem_cons (by omega)] at hq
    cases hq
   have hr:=hz fun j hj=>hR j (by omega) hj
   wp_walk
   refine ⟨_,rfl,?_⟩
   rw [hr] at h
   simpa [Builtin.Tuple.tupleCompareSizes] using h
  case h =>
   exact ⟨rfl,rfl,0,rfl,fun k hk=>absurd hk (Nat.not_lt_zero k)⟩
mutual
def Tn:PyData -> PyData -> Bool
 | .int a,.int b=>decide (a > b)
 | .tuple xs,.tuple ys=>bB xs ys
 | _,_=>false
def bB:List PyData -> List PyData -> Bool
 | [],[]=>false
 | [],_ :: _=>false
 | _ :: _,[]=>true
 | x :: xs,y :: ys=>if PyData.eqv x y then bB xs ys else Tn x y
end
theorem Lw:∀ (xs ys:List PyData),(∀ j,j < min xs.length ys.length -> pairEq xs ys j = true) -> bB xs ys = decide (xs.length > ys.length)
 | [],[],_=>rfl
 | [],y :: ys,_=>by simp [bB]
 | x :: xs,[],_=>by simp [bB]
 | x :: xs,y :: ys,h=>by
  have h0:PyData.eqv x y = true:=h 0 (by simp only [List.length_cons]; omega)
  have ih:=Lw xs ys fun j hj=>h (j + 1) (by simp only [List.length_cons]; omega)
  rw [bB,if_pos h0,ih]
  simp
mutual
theorem Om : ∀ (da db : PyData) (A : Around) (s : Shared) (a b : Value) (as bs : List Addr), Reads s.heap a da as -> Reads s.heap b db bs -> da.canLay0 = true -> db.canLay0 = true -> Gd da db ->
  A.units + min da.depth db.depth < cLine -> dr A s a b (Tn da db)
 | .int x,db,A,s,_,_,_,_,ra,rb,_,_,hc,hu=>by
  cases db with
  | int y =>
   cases ra with
   | int _ t =>
    cases rb with
    | int _ u =>
     intro prog w E Q h
     exact richCompare_gives (op := .Gt) (typeIs_int s _ t) (typeIs_int s _ u) F.slot_int_gt F.entry_int_gt (F.args_int_gt_2 _ _) (gives_int_gt _ _ t u) (fun z=>nomatch z) h
  | none=>exact hc.elim
  | bool _=>exact hc.elim
  | str _=>exact hc.elim
  | list _=>exact hc.elim
  | tuple _=>exact hc.elim
  | dict _=>exact hc.elim
 | .tuple xs,db,A,s,_,_,_,_,ra,rb,ha,hb,hc,hu=>by
  cases db with
  | tuple ys =>
   cases ra with
   | @tuple l o vs n _ as₁ h1 h2 h3 h4 =>
    cases rb with
    | @tuple l' o' oU n' _ bs₁ k1 k2 k3 k4 =>
     obtain ⟨oc,od,JP,gO⟩ := o
     obtain ⟨oc',JQ,JR,uO⟩ := o'
     simp only at h2 h3 k2 k3
     subst h2 h3 k2 k3
     have n1:vs.size = xs.length:=by simpa using ReadsAll.length _ _ _ h4
     have n2:oU.size = ys.length:=by simpa using ReadsAll.length _ _ _ k4
     intro prog w E Q h
     refine richCompare_meets_room (op := .Gt) ⟨_,h1,rfl⟩ ⟨_,k1,rfl⟩ F.slot_tuple_gt F.entry_tuple_gt (F.args_tuple_gt_2 _ _) (du l l' vs oU n n' od JQ gO uO (pairEq xs ys) (bB xs ys)) ⟨h1,k1,fun j j1 j2=>?_,fun j j1 j2 f1 f2=>?_,fun f=>?_,(fun z=>nomatch z),h⟩ (room_here hu)
     ·have:=eqAt_readsAll xs ys A.in1 s vs.toList oU.toList _ _ h4 k4 ha hb (room_in hu) j (by simpa using j1) (by simpa using j2)
      simpa using this
     ·have:=eG xs ys A.in1 s vs.toList oU.toList _ _ h4 k4 ha hb hc (room_in hu) j (by simpa using j1) (by simpa using j2) f1 f2
      simpa using this
     ·rw [n1,n2] at f ⊢
      exact Lw xs ys f
  | none=>exact hc.elim
  | bool _=>exact hc.elim
  | str _=>exact hc.elim
  | list _=>exact hc.elim
  | int _=>exact hc.elim
  | dict _=>exact hc.elim
 | .none,_,_,_,_,_,_,_,_,_,_,_,hc,_=>hc.elim
 | .bool _,_,_,_,_,_,_,_,_,_,_,_,hc,_=>hc.elim
 | .str _,_,_,_,_,_,_,_,_,_,_,_,hc,_=>hc.elim
 | .list _,_,_,_,_,_,_,_,_,_,_,_,hc,_=>hc.elim
 | .dict _,_,_,_,_,_,_,_,_,_,_,_,hc,_=>hc.elim
theorem eG : ∀ (xs ys : List PyData) (A : Around) (s : Shared) (vs ws : List Value) (as bs : List Addr), ReadsAll s.heap vs xs as -> ReadsAll s.heap ws ys bs -> PyData.canLayAll0 xs = true -> PyData.canLayAll0 ys = true -> bE xs ys ->
  A.units + min (PyData.depthAll xs) (PyData.depthAll ys) < cLine -> ∀ j (h1:j < vs.length) (h2:j < ws.length),(∀ i,i < j -> pairEq xs ys i = true) -> pairEq xs ys j = false -> dr A s vs[j] ws[j] (bB xs ys)
 | [],_,_,_,_,_,_,_,ra,_,_,_,_,_,j,h1,_,_,_=>by cases ra; exact absurd h1 (Nat.not_lt_zero _)
 | _ :: _,[],_,_,_,_,_,_,_,rb,_,_,_,_,j,_,h2,_,_=>by cases rb; exact absurd h2 (Nat.not_lt_zero _)
 | x :: xs,y :: ys,A,s,_,_,_,_,ra,rb,ca,cb,hc,hu,j,h1,h2,f1,f2=>by
  cases ra with
  | cons r1 r2 =>
   cases rb with
   | cons q1 q2 =>
    have rA:x.canLay0 = true /\ PyData.canLayAll0 xs = true:=by simpa [PyData.canLayAll0] using ca
    have rB:y.canLay0 = true /\ PyData.canLayAll0 ys = true:=by simpa [PyData.canLayAll0] using cb
    have hd:A.units + min x.depth y.depth < cLine /\ A.units + min (PyData.depthAll xs) (PyData.depthAll ys) < cLine:=by
     simp only [PyData.depthAll] at hu
     omega
    cases j with
    | zero =>
     have e:bB (x :: xs) (y :: ys) = Tn x y:=by
      have f3:PyData.eqv x y = false:=f2
      rw [bB,f3]
      rfl
     rw [e]
     exact Om x y A s _ _ _ _ r1 q1 rA.1 rB.1 hc.1 hd.1
    | succ j =>
     have e:bB (x :: xs) (y :: ys) = bB xs ys:=by
      have f3:PyData.eqv x y = true:=f1 0 (Nat.succ_pos _)
      rw [bB,f3]
      rfl
     rw [e]
     exact eG xs ys A s _ _ _ _ r2 q2 rA.2 rB.2 hc.2 hd.2 j (Nat.lt_of_succ_lt_succ h1) (Nat.lt_of_succ_lt_succ h2) (fun i hi=>f1 (i + 1) (Nat.succ_lt_succ hi)) f2
end
section
variable {X:Cx} {k:Nat}
def qm:R2:=fun x y H Q=>∃ d e:PyData,Rp H d x /\ Rp H e y /\ Gd d e /\ d.depth <= 60 /\ Q (.bl (Tn d e)) H
end
open PySem PySem.Spec PyProof.Rows PySem.SeqAt
theorem Db (bt:Nat -> Nat -> Bool) (j:Nat):argBest bt (j + 1) = if bt (j + 1) (argBest bt j) = true then j + 1 else argBest bt j:=by
 first
  | rfl
  | (show (if bt (j + 1) (argBest bt j) then j + 1 else argBest bt j) = _; rfl)
section
variable {prog:Program} {w:World} {A:Around} {R:Result -> Shared -> Prop} {I S:Addr} {fp wr:List Addr} {St:Nat -> Heap -> Prop} {aH:Array Value} {bt:Nat -> Nat -> Bool} {Good:Heap -> Prop}
theorem Nz {a : Args} {s : Shared} (h : wpAny (model prog w) A.in1 (Builtin.«min.loop» a) (fun fin s' => match fin with
   | .done f=>R (.ok f) s'
   | .again c'=>c'.quiet = true /\ codeAny (model prog w) A c' R s') (fun e s'=>R (.error e) s') s):codeAny (model prog w) A (.builtin "min.loop" a) R s:=by
 refine codeAny_builtin F.entry_min_loop ?_; rw [Around.under_plainId F.plain_min_loop _]
 exact h
theorem Yp (W : Walks prog w A.in1 I fp wr aH.size (fun i v => aH[i]? = some v) St) (hG : ∀ h h', Good h -> (∀ b o, b ∉ wr -> b ≠ S -> h.get? b = some o -> h'.get? b = some o) -> Good h')
  (hc:∀ i j vi vj (s:Shared),Good s.heap -> aH[i]? = some vi -> aH[j]? = some vj -> ∀ E Q,Q (.bool (bt i j)) s -> wpAny (model prog w) A.in1 (richCompare .Lt vi vj) Q E s) (kL:S ∉ fp) :
  ∀ (k j:Nat) (s:Shared) (vb:Value) (c:Nat),aH.size = j + 1 + k -> St (j + 1) s.heap -> Good s.heap -> aH[argBest bt j]? = some vb ->
  s.heap.get? S = some { cls := .type "list",dict:=none,data := .seq #[vb,vb] c,slots := #[] } ->
  (∀ v h' tk,aH[argBest bt (aH.size - 1)]? = some v -> (∀ b o,b ∉ wr -> b ≠ S -> s.heap.get? b = some o -> h'.get? b = some o) -> R (.ok (.ret v)) { s with heap:=h',toks:=tk }) ->
  codeAny (model prog w) A (.builtin "min.loop" ⟨[.ref I,.none,.ref S],[]⟩) R s:=by
 have pU:S ∉ wr:=fun z=>kL (W.sub _ z)
 have nm:(toString "min" ++ toString ".loop" : String) = "min.loop" := by decide
 intro k
 induction k with
 | zero =>
  intro j s vb c hk fO hg lR hS hR
  refine Nz ?_
  refine wpAny_bind ( wpAny_seqItems hS rfl ?_)
  show wpAny (model prog w) A.in1 (tryCatch (pyNext (.ref I)) _ >>= _) _ _ s
  have ej:j + 1 = aH.size:=by omega
  refine wpAny_bind (wpAny_tryCatch (W.done s _ _ (ej ▸ fO) fun h1 pV k1=>?_))
  have gQ:=k1 S _ pU hS
  show wpAny (model prog w) A.in1 (updateSeq S (fun _=>#[]) >>= _) _ _ _
  refine wpAny_bind ?_
  refine wpAny_updateSeq gQ rfl (wpAny_bind (wpAny_letGo (wpAny_pure ?_)))
  have e2:aH.size - 1 = j:=by omega
  exact hR vb _ pV (by rw [e2]; exact lR) fun b o z1 z2 e=>(Heap.get?_update_other _ _ (Ne.symm z2)).trans (k1 b o z1 e)
 | succ k ih =>
  intro j s vb c hk fO hg lR hS hR
  refine Nz ?_
  refine wpAny_bind ( wpAny_seqItems hS rfl ?_)
  show wpAny (model prog w) A.in1 (tryCatch (pyNext (.ref I)) _ >>= _) _ _ s
  refine wpAny_bind (wpAny_tryCatch (W.item (j + 1) s _ _ (by omega) fO fun v h1 pV hP bL k1=>?_))
  have gQ:=k1 S _ pU hS
  have jB:Good h1:=hG _ _ hg fun b o z1 _ e=>k1 b o z1 e
  refine wpAny_bind (wpAny_pure ?_)
  refine wpAny_bind (wpAny_tryCatch (wpAny_holding (wpAny_bind ?_)))
  refine hc (j + 1) (argBest bt j) v vb { s with heap:=h1,toks:=pV } jB hP lR _ _ ?_
  refine wpAny_bind (wpAny_holding (wpAny_truthy_bool ?_))
  refine wpAny_bind (wpAny_letGo (wpAny_pure ?_))
  have eb:=Db bt j
  cases hb:bt (j + 1) (argBest bt j) with
  | true =>
   rw [hb,if_pos rfl] at eb
   simp only [if_true]
   refine wpAny_bind ?_
   refine wpAny_updateSeq gQ rfl (wpAny_bind (wpAny_letGo ?_))
   rw [nm]
   refine wpAny_pure ⟨plainId_quiet F.plain_min_loop _,ih (j + 1) _ v _ (by omega) (W.frame _ _ _ bL fun b z o e=>?_) (hG _ _ jB fun b o z1 z2 e=>(Heap.get?_update_other _ _ (Ne.symm z2)).trans e) (by rw [eb]; exact hP) (Heap.get?_update_self _ gQ rfl) fun v2 h2 lS top2 k2=>?_⟩
   ·exact (Heap.get?_update_other _ _ (fun y:S = b=>kL (by rw [y]; exact z))).trans e
   ·exact hR v2 h2 lS top2 fun b o z1 z2 e=>k2 b o z1 z2 ((Heap.get?_update_other _ _ (Ne.symm z2)).trans (k1 b o z1 e))
  | false =>
   rw [hb,if_neg Bool.false_ne_true] at eb
   simp only [Bool.false_eq_true,if_false]
   refine wpAny_bind (wpAny_letGo ?_)
   rw [nm]
   refine wpAny_pure ⟨plainId_quiet F.plain_min_loop _,ih (j + 1) _ vb c (by omega) bL jB (by rw [eb]; exact lR) gQ fun v2 h2 lS top2 k2=>?_⟩
   exact hR v2 h2 lS top2 fun b o z1 z2 e=>k2 b o z1 z2 (k1 b o z1 e)
theorem Qi (W : Walks prog w A.in1 I fp wr aH.size (fun i v => aH[i]? = some v) St) (hG : ∀ h h', Good h -> (∀ b o, b ∉ wr -> b ≠ S -> h.get? b = some o -> h'.get? b = some o) -> Good h')
  (hc:∀ i j vi vj (s:Shared),Good s.heap -> aH[i]? = some vi -> aH[j]? = some vj -> ∀ E Q,Q (.bool (bt i j)) s -> wpAny (model prog w) A.in1 (richCompare .Lt vi vj) Q E s) (kL:S ∉ fp) {s:Shared} {c:Nat} (fO:St 0 s.heap) (hg:Good s.heap)
  (hS:s.heap.get? S = some { cls := .type "list",dict:=none,data := .seq #[] c,slots := #[] }) (hn:0 < aH.size)
  (hR:∀ v h' tk,aH[argBest bt (aH.size - 1)]? = some v -> (∀ b o,b ∉ wr -> b ≠ S -> s.heap.get? b = some o -> h'.get? b = some o) -> R (.ok (.ret v)) { s with heap:=h',toks:=tk }) :
  codeAny (model prog w) A (.builtin "min.loop" ⟨[.ref I,.none,.ref S],[]⟩) R s:=by
 have pU:S ∉ wr:=fun z=>kL (W.sub _ z)
 have nm:(toString "min" ++ toString ".loop" : String) = "min.loop" := by decide
 refine Nz ?_
 refine wpAny_bind ( wpAny_seqItems hS rfl ?_)
 show wpAny (model prog w) A.in1 (tryCatch (pyNext (.ref I)) _ >>= _) _ _ s
 refine wpAny_bind (wpAny_tryCatch (W.item 0 s _ _ hn fO fun v h1 pV hP bL k1=>?_))
 have gQ:=k1 S _ pU hS
 have jB:Good h1:=hG _ _ hg fun b o z1 _ e=>k1 b o z1 e
 show wpAny (model prog w) A.in1 (updateSeq S (fun _=>#[v,v]) >>= _) _ _ _
 refine wpAny_bind ?_
 refine wpAny_updateSeq gQ rfl ?_
 rw [nm]
 refine wpAny_pure ⟨plainId_quiet F.plain_min_loop _,Yp W hG hc kL (aH.size - 1) 0 _ v _ (by omega) (W.frame _ _ _ bL fun b z o e=>?_) (hG _ _ jB fun b o z1 z2 e=>(Heap.get?_update_other _ _ (Ne.symm z2)).trans e) hP (Heap.get?_update_self _ gQ rfl) fun v2 h2 lS top2 k2=>?_⟩
 ·exact (Heap.get?_update_other _ _ (fun y:S = b=>kL (by rw [y]; exact z))).trans e
 ·exact hR v2 h2 lS top2 fun b o z1 z2 e=>k2 b o z1 z2 ((Heap.get?_update_other _ _ (Ne.symm z2)).trans (k1 b o z1 e))
end
section
variable {prog:Program} {w:World} {A:Around} {R:Result -> Shared -> Prop} {I S:Addr} {fp wr:List Addr} {St:Nat -> Heap -> Prop} {aH:Array Value} {bt:Nat -> Nat -> Bool} {Good:Heap -> Prop}
theorem O0 {a : Args} {s : Shared} (h : wpAny (model prog w) A.in1 (Builtin.«max.loop» a) (fun fin s' => match fin with
   | .done f=>R (.ok f) s'
   | .again c'=>c'.quiet = true /\ codeAny (model prog w) A c' R s') (fun e s'=>R (.error e) s') s):codeAny (model prog w) A (.builtin "max.loop" a) R s:=by
 refine codeAny_builtin F.entry_max_loop ?_; rw [Around.under_plainId F.plain_max_loop _]
 exact h
theorem Ya (W : Walks prog w A.in1 I fp wr aH.size (fun i v => aH[i]? = some v) St) (hG : ∀ h h', Good h -> (∀ b o, b ∉ wr -> b ≠ S -> h.get? b = some o -> h'.get? b = some o) -> Good h')
  (hc:∀ i j vi vj (s:Shared),Good s.heap -> aH[i]? = some vi -> aH[j]? = some vj -> ∀ E Q,Q (.bool (bt i j)) s -> wpAny (model prog w) A.in1 (richCompare .Gt vi vj) Q E s) (kL:S ∉ fp) :
  ∀ (k j:Nat) (s:Shared) (vb:Value) (c:Nat),aH.size = j + 1 + k -> St (j + 1) s.heap -> Good s.heap -> aH[argBest bt j]? = some vb ->
  s.heap.get? S = some { cls := .type "list",dict:=none,data := .seq #[vb,vb] c,slots := #[] } ->
  (∀ v h' tk,aH[argBest bt (aH.size - 1)]? = some v -> (∀ b o,b ∉ wr -> b ≠ S -> s.heap.get? b = some o -> h'.get? b = some o) -> R (.ok (.ret v)) { s with heap:=h',toks:=tk }) ->
  codeAny (model prog w) A (.builtin "max.loop" ⟨[.ref I,.none,.ref S],[]⟩) R s:=by
 have pU:S ∉ wr:=fun z=>kL (W.sub _ z)
 have nm:(toString "max" ++ toString ".loop" : String) = "max.loop" := by decide
 intro k
 induction k with
 | zero =>
  intro j s vb c hk fO hg lR hS hR
  refine O0 ?_
  refine wpAny_bind ( wpAny_seqItems hS rfl ?_)
  show wpAny (model prog w) A.in1 (tryCatch (pyNext (.ref I)) _ >>= _) _ _ s
  have ej:j + 1 = aH.size:=by omega
  refine wpAny_bind (wpAny_tryCatch (W.done s _ _ (ej ▸ fO) fun h1 pV k1=>?_))
  have gQ:=k1 S _ pU hS
  show wpAny (model prog w) A.in1 (updateSeq S (fun _=>#[]) >>= _) _ _ _
  refine wpAny_bind ?_
  refine wpAny_updateSeq gQ rfl (wpAny_bind (wpAny_letGo (wpAny_pure ?_)))
  have e2:aH.size - 1 = j:=by omega
  exact hR vb _ pV (by rw [e2]; exact lR) fun b o z1 z2 e=>(Heap.get?_update_other _ _ (Ne.symm z2)).trans (k1 b o z1 e)
 | succ k ih =>
  intro j s vb c hk fO hg lR hS hR
  refine O0 ?_
  refine wpAny_bind ( wpAny_seqItems hS rfl ?_)
  show wpAny (model prog w) A.in1 (tryCatch (pyNext (.ref I)) _ >>= _) _ _ s
  refine wpAny_bind (wpAny_tryCatch (W.item (j + 1) s _ _ (by omega) fO fun v h1 pV hP bL k1=>?_))
  have gQ:=k1 S _ pU hS
  have jB:Good h1:=hG _ _ hg fun b o z1 _ e=>k1 b o z1 e
  refine wpAny_bind (wpAny_pure ?_)
  refine wpAny_bind (wpAny_tryCatch (wpAny_holding (wpAny_bind ?_)))
  refine hc (j + 1) (argBest bt j) v vb { s with heap:=h1,toks:=pV } jB hP lR _ _ ?_
  refine wpAny_bind (wpAny_holding (wpAny_truthy_bool ?_))
  refine wpAny_bind (wpAny_letGo (wpAny_pure ?_))
  have eb:=Db bt j
  cases hb:bt (j + 1) (argBest bt j) with
  | true =>
   rw [hb,if_pos rfl] at eb
   simp only [if_true]
   refine wpAny_bind ?_
   refine wpAny_updateSeq gQ rfl (wpAny_bind (wpAny_letGo ?_))
   rw [nm]
   refine wpAny_pure ⟨plainId_quiet F.plain_max_loop _,ih (j + 1) _ v _ (by omega) (W.frame _ _ _ bL fun b z o e=>?_) (hG _ _ jB fun b o z1 z2 e=>(Heap.get?_update_other _ _ (Ne.symm z2)).trans e) (by rw [eb]; exact hP) (Heap.get?_update_self _ gQ rfl) fun v2 h2 lS top2 k2=>?_⟩
   ·exact (Heap.get?_update_other _ _ (fun y:S = b=>kL (by rw [y]; exact z))).trans e
   ·exact hR v2 h2 lS top2 fun b o z1 z2 e=>k2 b o z1 z2 ((Heap.get?_update_other _ _ (Ne.symm z2)).trans (k1 b o z1 e))
  | false =>
   rw [hb,if_neg Bool.false_ne_true] at eb
   simp only [Bool.false_eq_true,if_false]
   refine wpAny_bind (wpAny_letGo ?_)
   rw [nm]
   refine wpAny_pure ⟨plainId_quiet F.plain_max_loop _,ih (j + 1) _ vb c (by omega) bL jB (by rw [eb]; exact lR) gQ fun v2 h2 lS top2 k2=>?_⟩
   exact hR v2 h2 lS top2 fun b o z1 z2 e=>k2 b o z1 z2 (k1 b o z1 e)
theorem Ri (W : Walks prog w A.in1 I fp wr aH.size (fun i v => aH[i]? = some v) St) (hG : ∀ h h', Good h -> (∀ b o, b ∉ wr -> b ≠ S -> h.get? b = some o -> h'.get? b = some o) -> Good h')
  (hc:∀ i j vi vj (s:Shared),Good s.heap -> aH[i]? = some vi -> aH[j]? = some vj -> ∀ E Q,Q (.bool (bt i j)) s -> wpAny (model prog w) A.in1 (richCompare .Gt vi vj) Q E s) (kL:S ∉ fp) {s:Shared} {c:Nat} (fO:St 0 s.heap) (hg:Good s.heap)
  (hS:s.heap.get? S = some { cls := .type "list",dict:=none,data := .seq #[] c,slots := #[] }) (hn:0 < aH.size)
  (hR:∀ v h' tk,aH[argBest bt (aH.size - 1)]? = some v -> (∀ b o,b ∉ wr -> b ≠ S -> s.heap.get? b = some o -> h'.get? b = some o) -> R (.ok (.ret v)) { s with heap:=h',toks:=tk }) :
  codeAny (model prog w) A (.builtin "max.loop" ⟨[.ref I,.none,.ref S],[]⟩) R s:=by
 have pU:S ∉ wr:=fun z=>kL (W.sub _ z)
 have nm:(toString "max" ++ toString ".loop" : String) = "max.loop" := by decide
 refine O0 ?_
 refine wpAny_bind ( wpAny_seqItems hS rfl ?_)
 show wpAny (model prog w) A.in1 (tryCatch (pyNext (.ref I)) _ >>= _) _ _ s
 refine wpAny_bind (wpAny_tryCatch (W.item 0 s _ _ hn fO fun v h1 pV hP bL k1=>?_))
 have gQ:=k1 S _ pU hS
 have jB:Good h1:=hG _ _ hg fun b o z1 _ e=>k1 b o z1 e
 show wpAny (model prog w) A.in1 (updateSeq S (fun _=>#[v,v]) >>= _) _ _ _
 refine wpAny_bind ?_
 refine wpAny_updateSeq gQ rfl ?_
 rw [nm]
 refine wpAny_pure ⟨plainId_quiet F.plain_max_loop _,Ya W hG hc kL (aH.size - 1) 0 _ v _ (by omega) (W.frame _ _ _ bL fun b z o e=>?_) (hG _ _ jB fun b o z1 z2 e=>(Heap.get?_update_other _ _ (Ne.symm z2)).trans e) hP (Heap.get?_update_self _ gQ rfl) fun v2 h2 lS top2 k2=>?_⟩
 ·exact (Heap.get?_update_other _ _ (fun y:S = b=>kL (by rw [y]; exact z))).trans e
 ·exact hR v2 h2 lS top2 fun b o z1 z2 e=>k2 b o z1 z2 ((Heap.get?_update_other _ _ (Ne.symm z2)).trans (k1 b o z1 e))
end
open PySem PySem.Spec PyProof.Rows PySem.SeqAt
theorem Hz {H:Hp}:∀ {ds:List PyData} {us:List V} {i:Nat} {d:PyData},aM H ds us -> ds[i]? = some d -> ∃ u,us[i]? = some u /\ Rp H d u
 | [],_,i,d,_,e=>by simp at e
 | x :: ds,us,0,d,h,e=>by
  unfold aM at h
  obtain ⟨u,gF,rfl,h1,_⟩ := h
  cases e
  exact ⟨u,rfl,h1⟩
 | x :: ds,us,i + 1,d,h,e=>by
  unfold aM at h
  obtain ⟨u,gF,rfl,_,h2⟩ := h
  obtain ⟨u2,e1,e2⟩ := Hz (i:=i) h2 (by simpa using e)
  exact ⟨u2,by simpa using e1,e2⟩
theorem Ef {H:Hp}:∀ {ds:List PyData} {us:List V},aM H ds us -> us.length = ds.length
 | [],us,h=>by
  unfold aM at h
  rw [h]
  rfl
 | x :: ds,us,h=>by
  unfold aM at h
  obtain ⟨u,gF,rfl,_,h2⟩ := h
  rw [List.length_cons,List.length_cons,Ef h2]
theorem Hm {xs:List V} {us:List Value} {i:Nat} {u:Value} (r:An xs us) (h:us[i]? = some u):∃ x,xs[i]? = some x /\ Ao x u:=by
 have hi:=(List.getElem?_eq_some_iff.mp h).1
 have hl:=r.length
 obtain ⟨u2,e1,e2⟩ := r.get (List.getElem?_eq_getElem (show i < xs.length by omega))
 rw [h] at e1
 cases e1
 exact ⟨_,List.getElem?_eq_getElem (by omega),e2⟩
section
variable {X:Cx} {k:Nat}
theorem Ut (a:Value):argsOk "min" ⟨[a],[]⟩ := by
 unfold argsOk
 kernel_rfl
def Jk (ds:List PyData):Nat:=argBest (fun i j=>Gc (ds.getD i .none) (ds.getD j .none)) (ds.length - 1)
theorem Zx {pins : List (Addr × Obj)} {s : Shared} {σ : St} {H : Hp} {us : List V} {aH : List Value} {ds : List PyData} (hr : C0 k X.A) (I : Ae X pins σ H s) (rv : An us aH) (hd : aM H ds us) (iP : ∀ d ∈ ds, ∀ e ∈ ds, Gd d e) (uS : ∀ d ∈ ds, d.depth <= 50) (i j : Nat) (vi vj : Value) (s' : Shared)
  (hk:∀ b o,s.heap.get? b = some o -> s'.heap.get? b = some o) (h1:aH.toArray[i]? = some vi) (h2:aH.toArray[j]? = some vj) (E Q:Value -> Shared -> Prop) (q:Q (.bool (Gc (ds.getD i .none) (ds.getD j .none))) s'):wpAny (model X.prog X.w) X.A.in1 (richCompare .Lt vi vj) Q E s':=by
 have hl:=Ef hd
 have get:∀ (m:Nat) (vm:Value),aH.toArray[m]? = some vm -> ∃ x,Ao x vm /\ Rp H (ds.getD m .none) x /\ ds.getD m .none ∈ ds:=fun m vm h=>by
  obtain ⟨x,e1,e2⟩ := Hm rv (by simpa using h)
  have hm:m < ds.length:=by
   have:=(List.getElem?_eq_some_iff.mp e1).1
   omega
  have e3:ds[m]? = some (ds.getD m .none):=by
   rw [List.getD_eq_getElem?_getD,List.getElem?_eq_getElem hm]
   rfl
  obtain ⟨x2,f1,f2⟩ := Hz hd e3
  rw [e1] at f1
  cases f1
  exact ⟨x,e2,f2,List.mem_of_getElem? e3⟩
 obtain ⟨x,rx,px,mx⟩ := get i vi h1
 obtain ⟨y,ry,py,my⟩ := get j vj h2
 have I':Ae X pins σ H { s with heap:=s'.heap,toks:=s'.toks }:=I.kept (t':=s'.toks) hk
 obtain ⟨as,q1⟩ := Ce I' _ x vi px rx
 obtain ⟨bs,q2⟩ := Ce I' _ y vj py ry
 have hu:=hr.units
 have d1:=uS _ mx
 exact Hk _ _ X.A.in1 s' vi vj as bs q1 q2 (Cd _ x px) (Cd _ y py) (iP _ mx _ my) (by show X.A.units + 1 + _ < _; omega) _ _ _ _ q
def jg (K:PySem.W.Frag):List V -> Hp -> VK -> Prop:=fun xs H Q=>∃ (p:Addr) (us:List V) (ds:List PyData),xs = [.ref p] /\ Bj K H p us /\ aM H ds us /\ 0 < us.length /\ (∀ d ∈ ds,∀ e ∈ ds,Gd d e) /\ (∀ d ∈ ds,d.depth <= 50) /\ ∀ v,us[Jk ds]? = some v -> Q v H
theorem Uu (K:PySem.W.Frag) (hr:C0 k X.A) (hc:X.calm = true) (hK:X.K = K:=by rfl):El X (.builtin "min") (jg K):=by
 subst hK
 intro pins s σ H xs us0 Q I r h
 obtain ⟨p,us,ds,rfl,hq,hd,dX,iP,uS,q⟩ := h
 obtain ⟨u,rfl,rx⟩ := Ke r
 cases rx
 obtain ⟨aH,rv,pl,hz⟩ := I.list hq
 have hl:=Ef hd
 have hil:=rv.length
 have nm:(toString "min" ++ toString ".loop" : String) = "min.loop" := by decide
 refine Mh (args:=⟨[.ref p],[]⟩) F.kind_min F.plain_min F.entry_min (Ut _) ?_
 show wpAny (model X.prog X.w) X.A.in1 (Builtin.Builtins.bindParams "min" ["key","default"] 0 ⟨[],[]⟩ >>= _) _ _ s
 refine wpAny_bind (wpAny_of_eq (show Builtin.Builtins.bindParams "min" ["key","default"] 0 ⟨[],[]⟩ = pure [none,none] from ?_) ?_)
 ·kernel_rfl
 refine wpAny_bind (wpAny_pure ?_)
 refine wpAny_bind (wpAny_pyIter_list pl.isList ?_)
 refine wpAny_bind (wpAny_newObj_type ?_)
 rw [nm]
 refine wpAny_pure ⟨plainId_quiet F.plain_min_loop _,?_⟩
 have lT:p < s.heap.objs.size:=pl.lt
 have W:=Walks.list (prog:=X.prog) (w:=X.w) (A:=X.A.in1) (I.ok.hd hc) s.heap.objs.size p (Nat.ne_of_lt lT) aH.toArray
 have hsz:(s.heap.push { cls := .type "list_iterator",data := .fields #[.ref p,.int 0 0] }).objs.size = s.heap.objs.size + 1:=by simp [Heap.push]
 refine Qi (S:=(s.heap.push { cls := .type "list_iterator",data := .fields #[.ref p,.int 0 0] }).objs.size) (bt:=fun i j=>Gc (ds.getD i .none) (ds.getD j .none)) (Good:=fun h=>∀ b o,s.heap.get? b = some o -> h.get? b = some o) W (fun h h' g kk b o e=>kk b o ?_ ?_ (g b o e)) (fun i j vi vj s' g h1 h2 E Q' q'=>Zx hr I rv hd iP uS i j vi vj s' g h1 h2 E Q' q') ?_ ⟨⟨_,Heap.get?_push_of_some _ (Heap.get?_push_size _ rfl),rfl,rfl⟩,?_⟩ (fun b o e=>Heap.get?_push_of_some _ (Heap.get?_push_of_some _ e)) (Heap.get?_push_size _ rfl) (by simp; omega) (fun v h' tk e kk=>?_)
 ·exact fun z=>Nat.ne_of_lt (Heap.lt_size e) (by simpa using z)
 ·rw [hsz]
  exact Nat.ne_of_lt (Nat.lt_succ_of_lt (Heap.lt_size e))
 ·rw [hsz]
  intro z
  have z':s.heap.objs.size + 1 = s.heap.objs.size \/ s.heap.objs.size + 1 = p:=by simpa using z
  rcases z' with z' | z'
  ·exact Nat.succ_ne_self _ z'
  ·exact Nat.lt_irrefl _ (Nat.lt_trans (Nat.lt_succ_self _) (z'.symm ▸ lT:s.heap.objs.size + 1 < s.heap.objs.size))
 ·obtain ⟨o,ho,r1⟩ := pl.isList
  exact ⟨o,Heap.get?_push_of_some _ (Heap.get?_push_of_some _ ho),r1⟩
 ·have JV : aH.toArray.size - 1 = ds.length - 1 := by
   simp
   omega
  rw [JV] at e
  obtain ⟨x,e1,e2⟩ := Hm rv (by simpa using e)
  refine ⟨x,H,I.kept (t':=tk) (fun b o z=>kk b o ?_ ?_ (Heap.get?_push_of_some _ (Heap.get?_push_of_some _ z))),e2,q x e1⟩
  ·exact fun y=>Nat.ne_of_lt (Heap.lt_size z) (by simpa using y)
  ·rw [hsz]
   exact Nat.ne_of_lt (Nat.lt_succ_of_lt (Heap.lt_size z))
def pf:List V -> Hp -> VK -> Prop:=fun xs H Q=>∃ (x y:V) (d e:PyData),xs = [x,y] /\ Rp H d x /\ Rp H e y /\ (∀ a ∈ [d,e],∀ b ∈ [d,e],Gd a b) /\ d.depth <= 50 /\ e.depth <= 50 /\ Q (if Gc e d = true then y else x) H
end
section
variable {X:Cx} {k:Nat}
theorem U4 (a:Value):argsOk "max" ⟨[a],[]⟩ := by
 unfold argsOk
 kernel_rfl
def D2 (ds:List PyData):Nat:=argBest (fun i j=>Tn (ds.getD i .none) (ds.getD j .none)) (ds.length - 1)
theorem bp {pins : List (Addr × Obj)} {s : Shared} {σ : St} {H : Hp} {us : List V} {aH : List Value} {ds : List PyData} (hr : C0 k X.A) (I : Ae X pins σ H s) (rv : An us aH) (hd : aM H ds us) (iP : ∀ d ∈ ds, ∀ e ∈ ds, Gd d e) (uS : ∀ d ∈ ds, d.depth <= 50) (i j : Nat) (vi vj : Value) (s' : Shared)
  (hk:∀ b o,s.heap.get? b = some o -> s'.heap.get? b = some o) (h1:aH.toArray[i]? = some vi) (h2:aH.toArray[j]? = some vj) (E Q:Value -> Shared -> Prop) (q:Q (.bool (Tn (ds.getD i .none) (ds.getD j .none))) s'):wpAny (model X.prog X.w) X.A.in1 (richCompare .Gt vi vj) Q E s':=by
 have hl:=Ef hd
 have get:∀ (m:Nat) (vm:Value),aH.toArray[m]? = some vm -> ∃ x,Ao x vm /\ Rp H (ds.getD m .none) x /\ ds.getD m .none ∈ ds:=fun m vm h=>by
  obtain ⟨x,e1,e2⟩ := Hm rv (by simpa using h)
  have hm:m < ds.length:=by
   have:=(List.getElem?_eq_some_iff.mp e1).1
   omega
  have e3:ds[m]? = some (ds.getD m .none):=by
   rw [List.getD_eq_getElem?_getD,List.getElem?_eq_getElem hm]
   rfl
  obtain ⟨x2,f1,f2⟩ := Hz hd e3
  rw [e1] at f1
  cases f1
  exact ⟨x,e2,f2,List.mem_of_getElem? e3⟩
 obtain ⟨x,rx,px,mx⟩ := get i vi h1
 obtain ⟨y,ry,py,my⟩ := get j vj h2
 have I':Ae X pins σ H { s with heap:=s'.heap,toks:=s'.toks }:=I.kept (t':=s'.toks) hk
 obtain ⟨as,q1⟩ := Ce I' _ x vi px rx
 obtain ⟨bs,q2⟩ := Ce I' _ y vj py ry
 have hu:=hr.units
 have d1:=uS _ mx
 exact Om _ _ X.A.in1 s' vi vj as bs q1 q2 (Cd _ x px) (Cd _ y py) (iP _ mx _ my) (by show X.A.units + 1 + _ < _; omega) _ _ _ _ q
def gi (K:PySem.W.Frag):List V -> Hp -> VK -> Prop:=fun xs H Q=>∃ (p:Addr) (us:List V) (ds:List PyData),xs = [.ref p] /\ Bj K H p us /\ aM H ds us /\ 0 < us.length /\ (∀ d ∈ ds,∀ e ∈ ds,Gd d e) /\ (∀ d ∈ ds,d.depth <= 50) /\ ∀ v,us[D2 ds]? = some v -> Q v H
theorem Tw (K:PySem.W.Frag) (hr:C0 k X.A) (hc:X.calm = true) (hK:X.K = K:=by rfl):El X (.builtin "max") (gi K):=by
 subst hK
 intro pins s σ H xs us0 Q I r h
 obtain ⟨p,us,ds,rfl,hq,hd,dX,iP,uS,q⟩ := h
 obtain ⟨u,rfl,rx⟩ := Ke r
 cases rx
 obtain ⟨aH,rv,pl,hz⟩ := I.list hq
 have hl:=Ef hd
 have hil:=rv.length
 have nm:(toString "max" ++ toString ".loop" : String) = "max.loop" := by decide
 refine Mh (args:=⟨[.ref p],[]⟩) F.kind_max F.plain_max F.entry_max (U4 _) ?_
 show wpAny (model X.prog X.w) X.A.in1 (Builtin.Builtins.bindParams "max" ["key","default"] 0 ⟨[],[]⟩ >>= _) _ _ s
 refine wpAny_bind (wpAny_of_eq (show Builtin.Builtins.bindParams "max" ["key","default"] 0 ⟨[],[]⟩ = pure [none,none] from ?_) ?_)
 ·kernel_rfl
 refine wpAny_bind (wpAny_pure ?_)
 refine wpAny_bind (wpAny_pyIter_list pl.isList ?_)
 refine wpAny_bind (wpAny_newObj_type ?_)
 rw [nm]
 refine wpAny_pure ⟨plainId_quiet F.plain_max_loop _,?_⟩
 have lT:p < s.heap.objs.size:=pl.lt
 have W:=Walks.list (prog:=X.prog) (w:=X.w) (A:=X.A.in1) (I.ok.hd hc) s.heap.objs.size p (Nat.ne_of_lt lT) aH.toArray
 have hsz:(s.heap.push { cls := .type "list_iterator",data := .fields #[.ref p,.int 0 0] }).objs.size = s.heap.objs.size + 1:=by simp [Heap.push]
 refine Ri (S:=(s.heap.push { cls := .type "list_iterator",data := .fields #[.ref p,.int 0 0] }).objs.size) (bt:=fun i j=>Tn (ds.getD i .none) (ds.getD j .none)) (Good:=fun h=>∀ b o,s.heap.get? b = some o -> h.get? b = some o) W (fun h h' g kk b o e=>kk b o ?_ ?_ (g b o e)) (fun i j vi vj s' g h1 h2 E Q' q'=>bp hr I rv hd iP uS i j vi vj s' g h1 h2 E Q' q') ?_ ⟨⟨_,Heap.get?_push_of_some _ (Heap.get?_push_size _ rfl),rfl,rfl⟩,?_⟩ (fun b o e=>Heap.get?_push_of_some _ (Heap.get?_push_of_some _ e)) (Heap.get?_push_size _ rfl) (by simp; omega) (fun v h' tk e kk=>?_)
 ·exact fun z=>Nat.ne_of_lt (Heap.lt_size e) (by simpa using z)
 ·rw [hsz]
  exact Nat.ne_of_lt (Nat.lt_succ_of_lt (Heap.lt_size e))
 ·rw [hsz]
  intro z
  have z':s.heap.objs.size + 1 = s.heap.objs.size \/ s.heap.objs.size + 1 = p:=by simpa using z
  rcases z' with z' | z'
  ·exact Nat.succ_ne_self _ z'
  ·exact Nat.lt_irrefl _ (Nat.lt_trans (Nat.lt_succ_self _) (z'.symm ▸ lT:s.heap.objs.size + 1 < s.heap.objs.size))
 ·obtain ⟨o,ho,r1⟩ := pl.isList
  exact ⟨o,Heap.get?_push_of_some _ (Heap.get?_push_of_some _ ho),r1⟩
 ·have JV : aH.toArray.size - 1 = ds.length - 1 := by
   simp
   omega
  rw [JV] at e
  obtain ⟨x,e1,e2⟩ := Hm rv (by simpa using e)
  refine ⟨x,H,I.kept (t':=tk) (fun b o z=>kk b o ?_ ?_ (Heap.get?_push_of_some _ (Heap.get?_push_of_some _ z))),e2,q x e1⟩
  ·exact fun y=>Nat.ne_of_lt (Heap.lt_size z) (by simpa using y)
  ·rw [hsz]
   exact Nat.ne_of_lt (Nat.lt_succ_of_lt (Heap.lt_size z))
def o6:List V -> Hp -> VK -> Prop:=fun xs H Q=>∃ (x y:V) (d e:PyData),xs = [x,y] /\ Rp H d x /\ Rp H e y /\ (∀ a ∈ [d,e],∀ b ∈ [d,e],Gd a b) /\ d.depth <= 50 /\ e.depth <= 50 /\ Q (if Tn e d = true then y else x) H
end
section
variable {prog:Program} {w:World} {K:Type} [DecidableEq K] {knd:HeapKind prog w K} {A:Around} {E:Value -> Shared -> Prop} {s:Shared} {d:Addr} {xs:List (K × Addr × Value)}
end
section
variable {X:Cx}
end
section
variable {X:Cx} {pos:Pos} {ke ve:Expr} {tk tv:TE}
def lp (tk tv:TE):TE:=fun σ H Q=>∀ p,H p = none -> O9 [(tk,tv)] σ (upd H p (.dT [])) fun ps H2=>H2 p = some (.dT []) /\ ∃ b k y,ps = [(.ref b,y)] /\ F4 H2 b k /\ Q (.ref p) (upd H2 p (.dT [(k,y)]))
end
section
variable {P:Program} {w:World} {A:Around} {E:Value -> Shared -> Prop} {s:Shared}
end
section
variable {X:Cx}
def nn (P:Program) (w:World):List V -> Hp -> VK -> Prop:=fun xs H Q=>∃ (D:Addr) (kvs:List ((List Int × Int) × V)),xs = [.ref D] /\ H D = some (.dT kvs) /\ (kvs.map fun kv=>Ft P w kv.1).Nodup /\ ∀ d,H d = none -> Q (.ref d) (upd H d (.dT kvs))
end
section
variable {X:Cx} {pins:List (Addr × Obj)} {σ:St} {H:Hp} {s:Shared} {k:Nat}
theorem Pz (I:Ae X pins σ H s) {d:PyData}:∀ {ds:List PyData} {vs:List V} {us:List Value},aM H ds vs -> An vs us -> ds.length = us.length /\ ∀ (m:Nat) (w:Value) (e:PyData),us[m]? = some w -> ds[m]? = some e -> Hc s.heap d w = PyData.eqv e d
 | [],vs,us,h,r=>by
  unfold aM at h
  subst h
  cases r
  exact ⟨rfl,fun m w e z=>by simp at z⟩
 | e :: ds,vs,us,h,r=>by
  unfold aM at h
  obtain ⟨x,xs,rfl,h1,h2⟩ := h
  cases r with
  | cons r1 r2 =>
   obtain ⟨as,q⟩ := Fu I h1 r1
   obtain ⟨l,ih⟩ := Pz I h2 r2
   refine ⟨by rw [List.length_cons,List.length_cons,l],fun m w e' z1 z2=>?_⟩
   cases m with
   | zero =>
    rw [List.getElem?_cons_zero] at z1 z2
    cases z1
    cases z2
    exact Jw q (Cd e x h1)
   | succ m =>
    rw [List.getElem?_cons_succ] at z1 z2
    exact ih m w e' z1 z2
def Y9 (K:PySem.W.Frag):V -> List V -> Hp -> VK -> Prop:=fun x vs H Q=>∃ (l:Addr) (us:List V) (y:V) (d:PyData) (ds:List PyData) (j:Nat),x = .ref l /\ vs = [y] /\ Bj K H l us /\ Rp H d y /\ aM H ds us /\ d.depth <= 50 /\ (∃ e,ds[j]? = some e /\ PyData.eqv e d = true) /\ (∀ m e,m < j -> ds[m]? = some e -> PyData.eqv e d = false) /\ Q (.int (j:Nat)) H
theorem Uq (hr:C0 k X.A):ij X "list.index" (Y9 X.K):=by
 intro pins s σ H x vs v us Q I rx rv h
 obtain ⟨l,ys,y,d,ds,j,rfl,rfl,hq,hy,hall,hdep,⟨e0,hj,he0⟩,lQ,q⟩ := h
 cases rx
 obtain ⟨u,rfl,ru⟩ := rv.one
 obtain ⟨aH,r,pl,hz⟩ := I.list hq
 obtain ⟨⟨oc,od,JP,gO⟩,n,e,hc,hd,hs⟩ := pl
 obtain rfl:oc = .type "list" := hc
 obtain rfl:JP = .seq aH.toArray n:=hs
 have hlen:=r.length
 have hu:=hr.units
 obtain ⟨lE,kJ⟩ := Pz (d:=d) I hall r
 have hjn:j < ds.length:=(List.getElem?_eq_some_iff.mp hj).1
 have h63:=Gq
 refine call_meets F.slot_list_index ⟨_,e,rfl⟩ F.entry_list_index (F.args_list_index_2 _ _) (PySem.SeqAt.list_indexAt l aH.toArray n od gO u (Hc s.heap d) j (by rw [List.size_toArray]; omega) ?_ ?_ ?_) ⟨e,fun z hz'=>?_,?_⟩
 ·omega
 ·have hj2:j < aH.length:=by omega
  have e1:aH.toArray[j]'(by rw [List.size_toArray]; omega) = aH[j]:=by simp
  rw [e1,kJ j aH[j] e0 (List.getElem?_eq_getElem hj2) hj]
  exact he0
 ·intro m hm hmj
  rw [List.size_toArray] at hm
  have e1:aH.toArray[m]'(by rw [List.size_toArray]; omega) = aH[m]:=by simp
  rw [e1,kJ m aH[m] ds[m] (List.getElem?_eq_getElem hm) (List.getElem?_eq_getElem (by omega))]
  exact lQ m _ hmj (List.getElem?_eq_getElem (by omega))
 ·exact K3 I hy ru (by show X.A.units + 1 + d.depth < cLine; omega) hall r z (by simpa using hz')
 ·exact ⟨.int (j:Nat),H,I.tok _,⟨_,rfl⟩,q⟩
end
def ko:Expr -> Bool
 | .Starred _ _=>false
 | _=>true
section
variable {X:Cx} {e:Expr} {es:List Expr} {te:TE} {t:TA}
theorem Gg {u u':TE} (h:PE X e u) (hu:u = u':=by rfl):PE X e u':=hu ▸ h
theorem Dp {tg:Expr} {w w':TI} (h:PI X tg e w) (hw:w = w':=by rfl):PI X tg e w':=hw ▸ h
def ft (K:PySem.W.Frag):List V -> Hp -> VK -> Prop:=fun xs H Q=>∃ p ys,xs = [.ref p] /\ ((Bj K H p ys /\ ∀ l,H l = none -> Q (.ref l) (upd H l (.tup ys))) \/ (Ci K H p ys /\ Q (.ref p) H))
theorem Ij (K:PySem.W.Frag) (hK:X.K = K:=by rfl):El X (.type "tuple") (ft K):=by
 subst hK
 exact Lm
end
def Hq:Bool -> Keyed -> Array Keyed -> Nat -> Nat -> Nat -> StateT SortSt Sem (Option Nat):=sortPriv% PySem.Builtin.gallop
def Wi:Array Keyed -> Array Keyed -> StateT SortSt Sem (Array Keyed):=sortPriv% PySem.Builtin.mergeLo
def W9:Array Keyed -> Array Keyed -> StateT SortSt Sem (Array Keyed):=sortPriv% PySem.Builtin.mergeHi
def fa (f:Keyed -> Nat) (a:Array Keyed) (i:Nat):Nat:=match a[i]? with
 | some p=>f p
 | none=>0
theorem As {f:Keyed -> Nat} {a:Array Keyed} {i:Nat} {p:Keyed} (h:a[i]? = some p):fa f a i = f p:=by unfold fa; rw [h]
theorem Dc {f:Keyed -> Nat} {a b:Array Keyed} {i j:Nat} (h:a[i]? = b[j]?):fa f a i = fa f b j:=by unfold fa; rw [h]
def Gr (f:Keyed -> Nat) (a:Array Keyed) (lo hi:Nat):Prop := ∀ i j,lo <= i -> i <= j -> j < hi -> fa f a i <= fa f a j
section
variable {prog:Program} {w:World} {A:Around} {E:Value -> Shared -> Prop} {s:Shared} {κ:SortKind} {f:Keyed -> Nat} {a₀:Array Keyed} {st:SortSt}
def Gm (prog:Program) (w:World) (A:Around) (s:Shared) (κ:SortKind) (f:Keyed -> Nat) (a₀:Array Keyed):Prop := ∀ x y,x ∈ a₀ -> y ∈ a₀ -> ∀ (Q:Bool -> Shared -> Prop) (E:Value -> Shared -> Prop),Q (decide (f x < f y)) s -> wpAny (model prog w) A (keyLt' κ x.1 y.1) Q E s
structure Bs (κ:SortKind) (a₀:Array Keyed) (st:SortSt):Prop where
 perm:(arrOf st).Perm a₀
 kind:kindOf st = κ
 failed:failedOf st = none
theorem Bs.size (h:Bs κ a₀ st):(arrOf st).size = a₀.size:=h.perm.size_eq
theorem Bs.mem (h:Bs κ a₀ st) {i:Nat} {p:Keyed} (e:(arrOf st)[i]? = some p):p ∈ a₀:=h.perm.mem_iff.mp (Array.mem_of_getElem? e)
theorem Ku (hA:Gm prog w A s κ f a₀) (hk:kindOf st = κ) {x y:Keyed} (hx:x ∈ a₀) (hy:y ∈ a₀) {Q:Option Bool -> SortSt -> Prop} (h:Q (some (decide (f x < f y))) st):wpS (model prog w) A E s (lt' x y) Q st:=by
 rw [lt'_eq]
 refine wpS_bind (wpS_get ?_)
 rw [hk]
 refine wpS_bind (wpS_lift (wpAny_attempt (hA x y hx hy _ _ ⟨rfl,?_⟩)))
 exact wpS_pure h
theorem Ay {a:Array Keyed} {i:Nat} {p:Keyed} (e:a[i]? = some p) {Q:Keyed -> SortSt -> Prop} (h:Q p st):wpS (model prog w) A E s (elem' a i) Q st:=by
 rw [elem'_eq,e]
 exact wpS_pure h
theorem Bi {a:Array Keyed} {i:Nat} (h:i < a.size):∃ p,a[i]? = some p:=⟨a[i],getElem?_pos a i h⟩
theorem Fy (hA:Gm prog w A s κ f a₀) (hB:Bs κ a₀ st) {i j:Nat} (hi:i < a₀.size) (hj:j < a₀.size) {Q:Option Bool -> SortSt -> Prop} (h:Q (some (decide (fa f (arrOf st) i < fa f (arrOf st) j))) st):wpS (model prog w) A E s (ltAt' i j) Q st:=by
 obtain ⟨p,ep⟩ := Bi (a:=arrOf st) (i:=i) (by rw [hB.size]; exact hi)
 obtain ⟨q,eq⟩ := Bi (a:=arrOf st) (i:=j) (by rw [hB.size]; exact hj)
 rw [As ep,As eq] at h
 rw [ltAt'_eq]
 refine wpS_bind (wpS_get ?_)
 exact wpS_bind (Ay ep (wpS_bind (Ay eq (Ku hA hB.kind (hB.mem ep) (hB.mem eq) h))))
theorem Qd (hA : Gm prog w A s κ f a₀) (hk : kindOf st = κ) {left : Bool} {key : Keyed} {arr : Array Keyed} {i : Nat} (fS : key ∈ a₀) (kM : ∀ p, p ∈ arr -> p ∈ a₀) (hi : i < arr.size) {Q : Option Bool -> SortSt -> Prop}
  (h:Q (some (if left = true then decide (fa f arr i < f key) else !decide (f key < fa f arr i))) st):wpS (model prog w) A E s (elem' arr i >>= fun x=>if left = true then lt' x key else lt' key x >>= fun r=>pure (r.map fun b=>!b)) Q st:=by
 obtain ⟨p,ep⟩ := Bi hi
 rw [As ep] at h
 refine wpS_bind (Ay ep ?_)
 have hp:=kM p (Array.mem_of_getElem? ep)
 cases left with
 | true=>exact Ku hA hk hp fS h
 | false=>exact wpS_bind (Ku hA hk fS hp (wpS_pure h))
theorem Cu (hA : Gm prog w A s κ f a₀) (hk : kindOf st = κ) {left : Bool} {key : Keyed} {arr : Array Keyed} {base n hint : Nat} (fS : key ∈ a₀) (kM : ∀ p, p ∈ arr -> p ∈ a₀) (hn : base + n <= arr.size) (hh : hint < n) (hs : Gr f arr base (base + n)) {Q : Option Nat -> SortSt -> Prop}
  (h:∀ k,k <= n -> (∀ i,i < k -> if left = true then fa f arr (base + i) < f key else fa f arr (base + i) <= f key) -> (∀ i,k <= i -> i < n -> if left = true then f key <= fa f arr (base + i) else f key < fa f arr (base + i)) -> Q (some k) st):wpS (model prog w) A E s (Hq left key arr base n hint) Q st:=by
 obtain ⟨P,hP⟩ : ∃ P:Nat -> Bool,∀ i,P i = if left = true then decide (fa f arr (base + i) < f key) else !decide (f key < fa f arr (base + i)):=⟨_,fun _=>rfl⟩
 have mono:∀ i j,i <= j -> j < n -> P j = true -> P i = true:=fun i j h1 h2 h3=>by
  have h4:=hs (base + i) (base + j) (by omega) (by omega) (by omega)
  rw [hP] at h3 ⊢
  cases left <;> simp at h3 ⊢ <;> omega
 have pW:∀ i j,i <= j -> j < n -> P i = false -> P j = false:=fun i j h1 h2 h3=>by
  cases e:P j with
  | false=>rfl
  | true=>rw [mono i j h1 h2 e] at h3; cases h3
 have ask:∀ i,i < n -> ∀ {Q':Option Bool -> SortSt -> Prop},Q' (some (P i)) st -> wpS (model prog w) A E s (elem' arr (base + i) >>= fun x=>if left = true then lt' x key else lt' key x >>= fun r=>pure (r.map fun b=>!b)) Q' st:=fun i hi Q' hq=>by
  rw [hP] at hq
  exact Qd hA hk fS kM (by omega) hq
 have out:∀ k,k <= n -> (∀ i,i < k -> P i = true) -> (∀ i,k <= i -> i < n -> P i = false) -> Q (some k) st:=fun k h1 h2 h3=>by
  refine h k h1 (fun i hi=>?_) (fun i hi lF=>?_)
  ·have:=h2 i hi
   rw [hP] at this
   cases left <;> simp at this ⊢ <;> omega
  ·have:=h3 i hi lF
   rw [hP] at this
   cases left <;> simp at this ⊢ <;> omega
 refine wpS_bind (ask hint hh ?_)
 dsimp only
 cases hr:P hint with
 | true =>
  rw [if_pos rfl]
  refine wpS_bind (wpS_mono (wpS_forRange (I:=fun x c aP=>aP = st /\ ∃ l o,c = (none,l,o) /\ l < o /\ P (hint + l) = true /\ hint + l < n /\ x + 1 <= o) (Q:=fun c aP=>aP = st /\ ∃ l o,c = (none,l,o) /\ l < o /\ P (hint + l) = true /\ hint + l < n /\ (n - hint <= o \/ P (hint + o) = false)) ?_ ?_ ⟨rfl,0,1,rfl,by omega,hr,hh,by omega⟩) ?_)
  ·rintro x c aP _ hx ⟨rfl,l,o,rfl,h1,h2,h3,h4⟩
   dsimp only
   by_cases ho:o >= n - hint
   ·rw [if_pos ho]
    exact wpS_pure ⟨rfl,l,o,rfl,h1,h2,h3,.inl ho⟩
   ·rw [if_neg ho]
    refine wpS_bind (ask (hint + o) (by omega) ?_)
    dsimp only
    cases e:P (hint + o) with
    | false=>exact wpS_pure ⟨rfl,l,o,rfl,h1,h2,h3,.inr e⟩
    | true=>exact wpS_pure ⟨rfl,o,2 * o + 1,rfl,by omega,e,by omega,by omega⟩
  ·rintro c aP ⟨rfl,l,o,rfl,h1,h2,h3,h4⟩
   exact ⟨rfl,l,o,rfl,h1,h2,h3,.inl (by omega)⟩
  rintro c aP ⟨rfl,l,o,rfl,h1,h2,h3,h4⟩
  dsimp only
  refine wpS_bind (wpS_mono (wpS_forRange (I:=fun x c aU=>aU = aP /\ ∃ lo hi,c = (none,lo,hi) /\ lo <= hi /\ hi <= n /\ (∀ i,i < lo -> P i = true) /\ (∀ i,hi <= i -> i < n -> P i = false) /\ hi + x <= lo + n) (Q:=fun c aU=>aU = aP /\ ∃ k,c = (none,k,k) /\ k <= n /\ (∀ i,i < k -> P i = true) /\ (∀ i,k <= i -> i < n -> P i = false)) ?_ ?_ ⟨rfl,_,_,rfl,by omega,by omega,fun i hi=>?_,fun i hi lF=>?_,by omega⟩) ?_)
  ·rintro x c aU _ hx ⟨rfl,lo,hi,rfl,g1,g2,g3,g4,g5⟩
   dsimp only
   by_cases ho:lo >= hi
   ·rw [if_pos ho]
    obtain rfl:lo = hi:=by omega
    exact wpS_pure ⟨rfl,lo,rfl,g2,g3,g4⟩
   ·rw [if_neg ho]
    refine wpS_bind (ask (lo + (hi - lo) / 2) (by omega) ?_)
    dsimp only
    cases e:P (lo + (hi - lo) / 2) with
    | false =>
     refine wpS_pure ⟨rfl,lo,_,rfl,by omega,by omega,g3,fun i zP lF=>pW _ i zP lF e,by omega⟩
    | true =>
     refine wpS_pure ⟨rfl,_,hi,rfl,by omega,g2,fun i zP=>mono i _ (by omega) (by omega) e,g4,by omega⟩
  ·rintro c aU ⟨rfl,lo,hi,rfl,g1,g2,g3,g4,g5⟩
   obtain rfl:lo = hi:=by omega
   exact ⟨rfl,lo,rfl,g2,g3,g4⟩
  ·exact mono i (hint + l) (by omega) h3 h2
  ·rcases h4 with h4 | h4
   ·omega
   ·by_cases z:n - hint <= o
    ·omega
    ·exact pW (hint + o) i (by omega) lF h4
  rintro c aU ⟨rfl,k,rfl,g1,g2,g3⟩
  dsimp only
  exact wpS_pure (out k g1 g2 g3)
 | false =>
  rw [if_neg (by decide)]
  refine wpS_bind (wpS_mono (wpS_forRange (I:=fun x c aP=>aP = st /\ ∃ l o,c = (none,l,o) /\ l < o /\ P (hint - l) = false /\ l <= hint /\ x + 1 <= o) (Q:=fun c aP=>aP = st /\ ∃ l o,c = (none,l,o) /\ l < o /\ P (hint - l) = false /\ l <= hint /\ (hint + 1 <= o \/ P (hint - o) = true)) ?_ ?_ ⟨rfl,0,1,rfl,by omega,hr,by omega,by omega⟩) ?_)
  ·rintro x c aP _ hx ⟨rfl,l,o,rfl,h1,h2,h3,h4⟩
   dsimp only
   by_cases ho:o >= hint + 1
   ·rw [if_pos ho]
    exact wpS_pure ⟨rfl,l,o,rfl,h1,h2,h3,.inl ho⟩
   ·rw [if_neg ho]
    refine wpS_bind (ask (hint - o) (by omega) ?_)
    dsimp only
    cases e:P (hint - o) with
    | true=>exact wpS_pure ⟨rfl,l,o,rfl,h1,h2,h3,.inr e⟩
    | false=>exact wpS_pure ⟨rfl,o,2 * o + 1,rfl,by omega,e,by omega,by omega⟩
  ·rintro c aP ⟨rfl,l,o,rfl,h1,h2,h3,h4⟩
   exact ⟨rfl,l,o,rfl,h1,h2,h3,.inl (by omega)⟩
  rintro c aP ⟨rfl,l,o,rfl,h1,h2,h3,h4⟩
  dsimp only
  refine wpS_bind (wpS_mono (wpS_forRange (I:=fun x c aU=>aU = aP /\ ∃ lo hi,c = (none,lo,hi) /\ lo <= hi /\ hi <= n /\ (∀ i,i < lo -> P i = true) /\ (∀ i,hi <= i -> i < n -> P i = false) /\ hi + x <= lo + n) (Q:=fun c aU=>aU = aP /\ ∃ k,c = (none,k,k) /\ k <= n /\ (∀ i,i < k -> P i = true) /\ (∀ i,k <= i -> i < n -> P i = false)) ?_ ?_ ⟨rfl,_,_,rfl,by omega,by omega,fun i hi=>?_,fun i hi lF=>?_,by omega⟩) ?_)
  ·rintro x c aU _ hx ⟨rfl,lo,hi,rfl,g1,g2,g3,g4,g5⟩
   dsimp only
   by_cases ho:lo >= hi
   ·rw [if_pos ho]
    obtain rfl:lo = hi:=by omega
    exact wpS_pure ⟨rfl,lo,rfl,g2,g3,g4⟩
   ·rw [if_neg ho]
    refine wpS_bind (ask (lo + (hi - lo) / 2) (by omega) ?_)
    dsimp only
    cases e:P (lo + (hi - lo) / 2) with
    | false =>
     refine wpS_pure ⟨rfl,lo,_,rfl,by omega,by omega,g3,fun i zP lF=>pW _ i zP lF e,by omega⟩
    | true =>
     refine wpS_pure ⟨rfl,_,hi,rfl,by omega,g2,fun i zP=>mono i _ (by omega) (by omega) e,g4,by omega⟩
  ·rintro c aU ⟨rfl,lo,hi,rfl,g1,g2,g3,g4,g5⟩
   obtain rfl:lo = hi:=by omega
   exact ⟨rfl,lo,rfl,g2,g3,g4⟩
  ·rcases h4 with h4 | h4
   ·omega
   ·by_cases z:hint + 1 <= o
    ·omega
    ·exact mono i (hint - o) (by omega) (by omega) h4
  ·exact pW (hint - l) i (by omega) lF h2
  rintro c aU ⟨rfl,k,rfl,g1,g2,g3⟩
  dsimp only
  exact wpS_pure (out k g1 g2 g3)
end
section
variable {f:Keyed -> Nat}
def Cs (f:Keyed -> Nat) (l:List Keyed):Prop:=l.Pairwise fun p q=>f p <= f q
def Gh (f:Keyed -> Nat) (l m:List Keyed):Prop := ∀ p ∈ l,∀ q ∈ m,f p <= f q
theorem G0 {l m:List Keyed} (h1:Cs f l) (h2:Cs f m) (h3:Gh f l m):Cs f (l ++ m):=List.pairwise_append.mpr ⟨h1,h2,h3⟩
theorem Ff {l:List Keyed} (h:Cs f l) (n:Nat):Cs f (l.drop n):=h.sublist (List.drop_sublist n l)
theorem Fb {l:List Keyed} (h:Cs f l) (n:Nat):Cs f (l.take n):=h.sublist (List.take_sublist n l)
theorem Kb {l:List Keyed} (h:Cs f l) {i j:Nat} {p q:Keyed} (hi:l[i]? = some p) (hj:l[j]? = some q) (qZ:i <= j):f p <= f q:=by
 obtain ⟨h1,e1⟩ := List.getElem?_eq_some_iff.mp hi
 obtain ⟨h2,e2⟩ := List.getElem?_eq_some_iff.mp hj
 rcases Nat.lt_or_ge i j with z | z
 ·have:=List.pairwise_iff_getElem.mp h i j h1 h2 z
  rw [e1,e2] at this
  exact this
 ·obtain rfl:i = j:=by omega
  rw [e1] at e2
  rw [e2]
  exact Nat.le_refl _
theorem Dn {l:List Keyed} {i:Nat} {p:Keyed} (h:p ∈ l.drop i):∃ j,l[i + j]? = some p:=by
 obtain ⟨j,hj⟩ := List.mem_iff_getElem?.mp h
 rw [List.getElem?_drop] at hj
 exact ⟨j,hj⟩
theorem Dg {l:List Keyed} {i k:Nat} {p:Keyed} (h:p ∈ (l.drop i).take k):∃ j,j < k /\ l[i + j]? = some p:=by
 obtain ⟨j,hj⟩ := List.mem_iff_getElem?.mp h
 have hjk:j < k:=by
  have:=(List.getElem?_eq_some_iff.mp hj).1
  rw [List.length_take] at this
  omega
 rw [List.getElem?_take_of_lt hjk,List.getElem?_drop] at hj
 exact ⟨j,hjk,hj⟩
def MI (f:Keyed -> Nat) (x y:List Keyed) (i j:Nat) (o:List Keyed):Prop:=o.Perm (x.take i ++ y.take j) /\ Cs f o /\ Gh f o (x.drop i ++ y.drop j)
theorem M7 (l:List Keyed) (i k:Nat):l.take (i + k) = l.take i ++ (l.drop i).take k:=by rw [List.take_add]
theorem Gn (l:List Keyed) (i k:Nat):l.drop i = (l.drop i).take k ++ l.drop (i + k):=by
 have:=(List.take_append_drop k (l.drop i)).symm
 rw [List.drop_drop] at this
 exact this
theorem MI.iG {x y o:List Keyed} {i j k:Nat} (h:MI f x y i j o) (hx:Cs f x) (hle:Gh f ((x.drop i).take k) (y.drop j)):MI f x y (i + k) j (o ++ (x.drop i).take k):=by
 obtain ⟨h1,h2,h3⟩ := h
 have hd:=Gn x i k
 refine ⟨?_,?_,?_⟩
 ·rw [M7]
  refine (h1.append_right _).trans ?_
  rw [List.append_assoc,List.append_assoc]
  exact List.Perm.append_left _ List.perm_append_comm
 ·refine G0 h2 (Fb (Ff hx i) k) fun p hp q hq=>h3 p hp q (List.mem_append_left _ (List.mem_of_mem_take hq))
 ·intro p hp q hq
  rcases List.mem_append.mp hp with z | z
  ·rcases List.mem_append.mp hq with y' | y'
   ·refine h3 p z q (List.mem_append_left _ ?_)
    rw [hd]
    exact List.mem_append_right _ y'
   ·exact h3 p z q (List.mem_append_right _ y')
  ·rcases List.mem_append.mp hq with y' | y'
   ·have hs:=Ff hx i
    rw [hd] at hs
    exact (List.pairwise_append.mp hs).2.2 p z q y'
   ·exact hle p z q y'
theorem MI.swap {x y o:List Keyed} {i j:Nat} (h:MI f x y i j o):MI f y x j i o:=⟨h.1.trans List.perm_append_comm,h.2.1,fun p hp q hq=>h.2.2 p hp q (List.perm_append_comm.mem_iff.mp hq)⟩
theorem MI.zQ {x y o:List Keyed} {i j k:Nat} (h:MI f x y i j o) (hy:Cs f y) (hle:Gh f ((y.drop j).take k) (x.drop i)):MI f x y i (j + k) (o ++ (y.drop j).take k):=(h.swap.iG hy hle).swap
def Cg (f:Keyed -> Nat) (x y r:List Keyed):Prop:=r.Perm (x ++ y) /\ Cs f r
theorem MI.done {x y o:List Keyed} {i j:Nat} (h:MI f x y i j o) (hx:Cs f x) (hy:Cs f y) (hle:Gh f (x.drop i) (y.drop j)):Cg f x y (o ++ x.drop i ++ y.drop j):=by
 obtain ⟨h1,h2,h3⟩ := h
 refine ⟨?_,?_⟩
 ·rw [List.append_assoc]
  refine (h1.append_right _).trans ?_
  have e:x ++ y = (x.take i ++ x.drop i) ++ (y.take j ++ y.drop j):=by rw [List.take_append_drop,List.take_append_drop]
  rw [e,List.append_assoc,List.append_assoc]
  refine List.Perm.append_left _ ?_
  rw [<- List.append_assoc,<- List.append_assoc]
  exact List.Perm.append_right _ List.perm_append_comm
 ·rw [List.append_assoc]
  exact G0 h2 (G0 (Ff hx i) (Ff hy j) hle) h3
theorem MI.lU {x y o:List Keyed} {i j:Nat} (h:MI f x y i j o) (hx:Cs f x) (hy:Cs f y) (hle:Gh f (y.drop j) (x.drop i)):Cg f x y (o ++ y.drop j ++ x.drop i):=by
 obtain ⟨g1,g2⟩ := h.swap.done hy hx hle
 exact ⟨g1.trans List.perm_append_comm,g2⟩
theorem Nm {l:List Keyed} {i:Nat} {p:Keyed} (h:l[i]? = some p):(l.drop i).take 1 = [p]:=by
 obtain ⟨h1,e⟩ := List.getElem?_eq_some_iff.mp h
 rw [List.drop_eq_getElem_cons h1,e]
 rfl
theorem MI.rD {x y o:List Keyed} {i j:Nat} {p q:Keyed} (h:MI f x y i j o) (hx:Cs f x) (hy:Cs f y) (hp:x[i]? = some p) (hq:y[j]? = some q) (hle:f p <= f q):MI f x y (i + 1) j (o ++ [p]):=by
 rw [<- Nm hp]
 refine h.iG hx fun a ha b hb=>?_
 rw [Nm hp] at ha
 cases List.mem_singleton.mp ha
 obtain ⟨k,hk⟩ := Dn hb
 exact Nat.le_trans hle (Kb hy hq hk (by omega))
theorem MI.zR {x y o:List Keyed} {i j:Nat} {p q:Keyed} (h:MI f x y i j o) (hx:Cs f x) (hy:Cs f y) (hp:x[i]? = some p) (hq:y[j]? = some q) (hle:f q <= f p):MI f x y i (j + 1) (o ++ [q]):=(h.swap.rD hy hx hq hp hle).swap
end
section
variable {f:Keyed -> Nat} {a b o:Array Keyed} {i j k:Nat}
theorem Jm (a:Array Keyed) (i:Nat):(a.extract i).toList = a.toList.drop i:=by
 rw [Array.toList_extract]
 show (a.toList.drop i).take (a.size - i) = _
 rw [List.take_of_length_le (by rw [List.length_drop,Array.length_toList]; omega)]
theorem Fv (a:Array Keyed) (i k:Nat):(a.extract i (i + k)).toList = (a.toList.drop i).take k:=by
 simp [List.extract]
theorem Nf (a:Array Keyed) (k:Nat):(a.extract 0 k).toList = a.toList.take k:=by simp
theorem MI.bC (h:MI f a.toList b.toList i j o.toList) (hx:Cs f a.toList) (hy:Cs f b.toList) (e:j = b.size \/ i = a.size):Cg f a.toList b.toList (o ++ a.extract i ++ b.extract j).toList:=by
 rw [Array.toList_append,Array.toList_append,Jm,Jm]
 refine h.done hx hy ?_
 rcases e with e | e
 ·rw [List.drop_of_length_le (l:=b.toList) (by rw [Array.length_toList]; omega)]
  intro p _ q hq
  cases hq
 ·rw [List.drop_of_length_le (l:=a.toList) (by rw [Array.length_toList]; omega)]
  intro p hp
  cases hp
theorem MI.eY (h:MI f a.toList b.toList i j o.toList) (hx:Cs f a.toList) (hy:Cs f b.toList) (e:i + 1 = a.size) (hl:∀ q ∈ b.toList,f q <= fa f a i):Cg f a.toList b.toList (o ++ b.extract j ++ a.extract i).toList:=by
 rw [Array.toList_append,Array.toList_append,Jm,Jm]
 refine h.lU hx hy fun p hp q hq=>?_
 obtain ⟨m,hm⟩ := Dn hq
 have aX:=(List.getElem?_eq_some_iff.mp hm).1
 rw [Array.length_toList] at aX
 obtain rfl:m = 0:=by omega
 have h1:=hl p (List.mem_of_mem_drop hp)
 rw [Nat.add_zero,Array.getElem?_toList] at hm
 rw [As hm] at h1
 exact h1
theorem MI.fA (h:MI f a.toList b.toList i j o.toList) (hx:Cs f a.toList) (hy:Cs f b.toList) {p:Keyed} (hp:a[i]? = some p) (hj:j < b.size) (hle:f p <= fa f b j):MI f a.toList b.toList (i + 1) j (o.push p).toList:=by
 obtain ⟨q,hq⟩ := Bi hj
 rw [As hq] at hle
 rw [Array.toList_push]
 exact h.rD hx hy (by rw [Array.getElem?_toList]; exact hp) (by rw [Array.getElem?_toList]; exact hq) hle
theorem MI.gG (h:MI f a.toList b.toList i j o.toList) (hx:Cs f a.toList) (hy:Cs f b.toList) {q:Keyed} (hq:b[j]? = some q) (hi:i < a.size) (hle:f q <= fa f a i):MI f a.toList b.toList i (j + 1) (o.push q).toList:=by
 obtain ⟨p,hp⟩ := Bi hi
 rw [As hp] at hle
 rw [Array.toList_push]
 exact h.zR hx hy (by rw [Array.getElem?_toList]; exact hp) (by rw [Array.getElem?_toList]; exact hq) hle
theorem MI.lV (h:MI f a.toList b.toList i j o.toList) (hx:Cs f a.toList) (hy:Cs f b.toList) {q:Keyed} (hq:b[j]? = some q) (hle:∀ m,m < k -> fa f a (i + m) <= f q):MI f a.toList b.toList (i + k) j (o ++ a.extract i (i + k)).toList:=by
 rw [Array.toList_append,Fv]
 refine h.iG hx fun x pO y lK=>?_
 obtain ⟨m,hm,e⟩ := Dg pO
 obtain ⟨m2,e2⟩ := Dn lK
 have h1:=hle m hm
 rw [Array.getElem?_toList] at e
 rw [As e] at h1
 exact Nat.le_trans h1 (Kb hy (by rw [Array.getElem?_toList]; exact hq) e2 (by omega))
theorem MI.uT (h:MI f a.toList b.toList i j o.toList) (hx:Cs f a.toList) (hy:Cs f b.toList) {p:Keyed} (hp:a[i]? = some p) (hle:∀ m,m < k -> fa f b (j + m) <= f p):MI f a.toList b.toList i (j + k) (o ++ b.extract j (j + k)).toList:=by
 rw [Array.toList_append,Fv]
 refine h.zQ hy fun x pO y lK=>?_
 obtain ⟨m,hm,e⟩ := Dg pO
 obtain ⟨m2,e2⟩ := Dn lK
 have h1:=hle m hm
 rw [Array.getElem?_toList] at e
 rw [As e] at h1
 exact Nat.le_trans h1 (Kb hx (by rw [Array.getElem?_toList]; exact hp) e2 (by omega))
theorem Ji (h:Cs f a.toList) {lo hi:Nat} (hh:hi <= a.size):Gr f a lo hi:=fun i j h1 h2 h3=>by
 obtain ⟨p,hp⟩ := Bi (a:=a) (i:=i) (by omega)
 obtain ⟨q,hq⟩ := Bi (a:=a) (i:=j) (by omega)
 rw [As hp,As hq]
 exact Kb h (by rw [Array.getElem?_toList]; exact hp) (by rw [Array.getElem?_toList]; exact hq) h2
theorem E3 {m n:Nat} (h:m = n):(m == n) = true:=by simp [h]
theorem E6 {m n:Nat} (h:¬ m = n):¬ (m == n) = true:=by simp [h]
end
section
variable {prog:Program} {w:World} {A:Around} {E:Value -> Shared -> Prop} {s:Shared} {κ:SortKind} {f:Keyed -> Nat} {a₀:Array Keyed} {st:SortSt}
def Gs (st aP:SortSt):Prop := ∃ g,aP = SortSt.mk' (kindOf st) (arrOf st) (pendingOf st) g (failedOf st)
theorem Gs.refl:Gs st st:=⟨gallopOf st,rfl⟩
theorem Wq {σ β:Type} {M:Model} {c:Prop} [Decidable c] {Q:β -> σ -> Prop} {st:σ} {g:Nat -> StateT σ Sem β} {X Y:StateT σ Sem β} (y x:Nat) (ey:Y = g y) (ex:X = g x) (h:∀ z,wpS M A E s (g z) Q st):wpS M A E s (if c then X else Y) Q st:=by
 subst ey ex
 split
 ·exact h x
 ·exact h y
theorem Jj {σ β:Type} {M:Model} {c:Prop} [Decidable c] {Q:β -> σ -> Prop} {st:σ} {g:Array Keyed -> Nat -> StateT σ Sem β} {X Y:StateT σ Sem β} (P:Array Keyed -> Nat -> Prop) (o:Array Keyed) (i:Nat) (ey:Y = g o i) (hy:¬ c -> P o i) (hx:c -> (∀ o i,P o i -> wpS M A E s (g o i) Q st) -> wpS M A E s X Q st) (h:∀ o i,P o i -> wpS M A E s (g o i) Q st):wpS M A E s (if c then X else Y) Q st:=by
 subst ey
 split
 ·rename_i z
  exact hx z h
 ·rename_i z
  exact h o i (hy z)
theorem Os (hA : Gm prog w A s κ f a₀) (hk : kindOf st = κ) {a b : Array Keyed} (ha : ∀ p, p ∈ a -> p ∈ a₀) (hb : ∀ p, p ∈ b -> p ∈ a₀) (hx : Cs f a.toList) (hy : Cs f b.toList) (ha0 : 0 < a.size) (za : 0 < b.size)
  (cW:fa f b 0 <= fa f a 0) (lW:∀ q ∈ b.toList,f q <= fa f a (a.size - 1)) {Q:Array Keyed -> SortSt -> Prop} (h:∀ r aP,Gs st aP -> Cg f a.toList b.toList r.toList -> Q r aP):wpS (model prog w) A E s (Wi a b) Q st:=by
 have last:∀ i,i + 1 = a.size -> ∀ q ∈ b.toList,f q <= fa f a i:=fun i hi q hq=>by
  have:=lW q hq
  rwa [show a.size - 1 = i by omega] at this
 have eX:∀ g,kindOf (SortSt.mk' (kindOf st) (arrOf st) (pendingOf st) g (failedOf st)) = κ:=fun g=>hk
 obtain ⟨q0,GP⟩ := Bi za
 refine wpS_bind (wpS_lift (wpAny_rule ⟨rfl,?_⟩))
 refine wpS_bind (Ay GP ?_)
 have M0:MI f a.toList b.toList 0 0 (#[]:Array Keyed).toList:=⟨by simp,List.Pairwise.nil,fun p hp=>by cases hp⟩
 have M1:=M0.gG hx hy GP ha0 (by rw [As GP] at cW; exact cW)
 rw [show (#[]:Array Keyed).push q0 = #[q0] from rfl] at M1
 dsimp -zeta only
 by_cases e1:0 + 1 = b.size
 ·rw [if_pos (E3 e1)]
  exact wpS_pure (h _ _ Gs.refl (M1.bC hx hy (.inl e1)))
 rw [if_neg (E6 e1)]
 by_cases e2:0 + 1 = a.size
 ·rw [if_pos (E3 e2)]
  exact wpS_pure (h _ _ Gs.refl (M1.eY hx hy e2 (last 0 e2)))
 rw [if_neg (E6 e2)]
 refine wpS_bind (wpS_get ?_)
 refine wpS_bind (wpS_mono (wpS_forRange (I:=fun x c aP=>Gs st aP /\ ∃ o ia ib g,c = (none,o,ia,ib,g) /\ MI f a.toList b.toList ia ib o.toList /\ ia + 1 < a.size /\ ib < b.size /\ x + 1 <= ia + ib)
  (Q:=fun c aP=>Gs st aP /\ ∃ r z,c = (some r,z) /\ Cg f a.toList b.toList r.toList) ?_ ?_ ⟨Gs.refl,_,_,_,_,rfl,M1,by omega,by omega,by omega⟩) ?_)
 ·rintro x c bL _ pO ⟨G1,o,ia,ib,g,rfl,M,h1,h2,h3⟩
  dsimp -zeta only
  refine wpS_bind (wpS_mono (wpS_forRange (I:=fun y c aP=>Gs st aP /\ ∃ o ia ib ac bc,c = (none,o,ia,ib,ac,bc) /\ MI f a.toList b.toList ia ib o.toList /\ ia + 1 < a.size /\ ib < b.size /\ x + 1 + y <= ia + ib)
   (Q:=fun c aP=>Gs st aP /\ ((∃ r z,c = (some r,z) /\ Cg f a.toList b.toList r.toList) \/ ∃ o ia ib ac bc,c = (none,o,ia,ib,ac,bc) /\ MI f a.toList b.toList ia ib o.toList /\ ia + 1 < a.size /\ ib < b.size /\ x + 2 <= ia + ib)) ?_ ?_ ⟨G1,_,_,_,_,_,rfl,M,h1,h2,by omega⟩) ?_)
  ·clear M h1 h2 h3 G1
   rintro y c bL _ lK ⟨G1,o,ia,ib,ac,bc,rfl,M,h1,h2,h3⟩
   obtain ⟨gx,rfl⟩ := G1
   obtain ⟨q,hq⟩ := Bi h2
   obtain ⟨p,hp⟩ := Bi (a:=a) (i:=ia) (by omega)
   dsimp -zeta only
   refine wpS_bind (Ay hq (wpS_bind (Ay hp (wpS_bind (Ku hA (eX gx) (hb q (Array.mem_of_getElem? hq)) (ha p (Array.mem_of_getElem? hp)) ?_)))))
   dsimp -zeta only
   by_cases z:f q < f p
   ·rw [if_pos (decide_eq_true z)]
    have M2:=M.gG hx hy hq (by omega) (by rw [As hp]; omega)
    refine wpS_bind (Ay hq ?_)
    by_cases e:ib + 1 = b.size
    ·rw [if_pos (E3 e)]
     exact wpS_pure ⟨⟨_,rfl⟩,.inl ⟨_,_,rfl,M2.bC hx hy (.inl e)⟩⟩
    rw [if_neg (E6 e)]
    split
    ·exact wpS_pure ⟨⟨_,rfl⟩,.inr ⟨_,_,_,_,_,rfl,M2,h1,by omega,by omega⟩⟩
    ·exact wpS_pure ⟨⟨_,rfl⟩,_,_,_,_,_,rfl,M2,h1,by omega,by omega⟩
   ·rw [if_neg (by rw [decide_eq_true_eq]; exact z)]
    have M2:=M.fA hx hy hp h2 (by rw [As hq]; omega)
    refine wpS_bind (Ay hp ?_)
    by_cases e:ia + 1 + 1 = a.size
    ·rw [if_pos (E3 e)]
     exact wpS_pure ⟨⟨_,rfl⟩,.inl ⟨_,_,rfl,M2.eY hx hy e (last _ e)⟩⟩
    rw [if_neg (E6 e)]
    split
    ·exact wpS_pure ⟨⟨_,rfl⟩,.inr ⟨_,_,_,_,_,rfl,M2,by omega,h2,by omega⟩⟩
    ·exact wpS_pure ⟨⟨_,rfl⟩,_,_,_,_,_,rfl,M2,by omega,h2,by omega⟩
  ·rintro c aP ⟨G1,o,ia,ib,ac,bc,rfl,M,h1,h2,h3⟩
   exact ⟨G1,.inr ⟨o,ia,ib,ac,bc,rfl,M,h1,h2,by omega⟩⟩
  clear M h1 h2 h3 G1
  rintro c aU ⟨G2,⟨r,z,rfl,J⟩ | ⟨o,ia,ib,ac,bc,rfl,M,h1,h2,h3⟩⟩
  ·dsimp -zeta only
   exact wpS_pure ⟨G2,r,_,rfl,J⟩
  dsimp -zeta only
  refine wpS_bind (wpS_lift (wpAny_rule ⟨rfl,?_⟩))
  refine wpS_bind (wpS_mono (wpS_forRange (I:=fun y c aP=>Gs st aP /\ ∃ o ia ib mg ac bc,c = (none,o,ia,ib,mg,ac,bc) /\ MI f a.toList b.toList ia ib o.toList /\ ia + 1 < a.size /\ ib < b.size /\ x + 2 <= ia + ib)
   (Q:=fun c aP=>Gs st aP /\ ((∃ r z,c = (some r,z) /\ Cg f a.toList b.toList r.toList) \/ ∃ o ia ib mg ac bc,c = (none,o,ia,ib,mg,ac,bc) /\ MI f a.toList b.toList ia ib o.toList /\ ia + 1 < a.size /\ ib < b.size /\ x + 2 <= ia + ib)) ?_ ?_ ⟨G2,_,_,_,_,_,_,rfl,M,h1,h2,h3⟩) ?_)
  ·clear M h1 h2 h3 G2
   rintro y c bL _ lK ⟨G1,o,ia,ib,mg,ac,bc,rfl,M,h1,h2,h3⟩
   obtain ⟨gx,rfl⟩ := G1
   obtain ⟨q,hq⟩ := Bi h2
   dsimp -zeta only
   have ga : ∀ {Q' : Option Nat -> SortSt -> Prop} {mg}, (∀ k, ia + k <= a.size -> (∀ m, m < k -> fa f a (ia + m) <= f q) -> (∀ m, k <= m -> ia + m < a.size -> f q < fa f a (ia + m)) -> Q' (some k) (SortSt.mk' (kindOf st) (arrOf st) (pendingOf st) mg (failedOf st))) ->
     wpS (model prog w) A E s (Hq false q a ia (a.size - ia) 0) Q' (SortSt.mk' (kindOf st) (arrOf st) (pendingOf st) mg (failedOf st)):=fun {Q'} {mg} uU=>by
    refine Cu hA (eX mg) (hb q (Array.mem_of_getElem? hq)) ha (by omega) (by omega) (Ji hx (by omega)) fun k g1 g2 g3=>uU k (by omega) (fun m hm=>?_) (fun m oW GQ=>?_)
    ·have:=g2 m hm
     simpa using this
    ·have:=g3 m oW (by omega)
     simpa using this
   have gb : ∀ {Q' : Option Nat -> SortSt -> Prop} {mg i j p}, a[i]? = some p -> j < b.size -> (∀ k, j + k <= b.size -> (∀ m, m < k -> fa f b (j + m) <= f p) -> (∀ m, k <= m -> j + m < b.size -> f p <= fa f b (j + m)) -> Q' (some k) (SortSt.mk' (kindOf st) (arrOf st) (pendingOf st) mg (failedOf st))) ->
     wpS (model prog w) A E s (Hq true p b j (b.size - j) 0) Q' (SortSt.mk' (kindOf st) (arrOf st) (pendingOf st) mg (failedOf st)):=fun {Q'} {mg i j p} hp hj uU=>by
    refine Cu hA (eX mg) (ha p (Array.mem_of_getElem? hp)) hb (by omega) (by omega) (Ji hy (by omega)) fun k g1 g2 g3=>uU k (by omega) (fun m hm=>?_) (fun m oW GQ=>?_)
    ·have:=g2 m hm
     simp at this
     omega
    ·have:=g3 m oW (by omega)
     simpa using this
   dsimp only
   apply Wq mg (mg - 1) (Eq.refl _) (Eq.refl _)
   intro mg
   refine wpS_bind (wpS_modify ?_)
   refine wpS_bind (Ay hq (wpS_bind (ga fun k g1 g2 g3=>?_)))
   dsimp only
   apply Jj (fun o2 i2=>MI f a.toList b.toList i2 ib o2.toList /\ i2 + 1 < a.size /\ f q < fa f a i2 /\ ia <= i2) o ia (Eq.refl _) (fun z=>⟨M,h1,g3 0 (by omega) (by omega),Nat.le_refl _⟩)
   ·intro z K
    have M2:=M.lV hx hy hq g2
    by_cases e:ia + k + 1 = a.size
    ·rw [if_pos (E3 e)]
     exact wpS_pure ⟨⟨_,rfl⟩,.inl ⟨_,_,rfl,M2.eY hx hy e (last _ e)⟩⟩
    rw [if_neg (E6 e)]
    by_cases e':ia + k = a.size
    ·rw [if_pos (E3 e')]
     exact wpS_pure ⟨⟨_,rfl⟩,.inl ⟨_,_,rfl,M2.bC hx hy (.inr e')⟩⟩
    rw [if_neg (E6 e')]
    exact K _ _ ⟨M2,by omega,g3 k (Nat.le_refl _) (by omega),by omega⟩
   rintro o2 i2 ⟨M2,lF,g3',hle⟩
   clear g1 g2 g3 M h1
   refine wpS_bind (Ay hq ?_)
   have M3:=M2.gG hx hy hq (by omega) (Nat.le_of_lt g3')
   generalize hib:ib + 1 = JW at M3 ⊢
   generalize o2.push q = o3 at M3 ⊢
   by_cases e:JW = b.size
   ·rw [if_pos (E3 e)]
    exact wpS_pure ⟨⟨_,rfl⟩,.inl ⟨_,_,rfl,M3.bC hx hy (.inl e)⟩⟩
   rw [if_neg (E6 e)]
   obtain ⟨p,hp⟩ := Bi (a:=a) (i:=i2) (by omega)
   refine wpS_bind (Ay hp (wpS_bind (gb hp (by omega) fun k2 c1 c2 c3=>?_)))
   dsimp only
   apply Jj (fun o3 j3=>MI f a.toList b.toList i2 j3 o3.toList /\ j3 < b.size /\ f p <= fa f b j3 /\ ib < j3) o3 JW (Eq.refl _) (fun z=>⟨M3,by omega,c3 0 (by omega) (by omega),by omega⟩)
   ·intro z K
    have M4:=M3.uT hx hy hp c2
    by_cases e4:JW + k2 = b.size
    ·rw [if_pos (E3 e4)]
     exact wpS_pure ⟨⟨_,rfl⟩,.inl ⟨_,_,rfl,M4.bC hx hy (.inl e4)⟩⟩
    rw [if_neg (E6 e4)]
    exact K _ _ ⟨M4,by omega,c3 k2 (Nat.le_refl _) (by omega),by omega⟩
   rintro o4 j3 ⟨M4,hj,c4,aX⟩
   clear c1 c2 c3 M3 M2
   refine wpS_bind (Ay hp ?_)
   have M5:=M4.fA hx hy hp hj c4
   by_cases e5:i2 + 1 + 1 = a.size
   ·rw [if_pos (E3 e5)]
    exact wpS_pure ⟨⟨_,rfl⟩,.inl ⟨_,_,rfl,M5.eY hx hy e5 (last _ e5)⟩⟩
   rw [if_neg (E6 e5)]
   split
   ·exact wpS_pure ⟨⟨_,rfl⟩,.inr ⟨_,_,_,_,_,_,rfl,M5,by omega,hj,by omega⟩⟩
   ·exact wpS_pure ⟨⟨_,rfl⟩,_,_,_,_,_,_,rfl,M5,by omega,hj,by omega⟩
  ·rintro c aP ⟨G1,o,ia,ib,mg,ac,bc,rfl,M,h1,h2,h3⟩
   exact ⟨G1,.inr ⟨o,ia,ib,mg,ac,bc,rfl,M,h1,h2,h3⟩⟩
  clear M h1 h2 h3 G2
  rintro c aU ⟨G2,⟨r,z,rfl,J⟩ | ⟨o,ia,ib,mg,ac,bc,rfl,M,h1,h2,h3⟩⟩
  ·dsimp -zeta only
   exact wpS_pure ⟨G2,r,_,rfl,J⟩
  dsimp -zeta only
  obtain ⟨gx,rfl⟩ := G2
  refine wpS_bind (wpS_modify ?_)
  exact wpS_pure ⟨⟨_,rfl⟩,_,_,_,_,rfl,M,h1,h2,by omega⟩
 ·rintro c aP ⟨G1,o,ia,ib,g,rfl,M,h1,h2,h3⟩
  exfalso
  omega
 rintro c aP ⟨G1,r,z,rfl,J⟩
 dsimp -zeta only
 exact wpS_pure (h _ _ G1 J)
end
section
variable {f:Keyed -> Nat}
def MH (f:Keyed -> Nat) (x y:List Keyed) (i j:Nat) (o:List Keyed):Prop:=o.reverse.Perm (x.drop i ++ y.drop j) /\ Cs f o.reverse /\ Gh f (x.take i ++ y.take j) o.reverse
theorem MH.swap {x y o:List Keyed} {i j:Nat} (h:MH f x y i j o):MH f y x j i o:=⟨h.1.trans List.perm_append_comm,h.2.1,fun p hp=>h.2.2 p (List.perm_append_comm.mem_iff.mp hp)⟩
theorem MH.iG {x y o:List Keyed} {i j k:Nat} (h:MH f x y (i + k) j o) (hx:Cs f x) (hle:Gh f (y.take j) ((x.drop i).take k)):MH f x y i j (o ++ ((x.drop i).take k).reverse):=by
 obtain ⟨h1,h2,h3⟩ := h
 have hd:=Gn x i k
 have ht:=M7 x i k
 have e:(o ++ ((x.drop i).take k).reverse).reverse = (x.drop i).take k ++ o.reverse:=by rw [List.reverse_append,List.reverse_reverse]
 have hsx:Cs f (x.take (i + k)):=Fb hx _
 rw [ht] at hsx
 unfold MH
 rw [e]
 refine ⟨?_,?_,?_⟩
 ·refine (List.Perm.append_left _ h1).trans ?_
  rw [<- List.append_assoc,<- hd]
 ·refine G0 (Fb (Ff hx i) k) h2 fun p hp q hq=>h3 p (List.mem_append_left _ ?_) q hq
  rw [ht]
  exact List.mem_append_right _ hp
 ·intro p hp q hq
  rcases List.mem_append.mp hp with z | z
  ·rcases List.mem_append.mp hq with y' | y'
   ·exact (List.pairwise_append.mp hsx).2.2 p z q y'
   ·refine h3 p (List.mem_append_left _ ?_) q y'
    rw [ht]
    exact List.mem_append_left _ z
  ·rcases List.mem_append.mp hq with y' | y'
   ·exact hle p z q y'
   ·exact h3 p (List.mem_append_right _ z) q y'
theorem MH.done {x y o:List Keyed} {i j:Nat} (h:MH f x y i j o) (hx:Cs f x) (hy:Cs f y) (hle:Gh f (x.take i) (y.take j)):Cg f x y (x.take i ++ y.take j ++ o.reverse):=by
 obtain ⟨h1,h2,h3⟩ := h
 refine ⟨?_,G0 (G0 (Fb hx i) (Fb hy j) hle) h2 h3⟩
 refine (List.Perm.append_left _ h1).trans ?_
 have e:x ++ y = (x.take i ++ x.drop i) ++ (y.take j ++ y.drop j):=by rw [List.take_append_drop,List.take_append_drop]
 rw [e,List.append_assoc,List.append_assoc]
 refine List.Perm.append_left _ ?_
 rw [<- List.append_assoc,<- List.append_assoc]
 exact List.Perm.append_right _ List.perm_append_comm
theorem MH.lU {x y o:List Keyed} {i j:Nat} (h:MH f x y i j o) (hx:Cs f x) (hy:Cs f y) (hle:Gh f (y.take j) (x.take i)):Cg f x y (y.take j ++ x.take i ++ o.reverse):=by
 obtain ⟨g1,g2⟩ := h.swap.done hy hx hle
 exact ⟨g1.trans List.perm_append_comm,g2⟩
variable {a b o:Array Keyed} {i j k:Nat}
theorem Iz {l:List Keyed} {i:Nat} {p:Keyed} (h:p ∈ l.take i):∃ m,m < i /\ l[m]? = some p:=by
 have h':p ∈ (l.drop 0).take i:=h
 obtain ⟨m,h1,h2⟩ := Dg h'
 exact ⟨m,h1,by rw [Nat.zero_add] at h2; exact h2⟩
theorem MH.bC (h:MH f a.toList b.toList i j o.toList) (hx:Cs f a.toList) (hy:Cs f b.toList) (e:i = 0 \/ j = 0):Cg f a.toList b.toList (a.extract 0 i ++ b.extract 0 j ++ o.reverse).toList:=by
 rw [Array.toList_append,Array.toList_append,Nf,Nf,Array.toList_reverse]
 refine h.done hx hy ?_
 rcases e with e | e <;> subst e
 ·intro p hp
  simp at hp
 ·intro p _ q hq
  simp at hq
theorem MH.dD (h:MH f a.toList b.toList i j o.toList) (hx:Cs f a.toList) (hy:Cs f b.toList) (e:j = 1) (hf:∀ p ∈ a.toList,fa f b 0 <= f p):Cg f a.toList b.toList (b.extract 0 j ++ a.extract 0 i ++ o.reverse).toList:=by
 rw [Array.toList_append,Array.toList_append,Nf,Nf,Array.toList_reverse]
 refine h.lU hx hy fun p hp q hq=>?_
 obtain ⟨m,hm,e2⟩ := Iz hp
 obtain rfl:m = 0:=by omega
 rw [Array.getElem?_toList] at e2
 have:=hf q (List.mem_of_mem_take hq)
 rw [As e2] at this
 exact this
theorem MH.lV (h:MH f a.toList b.toList i j o.toList) (hx:Cs f a.toList) (hy:Cs f b.toList) {m:Nat} (hm:m <= i) (hle:∀ n,m <= n -> n < i -> ∀ l,l < j -> fa f b l <= fa f a n):MH f a.toList b.toList m j (o ++ (a.extract m i).reverse).toList:=by
 obtain ⟨k,rfl⟩ : ∃ k,i = m + k:=⟨i - m,by omega⟩
 rw [Array.toList_append,Array.toList_reverse,Fv]
 refine h.iG hx fun x pO y lK=>?_
 obtain ⟨l,hl,e⟩ := Iz pO
 obtain ⟨n,hn,e2⟩ := Dg lK
 rw [Array.getElem?_toList] at e e2
 have:=hle (m + n) (by omega) (by omega) l hl
 rw [As e,As e2] at this
 exact this
theorem MH.uT (h:MH f a.toList b.toList i j o.toList) (hx:Cs f a.toList) (hy:Cs f b.toList) {m:Nat} (hm:m <= j) (hle:∀ n,m <= n -> n < j -> ∀ l,l < i -> fa f a l <= fa f b n):MH f a.toList b.toList i m (o ++ (b.extract m j).reverse).toList:=(h.swap.lV hy hx hm hle).swap
theorem Yx {a:Array Keyed} {i:Nat} {p:Keyed} (hp:a[i]? = some p):(a.extract i (i + 1)).toList = [p]:=by
 rw [Fv]
 exact Nm (by rw [Array.getElem?_toList]; exact hp)
theorem MH.fA (h:MH f a.toList b.toList (i + 1) j o.toList) (hx:Cs f a.toList) (hy:Cs f b.toList) {p:Keyed} (hp:a[i]? = some p) (hle:∀ l,l < j -> fa f b l <= f p):MH f a.toList b.toList i j (o.push p).toList:=by
 have:=h.lV hx hy (m:=i) (by omega) fun n h1 h2 l hl=>by
  obtain rfl:n = i:=by omega
  rw [As hp]
  exact hle l hl
 rw [Array.toList_append,Array.toList_reverse,Yx hp] at this
 rw [Array.toList_push]
 exact this
theorem MH.gG (h:MH f a.toList b.toList i (j + 1) o.toList) (hx:Cs f a.toList) (hy:Cs f b.toList) {q:Keyed} (hq:b[j]? = some q) (hle:∀ l,l < i -> fa f a l <= f q):MH f a.toList b.toList i j (o.push q).toList:=(h.swap.fA hy hx hq hle).swap
end
section
variable {prog:Program} {w:World} {A:Around} {E:Value -> Shared -> Prop} {s:Shared} {κ:SortKind} {f:Keyed -> Nat} {a₀:Array Keyed} {st:SortSt}
theorem Ol (hA : Gm prog w A s κ f a₀) (hk : kindOf st = κ) {a b : Array Keyed} (ha : ∀ p, p ∈ a -> p ∈ a₀) (hb : ∀ p, p ∈ b -> p ∈ a₀) (hx : Cs f a.toList) (hy : Cs f b.toList) (ha0 : 0 < a.size) (za : 0 < b.size)
  (cW:∀ p ∈ a.toList,fa f b 0 <= f p) (lW:∀ j,j < b.size -> fa f b j <= fa f a (a.size - 1)) {Q:Array Keyed -> SortSt -> Prop} (h:∀ r aP,Gs st aP -> Cg f a.toList b.toList r.toList -> Q r aP):wpS (model prog w) A E s (W9 a b) Q st:=by
 have eX:∀ g,kindOf (SortSt.mk' (kindOf st) (arrOf st) (pendingOf st) g (failedOf st)) = κ:=fun g=>hk
 have JX:∀ {lo hi},hi <= a.size -> Gr f a lo hi:=fun h=>Ji hx h
 have JY:∀ {lo hi},hi <= b.size -> Gr f b lo hi:=fun h=>Ji hy h
 obtain ⟨p0,JZ⟩ := Bi (a:=a) (i:=a.size - 1) (by omega)
 refine wpS_bind (wpS_lift (wpAny_rule ⟨rfl,?_⟩))
 refine wpS_bind (Ay JZ ?_)
 have M0:MH f a.toList b.toList (a.size - 1 + 1) b.size (#[]:Array Keyed).toList:=by
  refine ⟨?_,List.Pairwise.nil,fun p _ q hq=>by cases hq⟩
  rw [List.drop_of_length_le (l:=a.toList) (by rw [Array.length_toList]; omega),List.drop_of_length_le (l:=b.toList) (by rw [Array.length_toList]; omega)]
  exact List.Perm.refl _
 have M1:=M0.fA hx hy JZ (fun l hl=>by have:=lW l hl; rw [As JZ] at this; exact this)
 rw [show (#[]:Array Keyed).push p0 = #[p0] from rfl] at M1
 dsimp -zeta only
 by_cases e1:a.size - 1 = 0
 ·rw [if_pos (E3 e1)]
  exact wpS_pure (h _ _ Gs.refl (M1.bC hx hy (.inl e1)))
 rw [if_neg (E6 e1)]
 by_cases e2:b.size = 1
 ·rw [if_pos (E3 e2)]
  exact wpS_pure (h _ _ Gs.refl (M1.dD hx hy e2 cW))
 rw [if_neg (E6 e2)]
 refine wpS_bind (wpS_get ?_)
 refine wpS_bind (wpS_mono (wpS_forRange (I:=fun x c aP=>Gs st aP /\ ∃ o na nb g,c = (none,na,nb,o,g) /\ MH f a.toList b.toList na nb o.toList /\ 0 < na /\ na <= a.size /\ 1 < nb /\ nb <= b.size /\ na + nb + x + 1 <= a.size + b.size)
  (Q:=fun c aP=>Gs st aP /\ ∃ r z,c = (some r,z) /\ Cg f a.toList b.toList r.toList) ?_ ?_ ⟨Gs.refl,_,_,_,_,rfl,M1,by omega,by omega,by omega,by omega,by omega⟩) ?_)
 ·rintro x c bL _ pO ⟨G1,o,na,nb,g,rfl,M,h1,eJ,h2,gH,h3⟩
  dsimp -zeta only
  refine wpS_bind (wpS_mono (wpS_forRange (I:=fun y c aP=>Gs st aP /\ ∃ o na nb ac bc,c = (none,na,nb,o,ac,bc) /\ MH f a.toList b.toList na nb o.toList /\ 0 < na /\ na <= a.size /\ 1 < nb /\ nb <= b.size /\ na + nb + x + 1 + y <= a.size + b.size)
   (Q:=fun c aP=>Gs st aP /\ ((∃ r z,c = (some r,z) /\ Cg f a.toList b.toList r.toList) \/ ∃ o na nb ac bc,c = (none,na,nb,o,ac,bc) /\ MH f a.toList b.toList na nb o.toList /\ 0 < na /\ na <= a.size /\ 1 < nb /\ nb <= b.size /\ na + nb + x + 2 <= a.size + b.size)) ?_ ?_ ⟨G1,_,_,_,_,_,rfl,M,h1,eJ,h2,gH,by omega⟩) ?_)
  ·clear M h1 h2 h3 G1 eJ gH
   rintro y c bL _ lK ⟨G1,o,na,nb,ac,bc,rfl,M,h1,eJ,h2,gH,h3⟩
   obtain ⟨gx,rfl⟩ := G1
   obtain ⟨q,hq⟩ := Bi (a:=b) (i:=nb - 1) (by omega)
   obtain ⟨p,hp⟩ := Bi (a:=a) (i:=na - 1) (by omega)
   dsimp -zeta only
   refine wpS_bind (Ay hq (wpS_bind (Ay hp (wpS_bind (Ku hA (eX gx) (hb q (Array.mem_of_getElem? hq)) (ha p (Array.mem_of_getElem? hp)) ?_)))))
   dsimp -zeta only
   by_cases z:f q < f p
   ·rw [if_pos (decide_eq_true z)]
    have M2:=MH.fA (i:=na - 1) (by rw [show na - 1 + 1 = na by omega]; exact M) hx hy hp (fun l hl=>by have:=JY (lo:=0) (hi:=b.size) (Nat.le_refl _) l (nb - 1) (by omega) (by omega) (by omega); rw [As hq] at this; omega)
    refine wpS_bind (Ay hp ?_)
    by_cases e:na - 1 = 0
    ·rw [if_pos (E3 e)]
     exact wpS_pure ⟨⟨_,rfl⟩,.inl ⟨_,_,rfl,M2.bC hx hy (.inl e)⟩⟩
    rw [if_neg (E6 e)]
    split
    ·exact wpS_pure ⟨⟨_,rfl⟩,.inr ⟨_,_,_,_,_,rfl,M2,by omega,by omega,h2,gH,by omega⟩⟩
    ·exact wpS_pure ⟨⟨_,rfl⟩,_,_,_,_,_,rfl,M2,by omega,by omega,h2,gH,by omega⟩
   ·rw [if_neg (by rw [decide_eq_true_eq]; exact z)]
    have M2:=MH.gG (j:=nb - 1) (by rw [show nb - 1 + 1 = nb by omega]; exact M) hx hy hq (fun l hl=>by have:=JX (lo:=0) (hi:=a.size) (Nat.le_refl _) l (na - 1) (by omega) (by omega) (by omega); rw [As hp] at this; omega)
    refine wpS_bind (Ay hq ?_)
    by_cases e:nb - 1 = 1
    ·rw [if_pos (E3 e)]
     exact wpS_pure ⟨⟨_,rfl⟩,.inl ⟨_,_,rfl,M2.dD hx hy e cW⟩⟩
    rw [if_neg (E6 e)]
    split
    ·exact wpS_pure ⟨⟨_,rfl⟩,.inr ⟨_,_,_,_,_,rfl,M2,h1,eJ,by omega,by omega,by omega⟩⟩
    ·exact wpS_pure ⟨⟨_,rfl⟩,_,_,_,_,_,rfl,M2,h1,eJ,by omega,by omega,by omega⟩
  ·rintro c aP ⟨G1,o,na,nb,ac,bc,rfl,M,h1,eJ,h2,gH,h3⟩
   exact ⟨G1,.inr ⟨o,na,nb,ac,bc,rfl,M,h1,eJ,h2,gH,by omega⟩⟩
  clear M h1 h2 h3 G1 eJ gH
  rintro c aU ⟨G2,⟨r,z,rfl,J⟩ | ⟨o,na,nb,ac,bc,rfl,M,h1,eJ,h2,gH,h3⟩⟩
  ·dsimp -zeta only
   exact wpS_pure ⟨G2,r,_,rfl,J⟩
  dsimp -zeta only
  refine wpS_bind (wpS_lift (wpAny_rule ⟨rfl,?_⟩))
  refine wpS_bind (wpS_mono (wpS_forRange (I:=fun y c aP=>Gs st aP /\ ∃ o na nb mg ac bc,c = (none,na,nb,o,mg,ac,bc) /\ MH f a.toList b.toList na nb o.toList /\ 0 < na /\ na <= a.size /\ 1 < nb /\ nb <= b.size /\ na + nb + x + 2 <= a.size + b.size)
   (Q:=fun c aP=>Gs st aP /\ ((∃ r z,c = (some r,z) /\ Cg f a.toList b.toList r.toList) \/ ∃ o na nb mg ac bc,c = (none,na,nb,o,mg,ac,bc) /\ MH f a.toList b.toList na nb o.toList /\ 0 < na /\ na <= a.size /\ 1 < nb /\ nb <= b.size /\ na + nb + x + 2 <= a.size + b.size)) ?_ ?_ ⟨G2,_,_,_,_,_,_,rfl,M,h1,eJ,h2,gH,h3⟩) ?_)
  ·clear M h1 h2 h3 G2 eJ gH
   rintro y c bL _ lK ⟨G1,o,na,nb,mg,ac,bc,rfl,M,h1,eJ,h2,gH,h3⟩
   obtain ⟨gx,rfl⟩ := G1
   obtain ⟨q,hq⟩ := Bi (a:=b) (i:=nb - 1) (by omega)
   dsimp -zeta only
   have ga : ∀ {Q' : Option Nat -> SortSt -> Prop} {mg}, (∀ k, k <= na -> (∀ m, m < k -> fa f a m <= f q) -> (∀ m, k <= m -> m < na -> f q <= fa f a m) -> Q' (some k) (SortSt.mk' (kindOf st) (arrOf st) (pendingOf st) mg (failedOf st))) ->
     wpS (model prog w) A E s (Hq false q a 0 na (na - 1)) Q' (SortSt.mk' (kindOf st) (arrOf st) (pendingOf st) mg (failedOf st)):=fun {Q'} {mg} uU=>by
    refine Cu hA (eX mg) (hb q (Array.mem_of_getElem? hq)) ha (by omega) (by omega) (JX (by omega)) fun k g1 g2 g3=>uU k (by omega) (fun m hm=>?_) (fun m oW GQ=>?_)
    ·have:=g2 m hm
     simpa using this
    ·have:=g3 m oW (by omega)
     simp at this
     omega
   have gb : ∀ {Q' : Option Nat -> SortSt -> Prop} {mg i j p}, a[i]? = some p -> 0 < j -> j <= b.size -> (∀ k, k <= j -> (∀ m, m < k -> fa f b m <= f p) -> (∀ m, k <= m -> m < j -> f p <= fa f b m) -> Q' (some k) (SortSt.mk' (kindOf st) (arrOf st) (pendingOf st) mg (failedOf st))) ->
     wpS (model prog w) A E s (Hq true p b 0 j (j - 1)) Q' (SortSt.mk' (kindOf st) (arrOf st) (pendingOf st) mg (failedOf st)):=fun {Q'} {mg i j p} hp hj hj2 uU=>by
    refine Cu hA (eX mg) (ha p (Array.mem_of_getElem? hp)) hb (by omega) (by omega) (JY (by omega)) fun k g1 g2 g3=>uU k (by omega) (fun m hm=>?_) (fun m oW GQ=>?_)
    ·have:=g2 m hm
     simp at this
     omega
    ·have:=g3 m oW (by omega)
     simpa using this
   dsimp only
   apply Wq mg (mg - 1) (Eq.refl _) (Eq.refl _)
   intro mg
   refine wpS_bind (wpS_modify ?_)
   refine wpS_bind (Ay hq (wpS_bind (ga fun k g1 g2 g3=>?_)))
   dsimp only
   have eV:∀ l,l < nb -> fa f b l <= f q:=fun l hl=>by
    have:=JY (lo:=0) (hi:=b.size) (Nat.le_refl _) l (nb - 1) (by omega) (by omega) (by omega)
    rw [As hq] at this
    exact this
   generalize hac:na - k = ac2
   apply Jj (fun o2 n2=>MH f a.toList b.toList n2 nb o2.toList /\ 0 < n2 /\ n2 <= na /\ ∀ l,l < n2 -> fa f a l <= f q) o na (Eq.refl _) (fun z=>⟨M,h1,Nat.le_refl _,fun l hl=>g2 l (by omega)⟩)
   ·intro z K
    have M2:=M.lV hx hy g1 (fun n rE z9 l hl=>Nat.le_trans (eV l hl) (g3 n rE z9))
    by_cases e:k = 0
    ·rw [if_pos (E3 e)]
     exact wpS_pure ⟨⟨_,rfl⟩,.inl ⟨_,_,rfl,M2.bC hx hy (.inl e)⟩⟩
    rw [if_neg (E6 e)]
    exact K _ _ ⟨M2,by omega,g1,g2⟩
   rintro o2 n2 ⟨M2,z9,hn2',g2'⟩
   clear g2 g3 M eV
   refine wpS_bind (Ay hq ?_)
   have M3:=MH.gG (j:=nb - 1) (by rw [show nb - 1 + 1 = nb by omega]; exact M2) hx hy hq g2'
   generalize hnb:nb - 1 = GR at M3 hq ⊢
   generalize o2.push q = o3 at M3 ⊢
   by_cases e':GR = 1
   ·rw [if_pos (E3 e')]
    exact wpS_pure ⟨⟨_,rfl⟩,.inl ⟨_,_,rfl,M3.dD hx hy e' cW⟩⟩
   rw [if_neg (E6 e')]
   obtain ⟨p,hp⟩ := Bi (a:=a) (i:=n2 - 1) (by omega)
   refine wpS_bind (Ay hp (wpS_bind (gb hp (by omega) (by omega) fun k2 c1 c2 c3=>?_)))
   dsimp only
   generalize hbc:GR - k2 = bc2
   apply Jj (fun o4 j4=>MH f a.toList b.toList n2 j4 o4.toList /\ 1 < j4 /\ j4 <= GR /\ ∀ l,l < j4 -> fa f b l <= f p) o3 GR (Eq.refl _) (fun z=>⟨M3,by omega,Nat.le_refl _,fun l hl=>c2 l (by omega)⟩)
   ·intro z K
    have M4:=M3.uT hx hy c1 (fun n rE z9 l hl=>Nat.le_trans (by
     have:=JX (lo:=0) (hi:=a.size) (Nat.le_refl _) l (n2 - 1) (by omega) (by omega) (by omega)
     rw [As hp] at this
     exact this) (c3 n rE z9))
    by_cases e4:k2 = 1
    ·rw [if_pos (E3 e4)]
     exact wpS_pure ⟨⟨_,rfl⟩,.inl ⟨_,_,rfl,M4.dD hx hy e4 cW⟩⟩
    rw [if_neg (E6 e4)]
    by_cases e5:k2 = 0
    ·rw [if_pos (E3 e5)]
     exact wpS_pure ⟨⟨_,rfl⟩,.inl ⟨_,_,rfl,M4.bC hx hy (.inr e5)⟩⟩
    rw [if_neg (E6 e5)]
    exact K _ _ ⟨M4,by omega,c1,c2⟩
   rintro o4 j4 ⟨M4,hj4,hj4',c2'⟩
   clear c1 c2 c3 M3 M2
   refine wpS_bind (Ay hp ?_)
   have M5:=MH.fA (i:=n2 - 1) (by rw [show n2 - 1 + 1 = n2 by omega]; exact M4) hx hy hp c2'
   by_cases e6:n2 - 1 = 0
   ·rw [if_pos (E3 e6)]
    exact wpS_pure ⟨⟨_,rfl⟩,.inl ⟨_,_,rfl,M5.bC hx hy (.inl e6)⟩⟩
   rw [if_neg (E6 e6)]
   split
   ·exact wpS_pure ⟨⟨_,rfl⟩,.inr ⟨_,_,_,_,_,_,rfl,M5,by omega,by omega,hj4,by omega,by omega⟩⟩
   ·exact wpS_pure ⟨⟨_,rfl⟩,_,_,_,_,_,_,rfl,M5,by omega,by omega,hj4,by omega,by omega⟩
  ·rintro c aP ⟨G1,o,na,nb,mg,ac,bc,rfl,M,h1,eJ,h2,gH,h3⟩
   exact ⟨G1,.inr ⟨o,na,nb,mg,ac,bc,rfl,M,h1,eJ,h2,gH,h3⟩⟩
  clear M h1 h2 h3 G2 eJ gH
  rintro c aU ⟨G2,⟨r,z,rfl,J⟩ | ⟨o,na,nb,mg,ac,bc,rfl,M,h1,eJ,h2,gH,h3⟩⟩
  ·dsimp -zeta only
   exact wpS_pure ⟨G2,r,_,rfl,J⟩
  dsimp -zeta only
  obtain ⟨gx,rfl⟩ := G2
  refine wpS_bind (wpS_modify ?_)
  exact wpS_pure ⟨⟨_,rfl⟩,_,_,_,_,rfl,M,h1,eJ,h2,gH,by omega⟩
 ·rintro c aP ⟨G1,o,na,nb,g,rfl,M,h1,eJ,h2,gH,h3⟩
  exfalso
  omega
 rintro c aP ⟨G1,r,z,rfl,J⟩
 dsimp -zeta only
 exact wpS_pure (h _ _ G1 J)
end
section
variable {f:Keyed -> Nat}
theorem E9 {xs:Array Keyed} {i j:Nat} (hj:j <= xs.size) (k:Nat):fa f (mirror xs i j ((j - i) / 2)) k = if i <= k /\ k < j then fa f xs (i + j - 1 - k) else fa f xs k:=by
 have e:=getElem?_mirror_all (i:=i) hj k
 by_cases h:i <= k /\ k < j
 ·rw [if_pos h] at e ⊢
  exact Dc e
 ·rw [if_neg h] at e ⊢
  exact Dc e
theorem He {xs:Array Keyed} {i j:Nat} (hj:j <= xs.size) (h:∀ k l,i <= k -> k < j -> i <= l -> l < j -> fa f xs k = fa f xs l) (k:Nat):fa f (mirror xs i j ((j - i) / 2)) k = fa f xs k:=by
 rw [E9 hj]
 split
 ·exact h _ _ (by omega) (by omega) (by omega) (by omega)
 ·rfl
theorem Uo {xs:Array Keyed} {src d:Nat} (hs:src < xs.size) (hd:d <= src) (k:Nat):fa f (bubble xs src d) k = if k = src - d then fa f xs src else if src - d < k /\ k <= src then fa f xs (k - 1) else fa f xs k:=by
 have e:=getElem?_bubble hs d hd k
 by_cases h1:k = src - d
 ·rw [if_pos h1] at e ⊢
  exact Dc e
 ·rw [if_neg h1] at e ⊢
  by_cases h2:src - d < k /\ k <= src
  ·rw [if_pos h2] at e ⊢
   exact Dc e
  ·rw [if_neg h2] at e ⊢
   exact Dc e
theorem Wz:∀ (m:List Keyed) (n base:Nat) (a:Array Keyed),base + n + m.length <= a.size -> ∀ k:Nat,(List.foldl (fun (a:Array Keyed) (x:Keyed × Nat)=>a.setIfInBounds (base + x.snd) x.fst) a (m.zipIdx n))[k]? = if base + n <= k /\ k < base + n + m.length then m[k - (base + n)]? else a[k]?
 | [],n,base,a,h,k=>by
  rw [if_neg (by rw [List.length_nil]; omega)]
  rfl
 | p :: m,n,base,a,h,k=>by
  rw [List.length_cons] at h
  rw [List.zipIdx_cons,List.foldl_cons,Wz m (n + 1) base _ (by rw [Array.size_setIfInBounds]; omega) k,List.length_cons]
  by_cases z:k = base + n
  ·subst z
   rw [if_neg (by omega),if_pos (by omega),Nat.sub_self,List.getElem?_cons_zero]
   show (a.setIfInBounds (base + n) p)[base + n]? = some p
   rw [Array.getElem?_setIfInBounds_self_of_lt (by omega)]
  ·by_cases y:base + n <= k /\ k < base + n + (m.length + 1)
   ·rw [if_pos (by omega),if_pos y,show k - (base + n) = (k - (base + (n + 1))) + 1 by omega,List.getElem?_cons_succ]
   ·rw [if_neg (by omega),if_neg y]
    show (a.setIfInBounds (base + n) p)[k]? = _
    rw [Array.getElem?_setIfInBounds_ne (by omega)]
theorem Yo {a:Array Keyed} {m:List Keyed} {base:Nat} (h:base + m.length <= a.size) (hp:m.Perm ((a.toList.drop base).take m.length)):(List.foldl (fun (a:Array Keyed) (x:Keyed × Nat)=>a.setIfInBounds (base + x.snd) x.fst) a m.zipIdx).Perm a:=by
 generalize hr:List.foldl (fun (a:Array Keyed) (x:Keyed × Nat)=>a.setIfInBounds (base + x.snd) x.fst) a m.zipIdx = r
 have e:∀ k:Nat,r[k]? = if base <= k /\ k < base + m.length then m[k - base]? else a[k]?:=fun k=>by
  rw [<- hr]
  exact Wz m 0 base a (by omega) k
 have el:r.toList = a.toList.take base ++ (m ++ a.toList.drop (base + m.length)):=by
  apply List.ext_getElem?
  intro k
  rw [Array.getElem?_toList,e k]
  have aX:(a.toList.take base).length = base:=by rw [List.length_take,Array.length_toList]; omega
  by_cases z:k < base
  ·rw [if_neg (by omega),List.getElem?_append_left (by omega),List.getElem?_take_of_lt z,Array.getElem?_toList]
  ·rw [List.getElem?_append_right (by omega),aX]
   by_cases y:k < base + m.length
   ·rw [if_pos (by omega),List.getElem?_append_left (by omega)]
   ·rw [if_neg (by omega),List.getElem?_append_right (by omega),List.getElem?_drop,Array.getElem?_toList]
    congr 1
    omega
 have ea:a.toList = a.toList.take base ++ ((a.toList.drop base).take m.length ++ a.toList.drop (base + m.length)):=by
  rw [<- Gn,List.take_append_drop]
 refine Array.perm_iff_toList_perm.mpr ?_
 rw [el]
 refine (List.Perm.append_left _ (hp.append_right _)).trans ?_
 rw [<- ea]
end
section
variable {prog:Program} {w:World} {A:Around} {E:Value -> Shared -> Prop} {s:Shared} {κ:SortKind} {f:Keyed -> Nat} {a₀:Array Keyed} {st:SortSt}
theorem Pg (a:Array Keyed) {i j:Nat} (h:i <= j):(a.extract i j).toList = (a.toList.drop i).take (j - i):=by
 obtain ⟨k,rfl⟩ : ∃ k,j = i + k:=⟨j - i,by omega⟩
 rw [Fv]
 congr 1
 omega
theorem G6 {a:Array Keyed} {i j:Nat} {p:Keyed} (h:p ∈ (a.extract i j).toList) (qZ:i <= j):∃ k,i <= k /\ k < j /\ a[k]? = some p:=by
 rw [Pg a qZ] at h
 obtain ⟨m,h1,h2⟩ := Dg h
 rw [Array.getElem?_toList] at h2
 exact ⟨i + m,by omega,by omega,h2⟩
theorem Th {a:Array Keyed} {i j k:Nat} (hj:j <= a.size) (h:i + k < j):(a.extract i j)[k]? = a[i + k]?:=by
 rw [Array.getElem?_extract]
 split
 ·rfl
 ·omega
theorem S5 {a:Array Keyed} {i j:Nat} (h:Gr f a i j) (hj:j <= a.size) (qZ:i <= j):Cs f (a.extract i j).toList:=by
 refine List.pairwise_iff_getElem.mpr fun m n hm hn hmn=>?_
 have hl:(a.extract i j).toList.length = j - i:=by rw [Array.length_toList,Array.size_extract]; omega
 rw [hl] at hm hn
 have e1:(a.extract i j)[m]? = some (a.extract i j).toList[m]:=by rw [<- Array.getElem?_toList]; exact List.getElem?_eq_getElem _
 have e2:(a.extract i j)[n]? = some (a.extract i j).toList[n]:=by rw [<- Array.getElem?_toList]; exact List.getElem?_eq_getElem _
 rw [Th hj (by omega)] at e1 e2
 have:=h (i + m) (i + n) (by omega) (by omega) (by omega)
 rw [As e1,As e2] at this
 exact this
theorem Wj {a:Array Keyed} {i j k:Nat} (hj:j <= a.size) (h:i + k < j):fa f (a.extract i j) k = fa f a (i + k):=Dc (Th hj h)
theorem Z9 {σ:Type} {s' st:σ} {Q:PUnit -> σ -> Prop} {M:Model} (h:Q ⟨⟩ s'):wpS M A E s (set s':StateT σ Sem PUnit) Q st:=by
 unfold wpS
 rw [StateT.run_set]
 exact wpAny_pure ⟨rfl,h⟩
theorem Ot (hA : Gm prog w A s κ f a₀) (hB : Bs κ a₀ st) {i sa na pw sb nb pb : Nat} (hi : (pendingOf st)[i]? = some (sa, na, pw)) (hj : (pendingOf st)[i + 1]? = some (sb, nb, pb)) (hs : sb = sa + na) (hna : 0 < na) (hnb : 0 < nb) (hsz : sb + nb <= a₀.size)
  (rF:Gr f (arrOf st) sa sb) (rG:Gr f (arrOf st) sb (sb + nb)) {Q:Bool -> SortSt -> Prop}
  (h:∀ aP,Bs κ a₀ aP -> pendingOf aP = ((pendingOf st).setIfInBounds i (sa,na + nb,pw)).eraseIdxIfInBounds (i + 1) -> Gr f (arrOf aP) sa (sb + nb) -> (∀ k,k < sa \/ sb + nb <= k -> fa f (arrOf aP) k = fa f (arrOf st) k) -> Q true aP):wpS (model prog w) A E s (mergeAt' i) Q st:=by
 have hsize:=hB.size
 have kM:∀ p,p ∈ arrOf st -> p ∈ a₀:=fun p hp=>hB.perm.mem_iff.mp hp
 refine wpS_bind (wpS_get ?_)
 dsimp only
 rw [hi,hj]
 dsimp only
 obtain ⟨q,hq⟩ := Bi (a:=arrOf st) (i:=sb) (by omega)
 have rH:∀ P g,kindOf (SortSt.mk' (kindOf st) (arrOf st) P g (failedOf st)) = κ:=fun _ _=>hB.kind
 refine wpS_bind (Z9 ?_)
 refine wpS_bind (Ay hq (wpS_bind (Cu hA (rH _ _) (hB.mem hq) kM (base:=sa) (n:=na) (by omega) (by omega) (by rw [<- hs]; exact rF) fun k k1 k2 k3=>?_)))
 dsimp only
 have k2':∀ m,sa <= m -> m < sa + k -> fa f (arrOf st) m <= fa f (arrOf st) sb:=fun m m1 m2=>by
  have:=k2 (m - sa) (by omega)
  rw [show sa + (m - sa) = m by omega] at this
  rw [As hq]
  simpa using this
 have k3':∀ m,sa + k <= m -> m < sb -> fa f (arrOf st) sb <= fa f (arrOf st) m:=fun m m1 m2=>by
  have:=k3 (m - sa) (by omega) (by omega)
  rw [show sa + (m - sa) = m by omega] at this
  rw [As hq]
  simp at this
  omega
 by_cases e1:na - k = 0
 ·rw [if_pos (E3 e1)]
  refine wpS_pure (h _ ⟨hB.perm,hB.kind,hB.failed⟩ rfl (fun m n h1 h2 h3=>?_) fun _ _=>rfl)
  by_cases z:n < sb
  ·exact rF m n h1 h2 z
  ·by_cases y:m < sb
   ·exact Nat.le_trans (k2' m h1 (by omega)) (rG sb n (Nat.le_refl _) (by omega) h3)
   ·exact rG m n (by omega) h2 h3
 rw [if_neg (E6 e1)]
 obtain ⟨p,hp⟩ := Bi (a:=arrOf st) (i:=sa + k + (na - k) - 1) (by omega)
 have GS:(arrOf st)[sb - 1]? = some p:=by rw [<- hp]; congr 1; omega
 refine wpS_bind (Ay hp (wpS_bind (Cu hA (rH _ _) (hB.mem hp) kM (base:=sb) (n:=nb) (by omega) (by omega) rG fun l l1 l2 l3=>?_)))
 dsimp only
 have l2':∀ m,sb <= m -> m < sb + l -> fa f (arrOf st) m <= fa f (arrOf st) (sb - 1):=fun m m1 m2=>by
  have:=l2 (m - sb) (by omega)
  rw [show sb + (m - sb) = m by omega] at this
  rw [As GS]
  simp at this
  omega
 have KA:∀ m,sb + l <= m -> m < sb + nb -> fa f (arrOf st) (sb - 1) <= fa f (arrOf st) m:=fun m m1 m2=>by
  have:=l3 (m - sb) (by omega) (by omega)
  rw [show sb + (m - sb) = m by omega] at this
  rw [As GS]
  simpa using this
 by_cases e2:l = 0
 ·rw [if_pos (E3 e2)]
  refine wpS_pure (h _ ⟨hB.perm,hB.kind,hB.failed⟩ rfl (fun m n h1 h2 h3=>?_) fun _ _=>rfl)
  by_cases z:n < sb
  ·exact rF m n h1 h2 z
  ·by_cases y:m < sb
   ·exact Nat.le_trans (rF m (sb - 1) h1 (by omega) (by omega)) (KA n (by omega) h3)
   ·exact rG m n (by omega) h2 h3
 rw [if_neg (E6 e2)]
 have hx:Cs f ((arrOf st).extract (sa + k) sb).toList:=S5 (fun m n h1 h2 h3=>rF m n (by omega) h2 h3) (by omega) (by omega)
 have hy:Cs f ((arrOf st).extract sb (sb + l)).toList:=S5 (fun m n h1 h2 h3=>rG m n h1 h2 (by omega)) (by omega) (by omega)
 have ax:∀ p,p ∈ (arrOf st).extract (sa + k) sb -> p ∈ a₀:=fun p hp=>by
  obtain ⟨m,_,_,e⟩ := G6 (Array.mem_toList_iff.mpr hp) (by omega)
  exact hB.mem e
 have ay:∀ p,p ∈ (arrOf st).extract sb (sb + l) -> p ∈ a₀:=fun p hp=>by
  obtain ⟨m,_,_,e⟩ := G6 (Array.mem_toList_iff.mpr hp) (by omega)
  exact hB.mem e
 have sx:((arrOf st).extract (sa + k) sb).size = na - k:=by rw [Array.size_extract]; omega
 have sy:((arrOf st).extract sb (sb + l)).size = l:=by rw [Array.size_extract]; omega
 have fx:∀ m,m < na - k -> fa f ((arrOf st).extract (sa + k) sb) m = fa f (arrOf st) (sa + k + m):=fun m hm=>Wj (by omega) (by omega)
 have fy:∀ m,m < l -> fa f ((arrOf st).extract sb (sb + l)) m = fa f (arrOf st) (sb + m):=fun m hm=>Wj (by omega) (by omega)
 have fin : ∀ (r : Array Keyed) (bL : SortSt), Cg f ((arrOf st).extract (sa + k) sb).toList ((arrOf st).extract sb (sb + l)).toList r.toList -> kindOf bL = κ -> failedOf bL = none -> arrOf bL = arrOf st -> pendingOf bL = ((pendingOf st).setIfInBounds i (sa, na + nb, pw)).eraseIdxIfInBounds (i + 1) ->
   Q true (setArr bL (List.foldl (fun (a:Array Keyed) (x:Keyed × Nat)=>a.setIfInBounds (sa + k + x.snd) x.fst) (arrOf bL) r.toList.zipIdx)):=fun r bL J g1 g2 g3 g4=>by
  have hlen:r.toList.length = na - k + l:=by
   rw [J.1.length_eq,List.length_append,Array.length_toList,Array.length_toList,sx,sy]
  have KC:((arrOf st).extract (sa + k) sb).toList ++ ((arrOf st).extract sb (sb + l)).toList = ((arrOf st).toList.drop (sa + k)).take r.toList.length:=by
   rw [hlen,Pg _ (by omega),Fv,show sb - (sa + k) = na - k by omega,List.take_add,List.drop_drop,show sa + k + (na - k) = sb by omega]
  have oX:∀ m:Nat,(List.foldl (fun (a:Array Keyed) (x:Keyed × Nat)=>a.setIfInBounds (sa + k + x.snd) x.fst) (arrOf bL) r.toList.zipIdx)[m]? = if sa + k <= m /\ m < sa + k + r.toList.length then r.toList[m - (sa + k)]? else (arrOf st)[m]?:=fun m=>by
   rw [g3]
   exact Wz r.toList 0 (sa + k) (arrOf st) (by omega) m
  have fB:(List.foldl (fun (a:Array Keyed) (x:Keyed × Nat)=>a.setIfInBounds (sa + k + x.snd) x.fst) (arrOf bL) r.toList.zipIdx).Perm (arrOf st):=by
   rw [g3]
   refine Yo (by omega) ?_
   rw [<- KC]
   exact J.1
  generalize List.foldl (fun (a:Array Keyed) (x:Keyed × Nat)=>a.setIfInBounds (sa + k + x.snd) x.fst) (arrOf bL) r.toList.zipIdx = a' at oX fB ⊢
  have kN:∀ m,m < sa + k \/ sb + l <= m -> fa f a' m = fa f (arrOf st) m:=fun m hm=>by
   refine Dc ?_
   rw [oX m,if_neg (by omega)]
  have fin2:∀ m,sa + k <= m -> m < sb + l -> ∃ p,r.toList[m - (sa + k)]? = some p /\ fa f a' m = f p /\ ∃ n,sa + k <= n /\ n < sb + l /\ (arrOf st)[n]? = some p:=fun m h1 h2=>by
   have hm:m - (sa + k) < r.toList.length:=by omega
   refine ⟨r.toList[m - (sa + k)],List.getElem?_eq_getElem hm,?_,?_⟩
   ·refine As ?_
    rw [oX m,if_pos (by omega)]
    exact List.getElem?_eq_getElem hm
   ·have bV:=J.1.mem_iff.mp (List.getElem_mem hm)
    rcases List.mem_append.mp bV with z | z
    ·obtain ⟨n,n1,n2,n3⟩ := G6 z (by omega)
     exact ⟨n,n1,by omega,n3⟩
    ·obtain ⟨n,n1,n2,n3⟩ := G6 z (by omega)
     exact ⟨n,by omega,n2,n3⟩
  have lowP:∀ m,sa <= m -> m < sa + k -> ∀ n,sa + k <= n -> n < sb + l -> fa f (arrOf st) m <= fa f (arrOf st) n:=fun m m1 m2 n n1 n2=>by
   by_cases z:n < sb
   ·exact rF m n m1 (by omega) z
   ·exact Nat.le_trans (k2' m m1 m2) (rG sb n (Nat.le_refl _) (by omega) (by omega))
  have zS:∀ m,sb + l <= m -> m < sb + nb -> ∀ n,sa + k <= n -> n < sb + l -> fa f (arrOf st) n <= fa f (arrOf st) m:=fun m m1 m2 n n1 n2=>by
   by_cases z:n < sb
   ·exact Nat.le_trans (rF n (sb - 1) (by omega) (by omega) (by omega)) (KA m m1 m2)
   ·exact rG n m (by omega) (by omega) m2
  refine h _ ⟨fB.trans hB.perm,g1,g2⟩ g4 (fun m n h1 h2 h3=>?_) (fun m hm=>kN m (by omega))
  by_cases c1:m < sa + k
  ·rw [kN m (.inl c1)]
   by_cases c2:n < sa + k
   ·rw [kN n (.inl c2)]
    exact rF m n h1 h2 (by omega)
   ·by_cases c3:n < sb + l
    ·obtain ⟨p,_,e,n',n1,n2,n3⟩ := fin2 n (by omega) c3
     rw [e,<- As (f:=f) n3]
     exact lowP m h1 c1 n' n1 n2
    ·rw [kN n (.inr (by omega))]
     exact Nat.le_trans (lowP m h1 c1 (sb - 1) (by omega) (by omega)) (KA n (by omega) h3)
  ·by_cases c3:n < sb + l
   ·obtain ⟨p,e1,e2,_⟩ := fin2 m (by omega) (by omega)
    obtain ⟨q,e3,e4,_⟩ := fin2 n (by omega) c3
    rw [e2,e4]
    exact Kb J.2 e1 e3 (by omega)
   ·rw [kN n (.inr (by omega))]
    by_cases c4:m < sb + l
    ·obtain ⟨p,_,e,n',n1,n2,n3⟩ := fin2 m (by omega) c4
     rw [e,<- As (f:=f) n3]
     exact zS n (by omega) h3 n' n1 n2
    ·rw [kN m (.inr (by omega))]
     exact rG m n (by omega) h2 h3
 by_cases e3:na - k <= l
 ·rw [if_pos e3]
  refine wpS_bind (Os hA (rH _ _) ax ay hx hy (by omega) (by omega) ?_ ?_ fun r bL G J=>?_)
  ·rw [fx 0 (by omega),fy 0 (by omega)]
   exact k3' _ (by omega) (by omega)
  ·intro q hq
   obtain ⟨m,m1,m2,m3⟩ := G6 hq (by omega)
   rw [sx,fx _ (by omega),show sa + k + (na - k - 1) = sb - 1 by omega,<- As (f:=f) m3]
   exact l2' m m1 m2
  ·obtain ⟨g,rfl⟩ := G
   refine wpS_bind (wpS_modify ?_)
   refine wpS_bind (wpS_get (wpS_pure ?_))
   have e:(failedOf st).isNone = true:=by rw [hB.failed]; rfl
   have:=fin r (SortSt.mk' (kindOf st) (arrOf st) (((pendingOf st).setIfInBounds i (sa,na + nb,pw)).eraseIdxIfInBounds (i + 1)) g (failedOf st)) J hB.kind hB.failed rfl rfl
   rw [<- e] at this
   exact this
 ·rw [if_neg e3]
  refine wpS_bind (Ol hA (rH _ _) ax ay hx hy (by omega) (by omega) ?_ ?_ fun r bL G J=>?_)
  ·intro p hp
   obtain ⟨m,m1,m2,m3⟩ := G6 hp (by omega)
   rw [fy 0 (by omega),<- As (f:=f) m3]
   exact k3' m m1 m2
  ·intro j hj
   rw [sx,fx _ (by omega),fy j (by omega),show sa + k + (na - k - 1) = sb - 1 by omega]
   exact l2' _ (by omega) (by omega)
  ·obtain ⟨g,rfl⟩ := G
   refine wpS_bind (wpS_modify ?_)
   refine wpS_bind (wpS_get (wpS_pure ?_))
   have e:(failedOf st).isNone = true:=by rw [hB.failed]; rfl
   have:=fin r (SortSt.mk' (kindOf st) (arrOf st) (((pendingOf st).setIfInBounds i (sa,na + nb,pw)).eraseIdxIfInBounds (i + 1)) g (failedOf st)) J hB.kind hB.failed rfl rfl
   rw [<- e] at this
   exact this
end
section
variable {prog:Program} {w:World} {A:Around} {E:Value -> Shared -> Prop} {s:Shared} {κ:SortKind} {f:Keyed -> Nat} {a₀:Array Keyed} {st:SortSt}
def Ch (f:Keyed -> Nat) (lo:Nat) (st aP:SortSt):Prop:=pendingOf aP = pendingOf st /\ ∀ k,k < lo -> fa f (arrOf aP) k = fa f (arrOf st) k
theorem Ch.refl {lo:Nat}:Ch f lo st st:=⟨rfl,fun _ _=>rfl⟩
theorem Ch.trans {lo:Nat} {bL aU eS:SortSt} (h:Ch f lo bL aU) (g:Ch f lo aU eS):Ch f lo bL eS:=⟨g.1.trans h.1,fun k hk=>(g.2 k hk).trans (h.2 k hk)⟩
theorem Gx {i j:Nat} {Q:Unit -> SortSt -> Prop} (h:Q () (setArr st (mirror (arrOf st) i j ((j - i) / 2)))):wpS (model prog w) A E s (reverseSlice' i j) Q st:=by
 rw [reverseSlice'_eq]
 exact wpS_modify h
theorem Bs.rev (hB:Bs κ a₀ st) (i j:Nat):Bs κ a₀ (setArr st (mirror (arrOf st) i j ((j - i) / 2))):=⟨(mirror_perm _ _ _ _).trans hB.perm,hB.kind,hB.failed⟩
theorem Ys {a:Array Keyed} {lo:Nat}:Gr f a lo (lo + 1):=fun i j h1 h2 h3=>by
 obtain rfl:i = j:=by omega
 exact Nat.le_refl _
theorem Oo {a:Array Keyed} {lo n:Nat} (h:Gr f a lo (lo + n)) (hn:0 < n) (e:fa f a (lo + n - 1) <= fa f a (lo + n)):Gr f a lo (lo + (n + 1)):=fun i j h1 h2 h3=>by
 by_cases z:j < lo + n
 ·exact h i j h1 h2 z
 ·obtain rfl:j = lo + n:=by omega
  by_cases y:i < lo + n
  ·exact Nat.le_trans (h i (lo + n - 1) h1 (by omega) (by omega)) e
  ·obtain rfl:i = lo + n:=by omega
   exact Nat.le_refl _
def Zm (f:Keyed -> Nat) (a:Array Keyed) (lo n q:Nat):Prop:=(∀ i j,lo <= i -> i <= j -> j < lo + n -> fa f a j <= fa f a i) /\ q < n /\ ∀ i,lo + n - (q + 1) <= i -> i < lo + n -> fa f a i = fa f a (lo + n - 1)
theorem Zm.flat {a:Array Keyed} {lo n q:Nat} (h:Zm f a lo n q) (hs:lo + n <= a.size) (k:Nat):fa f (mirror a (lo + n - (q + 1)) (lo + n) ((lo + n - (lo + n - (q + 1))) / 2)) k = fa f a k:=He hs (fun k l h1 h2 h3 h4=>(h.2.2 k h1 h2).trans (h.2.2 l h3 h4).symm) k
theorem Zm.asc {a b:Array Keyed} {lo n q:Nat} (h:Zm f a lo n q) (hs:lo + n <= b.size) (e:∀ k,fa f b k = fa f a k):Gr f (mirror b lo (lo + n) ((lo + n - lo) / 2)) lo (lo + n):=fun i j h1 h2 h3=>by
 rw [E9 hs,E9 hs,if_pos (by omega),if_pos (by omega),e,e]
 exact h.1 _ _ (by omega) (by omega) (by omega)
theorem Qc (hA : Gm prog w A s κ f a₀) (hB : Bs κ a₀ st) {lo nr : Nat} (uV : 0 < nr) (hsz : lo + nr <= a₀.size) {Q : Option Nat -> SortSt -> Prop}
  (h:∀ m aP,0 < m -> m <= nr -> Bs κ a₀ aP -> Ch f lo st aP -> Gr f (arrOf aP) lo (lo + m) -> Q (some m) aP):wpS (model prog w) A E s (countRun' lo nr) Q st:=by
 refine wpS_bind (wpS_mono (wpS_forRange (I:=fun x c aP=>aP = st /\ c = (none,x) /\ Gr f (arrOf st) lo (lo + x)) (Q:=fun c aP=>aP = st /\ ∃ n,c = (none,n) /\ 0 < n /\ n <= nr /\ Gr f (arrOf st) lo (lo + n) /\ (n < nr -> fa f (arrOf st) (lo + n) < fa f (arrOf st) (lo + n - 1))) ?_ ?_ ⟨rfl,rfl,Ys⟩) ?_)
 ·rintro x c aP h1 h2 ⟨rfl,rfl,h3⟩
  dsimp only
  refine wpS_bind (Fy hA hB (by omega) (by omega) ?_)
  dsimp only
  by_cases z:fa f (arrOf aP) (lo + x) < fa f (arrOf aP) (lo + x - 1)
  ·rw [if_pos (decide_eq_true z)]
   exact wpS_pure ⟨rfl,x,rfl,by omega,by omega,h3,fun _=>z⟩
  ·rw [if_neg (by rw [decide_eq_true_eq]; exact z)]
   exact wpS_pure ⟨rfl,rfl,Oo h3 (by omega) (by omega)⟩
 ·rintro c aP ⟨rfl,rfl,h3⟩
  have e:max 1 nr = nr:=by omega
  rw [e] at h3 ⊢
  exact ⟨rfl,nr,rfl,uV,Nat.le_refl _,h3,fun z=>absurd z (Nat.lt_irrefl _)⟩
 rintro c aP ⟨rfl,n,rfl,h1,h2,h3,h4⟩
 dsimp only
 by_cases e1:n = nr
 ·rw [if_pos (E3 e1)]
  exact wpS_pure (h _ _ h1 h2 hB Ch.refl h3)
 rw [if_neg (E6 e1)]
 have h4':=h4 (by omega)
 have part:∀ bL,Bs κ a₀ bL -> pendingOf bL = pendingOf aP -> (∀ k,fa f (arrOf bL) k = fa f (arrOf aP) k) -> (∀ i,lo <= i -> i < lo + n -> fa f (arrOf aP) i = fa f (arrOf aP) (lo + n - 1)) -> Zm f (arrOf bL) lo (n + 1) 0:=fun bL B1 p1 f1 eq=>by
  refine ⟨fun i j i1 i2 i3=>?_,by omega,fun i i1 i2=>?_⟩
  ·rw [f1,f1]
   by_cases z:j < lo + n
   ·rw [eq i i1 (by omega),eq j (by omega) z]
    exact Nat.le_refl _
   ·obtain rfl:j = lo + n:=by omega
    by_cases y:i < lo + n
    ·rw [eq i i1 y]
     omega
    ·obtain rfl:i = lo + n:=by omega
     exact Nat.le_refl _
  ·obtain rfl:i = lo + n:=by omega
   rfl
 by_cases e2:n > 1
 case' pos =>
  rw [if_pos e2]
  refine wpS_bind (Fy hA hB (by omega) (by omega) ?_)
  dsimp only
  by_cases z:fa f (arrOf aP) lo < fa f (arrOf aP) (lo + n - 1)
  ·rw [if_pos (decide_eq_true z)]
   exact wpS_pure (h _ _ h1 h2 hB Ch.refl h3)
  rw [if_neg (by rw [decide_eq_true_eq]; exact z)]
  have eq:∀ i,lo <= i -> i < lo + n -> fa f (arrOf aP) i = fa f (arrOf aP) (lo + n - 1):=fun i i1 i2=>by
   have a1:=h3 lo i (Nat.le_refl _) i1 i2
   have a2:=h3 i (lo + n - 1) i1 (by omega) (by omega)
   omega
  refine wpS_bind (Gx ?_)
  have B1:=hB.rev lo (lo + n)
  have f1:∀ k,fa f (arrOf (setArr aP (mirror (arrOf aP) lo (lo + n) ((lo + n - lo) / 2)))) k = fa f (arrOf aP) k:=He (by rw [hB.size]; omega) fun k l k1 k2 l1 l2=>(eq k k1 k2).trans (eq l l1 l2).symm
  have F1:=part _ B1 rfl f1 eq
  have C1:Ch f lo aP (setArr aP (mirror (arrOf aP) lo (lo + n) ((lo + n - lo) / 2))):=⟨rfl,fun k _=>f1 k⟩
  generalize setArr aP (mirror (arrOf aP) lo (lo + n) ((lo + n - lo) / 2)) = bL at B1 F1 C1 ⊢
 case' neg =>
  rw [if_neg e2]
  obtain rfl:n = 1:=by omega
  have F1:=part aP hB rfl (fun _=>rfl) fun i i1 i2=>by
   obtain rfl:i = lo:=by omega
   rfl
  have C1:Ch f lo aP aP:=Ch.refl
  have B1:=hB
 all_goals
  refine wpS_bind (wpS_lift (wpAny_rule ⟨rfl,?_⟩))
  refine wpS_bind (wpS_mono (wpS_forRange (I:=fun x c aU=>∃ q,c = (none,x,q) /\ x <= nr /\ Bs κ a₀ aU /\ Ch f lo aP aU /\ Zm f (arrOf aU) lo x q) (Q:=fun c aU=>∃ n q,c = (none,n,q) /\ n <= nr /\ Bs κ a₀ aU /\ Ch f lo aP aU /\ Zm f (arrOf aU) lo n q) ?_ ?_ ⟨0,rfl,by omega,B1,C1,F1⟩) ?_)
  ·rintro x c aU x1 x2 ⟨q,rfl,_,B2,C2,F2⟩
   dsimp only
   have sz:=B2.size
   refine wpS_bind (Fy hA B2 (by omega) (by omega) ?_)
   dsimp only
   by_cases z:fa f (arrOf aU) (lo + x) < fa f (arrOf aU) (lo + x - 1)
   ·rw [if_pos (decide_eq_true z)]
    have F3:∀ eS,(∀ k,fa f (arrOf eS) k = fa f (arrOf aU) k) -> Zm f (arrOf eS) lo (x + 1) 0:=fun eS e3=>by
     have q1:=F2.2.1
     refine ⟨fun i j i1 i2 i3=>?_,by omega,fun i i1 i2=>?_⟩
     ·rw [e3,e3]
      by_cases y:j < lo + x
      ·exact F2.1 i j i1 i2 y
      ·obtain rfl:j = lo + x:=by omega
       by_cases v:i < lo + x
       ·exact Nat.le_trans (Nat.le_of_lt z) (F2.1 i (lo + x - 1) i1 (by omega) (by omega))
       ·obtain rfl:i = lo + x:=by omega
        exact Nat.le_refl _
     ·obtain rfl:i = lo + x:=by omega
      rfl
    by_cases e:q > 0
    ·rw [if_pos e]
     exact wpS_bind (Gx (wpS_pure ⟨0,rfl,by omega,B2.rev _ _,C2.trans ⟨rfl,fun k _=>F2.flat (by omega) k⟩,F3 _ fun k=>F2.flat (by omega) k⟩))
    ·rw [if_neg e]
     exact wpS_pure ⟨0,rfl,by omega,B2,C2,F3 _ fun _=>rfl⟩
   ·rw [if_neg (by rw [decide_eq_true_eq]; exact z)]
    refine wpS_bind (Fy hA B2 (by omega) (by omega) ?_)
    dsimp only
    by_cases y:fa f (arrOf aU) (lo + x - 1) < fa f (arrOf aU) (lo + x)
    ·rw [if_pos (decide_eq_true y)]
     exact wpS_pure ⟨x,q,rfl,by omega,B2,C2,F2⟩
    ·rw [if_neg (by rw [decide_eq_true_eq]; exact y)]
     have q1:=F2.2.1
     refine wpS_pure ⟨q + 1,rfl,by omega,B2,C2,fun i j i1 i2 i3=>?_,by omega,fun i i1 i2=>?_⟩
     ·by_cases v:j < lo + x
      ·exact F2.1 i j i1 i2 v
      ·obtain rfl:j = lo + x:=by omega
       by_cases u:i < lo + x
       ·have:=F2.1 i (lo + x - 1) i1 (by omega) (by omega)
        omega
       ·obtain rfl:i = lo + x:=by omega
        exact Nat.le_refl _
     ·rw [show lo + (x + 1) - 1 = lo + x by omega]
      by_cases v:i < lo + x
      ·have:=F2.2.2 i (by omega) v
       omega
      ·obtain rfl:i = lo + x:=by omega
       rfl
  ·rintro c aU ⟨q,rfl,a1,B2,C2,F2⟩
   exact ⟨_,q,rfl,a1,B2,C2,F2⟩
  rintro c aU ⟨m,q,rfl,a1,B2,C2,F2⟩
  dsimp only
  have sz:=B2.size
  have q1:=F2.2.1
  by_cases e:q > 0
  case' pos =>
   rw [if_pos e]
   refine wpS_bind (Gx (wpS_bind (Gx ?_)))
   have B3:=(B2.rev (lo + m - (q + 1)) (lo + m)).rev lo (lo + m)
   have A3:Gr f (arrOf (setArr (setArr aU (mirror (arrOf aU) (lo + m - (q + 1)) (lo + m) ((lo + m - (lo + m - (q + 1))) / 2))) (mirror (mirror (arrOf aU) (lo + m - (q + 1)) (lo + m) ((lo + m - (lo + m - (q + 1))) / 2)) lo (lo + m) ((lo + m - lo) / 2)))) lo (lo + m):=F2.asc (b:=mirror (arrOf aU) (lo + m - (q + 1)) (lo + m) ((lo + m - (lo + m - (q + 1))) / 2)) (by rw [mirror_size]; omega) (fun k=>F2.flat (by omega) k)
   have C3:Ch f lo aP (setArr (setArr aU (mirror (arrOf aU) (lo + m - (q + 1)) (lo + m) ((lo + m - (lo + m - (q + 1))) / 2))) (mirror (mirror (arrOf aU) (lo + m - (q + 1)) (lo + m) ((lo + m - (lo + m - (q + 1))) / 2)) lo (lo + m) ((lo + m - lo) / 2))):=C2.trans ⟨rfl,fun k hk=>by
    show fa f (mirror (mirror (arrOf aU) (lo + m - (q + 1)) (lo + m) ((lo + m - (lo + m - (q + 1))) / 2)) lo (lo + m) ((lo + m - lo) / 2)) k = _
    rw [E9 (by rw [mirror_size]; omega),if_neg (by omega)]
    exact F2.flat (by omega) k⟩
   generalize setArr (setArr aU (mirror (arrOf aU) (lo + m - (q + 1)) (lo + m) ((lo + m - (lo + m - (q + 1))) / 2))) (mirror (mirror (arrOf aU) (lo + m - (q + 1)) (lo + m) ((lo + m - (lo + m - (q + 1))) / 2)) lo (lo + m) ((lo + m - lo) / 2)) = eS at B3 C3 A3 ⊢
  case' neg =>
   rw [if_neg e]
   refine wpS_bind (Gx ?_)
   have B3:=B2.rev lo (lo + m)
   have A3:Gr f (arrOf (setArr aU (mirror (arrOf aU) lo (lo + m) ((lo + m - lo) / 2)))) lo (lo + m):=F2.asc (b:=arrOf aU) (by omega) (fun k=>rfl)
   have C3:Ch f lo aP (setArr aU (mirror (arrOf aU) lo (lo + m) ((lo + m - lo) / 2))):=C2.trans ⟨rfl,fun k hk=>by
    show fa f (mirror (arrOf aU) lo (lo + m) ((lo + m - lo) / 2)) k = _
    rw [E9 (by omega),if_neg (by omega)]⟩
   generalize setArr aU (mirror (arrOf aU) lo (lo + m) ((lo + m - lo) / 2)) = eS at B3 C3 A3 ⊢
  all_goals
   refine wpS_bind (wpS_mono (wpS_forRange (I:=fun x c bI=>bI = eS /\ c = (none,x) /\ Gr f (arrOf eS) lo (lo + x)) (Q:=fun c bI=>bI = eS /\ ∃ n,c = (none,n) /\ 0 < n /\ n <= nr /\ Gr f (arrOf eS) lo (lo + n)) ?_ ?_ ⟨rfl,rfl,A3⟩) ?_)
   ·rintro x c bI y1 y2 ⟨rfl,rfl,y3⟩
    dsimp only
    refine wpS_bind (Fy hA B3 (by omega) (by omega) ?_)
    dsimp only
    by_cases z:fa f (arrOf bI) (lo + x) < fa f (arrOf bI) (lo + x - 1)
    ·rw [if_pos (decide_eq_true z)]
     exact wpS_pure ⟨rfl,x,rfl,by omega,by omega,y3⟩
    ·rw [if_neg (by rw [decide_eq_true_eq]; exact z)]
     exact wpS_pure ⟨rfl,rfl,Oo y3 (by omega) (by omega)⟩
   ·rintro c bI ⟨rfl,rfl,y3⟩
    have e:max m nr = nr:=by omega
    rw [e] at y3 ⊢
    exact ⟨rfl,nr,rfl,uV,Nat.le_refl _,y3⟩
   rintro c bI ⟨rfl,n,rfl,n1,n2,n3⟩
   dsimp only
   exact wpS_pure (h _ _ n1 n2 B3 C3 n3)
end
section
variable {f:Keyed -> Nat}
def Ca (f:Keyed -> Nat) (a:Array Keyed):Nat -> List (Nat × Nat × Nat) -> Nat -> Prop
 | s0,[],hi=>s0 = hi
 | s0,x :: r,hi=>x.1 = s0 /\ 0 < x.2.1 /\ Gr f a s0 (s0 + x.2.1) /\ Ca f a (s0 + x.2.1) r hi
theorem Ca.len {a:Array Keyed}:∀ {l:List (Nat × Nat × Nat)} {s0 hi:Nat},Ca f a s0 l hi -> s0 + l.length <= hi
 | [],s0,hi,h=>Nat.le_of_eq h
 | x :: r,s0,hi,h=>by
  have:=h.2.2.2.len
  have h2:=h.2.1
  rw [List.length_cons]
  omega
theorem Ca.congr {a a':Array Keyed}:∀ {l:List (Nat × Nat × Nat)} {s0 hi:Nat},Ca f a s0 l hi -> (∀ k,s0 <= k -> k < hi -> fa f a' k = fa f a k) -> Ca f a' s0 l hi
 | [],s0,hi,h,e=>h
 | x :: r,s0,hi,h,e=>by
  obtain ⟨h1,h2,h3,h4⟩ := h
  have hl:=h4.len
  refine ⟨h1,h2,fun i j i1 i2 i3=>?_,h4.congr fun k k1 k2=>e k (by omega) k2⟩
  rw [e i i1 (by omega),e j (by omega) (by omega)]
  exact h3 i j i1 i2 i3
theorem Ca.app {a:Array Keyed}:∀ {l m:List (Nat × Nat × Nat)} {s0 hi:Nat},Ca f a s0 (l ++ m) hi ↔ ∃ mid,Ca f a s0 l mid /\ Ca f a mid m hi
 | [],m,s0,hi=>⟨fun h=>⟨s0,rfl,h⟩,fun ⟨mid,h1,h2⟩=>by rw [show s0 = mid from h1]; exact h2⟩
 | x :: r,m,s0,hi=>by
  constructor
  ·rintro ⟨h1,h2,h3,h4⟩
   obtain ⟨mid,g1,g2⟩ := Ca.app.mp h4
   exact ⟨mid,⟨h1,h2,h3,g1⟩,g2⟩
  ·rintro ⟨mid,⟨h1,h2,h3,g1⟩,g2⟩
   exact ⟨h1,h2,h3,Ca.app.mpr ⟨mid,g1,g2⟩⟩
theorem Ca.mod {a:Array Keyed} {pw:Nat}:∀ {l:List (Nat × Nat × Nat)} {i s0 hi:Nat},Ca f a s0 l hi -> Ca f a s0 (l.modify i fun x=>(x.fst,x.2.fst,pw)) hi
 | [],i,s0,hi,h=>by rw [List.modify_nil]; exact h
 | x :: r,0,s0,hi,h=>by rw [List.modify_zero_cons]; exact h
 | x :: r,i + 1,s0,hi,h=>by
  rw [List.modify_succ_cons]
  exact ⟨h.1,h.2.1,h.2.2.1,Ca.mod h.2.2.2⟩
theorem S9 (p:Array (Nat × Nat × Nat)) (i:Nat) (x:Nat × Nat × Nat) (h:i + 1 < p.size):((p.setIfInBounds i x).eraseIdxIfInBounds (i + 1)).toList = p.toList.take i ++ x :: p.toList.drop (i + 2):=by
 have e:((p.setIfInBounds i x).eraseIdxIfInBounds (i + 1)).toList = (p.toList.set i x).eraseIdx (i + 1):=by
  unfold Array.eraseIdxIfInBounds
  rw [dif_pos (by rw [Array.size_setIfInBounds]; exact h),Array.toList_eraseIdx,Array.toList_setIfInBounds]
 rw [e,List.eraseIdx_eq_take_drop_succ]
 have hl:i < p.toList.length:=by rw [Array.length_toList]; omega
 rw [List.drop_set_of_lt (by omega),List.take_set,List.take_add_one,List.getElem?_eq_getElem hl]
 have ht:(p.toList.take i).length = i:=by rw [List.length_take]; omega
 rw [List.set_append_right _ _ (by omega),ht,Nat.sub_self,List.append_assoc]
 rfl
end
section
variable {prog:Program} {w:World} {A:Around} {E:Value -> Shared -> Prop} {s:Shared} {κ:SortKind} {f:Keyed -> Nat} {a₀:Array Keyed} {st:SortSt}
theorem Vn (hA : Gm prog w A s κ f a₀) (hB : Bs κ a₀ st) {lo n ok : Nat} (aR : 0 < ok) (hn : ok <= n) (hsz : lo + n <= a₀.size) (hs : Gr f (arrOf st) lo (lo + ok)) {Q : Bool -> SortSt -> Prop}
  (h:∀ aP,Bs κ a₀ aP -> Ch f lo st aP -> Gr f (arrOf aP) lo (lo + n) -> Q true aP):wpS (model prog w) A E s (binarySort' lo n ok) Q st:=by
 refine wpS_bind (wpS_mono (wpS_forRange (I:=fun k c aP=>c = (none,()) /\ Bs κ a₀ aP /\ Ch f lo st aP /\ Gr f (arrOf aP) lo (lo + k)) (Q:=fun c aP=>c = (none,()) /\ Bs κ a₀ aP /\ Ch f lo st aP /\ Gr f (arrOf aP) lo (lo + n)) ?_ ?_ ⟨rfl,hB,Ch.refl,by rw [show max ok 1 = ok by omega]; exact hs⟩) ?_)
 ·rintro k c aP k1 k2 ⟨rfl,B1,C1,A1⟩
  dsimp only
  have sz:=B1.size
  refine wpS_bind (wpS_mono (wpS_forRange (I:=fun x c aU=>aU = aP /\ ∃ l r,c = (none,l,r) /\ l <= r /\ r <= k /\ r + x <= l + k /\ (∀ i,i < l -> fa f (arrOf aP) (lo + i) <= fa f (arrOf aP) (lo + k)) /\ (∀ i,r <= i -> i < k -> fa f (arrOf aP) (lo + k) <= fa f (arrOf aP) (lo + i)))
   (Q:=fun c aU=>aU = aP /\ ∃ l,c = (none,l,l) /\ l <= k /\ (∀ i,i < l -> fa f (arrOf aP) (lo + i) <= fa f (arrOf aP) (lo + k)) /\ (∀ i,l <= i -> i < k -> fa f (arrOf aP) (lo + k) <= fa f (arrOf aP) (lo + i))) ?_ ?_ ⟨rfl,0,k,rfl,by omega,by omega,by omega,fun i hi=>by omega,fun i h1 h2=>by omega⟩) ?_)
  ·rintro x c aU _ hx ⟨rfl,l,r,rfl,g1,g2,g3,g4,g5⟩
   dsimp only
   by_cases e:l >= r
   ·rw [if_pos e]
    obtain rfl:l = r:=by omega
    exact wpS_pure ⟨rfl,l,rfl,g2,g4,g5⟩
   ·rw [if_neg e]
    refine wpS_bind (Fy hA B1 (by omega) (by omega) ?_)
    dsimp only
    by_cases z:fa f (arrOf aU) (lo + k) < fa f (arrOf aU) (lo + (l + r) / 2)
    ·rw [if_pos (decide_eq_true z)]
     refine wpS_pure ⟨rfl,l,_,rfl,by omega,by omega,by omega,g4,fun i i1 i2=>?_⟩
     have:=A1 (lo + (l + r) / 2) (lo + i) (by omega) (by omega) (by omega)
     omega
    ·rw [if_neg (by rw [decide_eq_true_eq]; exact z)]
     refine wpS_pure ⟨rfl,_,r,rfl,by omega,by omega,by omega,fun i i1=>?_,g5⟩
     have:=A1 (lo + i) (lo + (l + r) / 2) (by omega) (by omega) (by omega)
     omega
  ·rintro c aU ⟨rfl,l,r,rfl,g1,g2,g3,g4,g5⟩
   obtain rfl:l = r:=by omega
   exact ⟨rfl,l,rfl,g2,g4,g5⟩
  rintro c aU ⟨rfl,l,rfl,g2,g4,g5⟩
  dsimp only
  have eb:∀ m,fa f (bubble (arrOf aU) (lo + k) (lo + k - (lo + l))) m = if m = lo + l then fa f (arrOf aU) (lo + k) else if lo + l < m /\ m <= lo + k then fa f (arrOf aU) (m - 1) else fa f (arrOf aU) m:=fun m=>by
   rw [Uo (by omega) (by omega),show lo + k - (lo + k - (lo + l)) = lo + l by omega]
  refine wpS_bind (m:=moveDown' (lo + k) (lo + l)) ?_
  rw [moveDown'_eq]
  refine wpS_modify (wpS_pure ⟨rfl,⟨(bubble_perm _ _ _).trans B1.perm,B1.kind,B1.failed⟩,C1.trans ⟨rfl,fun m hm=>?_⟩,fun i j i1 i2 i3=>?_⟩)
  ·show fa f (bubble (arrOf aU) (lo + k) (lo + k - (lo + l))) m = _
   rw [eb m,if_neg (by omega),if_neg (by omega)]
  ·show fa f (bubble (arrOf aU) (lo + k) (lo + k - (lo + l))) i <= fa f (bubble (arrOf aU) (lo + k) (lo + k - (lo + l))) j
   rw [eb i,eb j]
   have G4:∀ i,lo <= i -> i < lo + l -> fa f (arrOf aU) i <= fa f (arrOf aU) (lo + k):=fun i i1 i2=>by
    have:=g4 (i - lo) (by omega)
    rwa [show lo + (i - lo) = i by omega] at this
   have G5:∀ i,lo + l <= i -> i < lo + k -> fa f (arrOf aU) (lo + k) <= fa f (arrOf aU) i:=fun i i1 i2=>by
    have:=g5 (i - lo) (by omega) (by omega)
    rwa [show lo + (i - lo) = i by omega] at this
   by_cases c1:i = lo + l
   ·rw [if_pos c1]
    by_cases c2:j = lo + l
    ·rw [if_pos c2]
     exact Nat.le_refl _
    ·rw [if_neg c2,if_pos (by omega)]
     exact G5 (j - 1) (by omega) (by omega)
   ·rw [if_neg c1]
    by_cases c3:lo + l < i /\ i <= lo + k
    ·rw [if_pos c3,if_neg (by omega),if_pos (by omega)]
     exact A1 (i - 1) (j - 1) (by omega) (by omega) (by omega)
    ·rw [if_neg c3]
     by_cases c2:j = lo + l
     ·rw [if_pos c2]
      exact G4 i i1 (by omega)
     ·rw [if_neg c2]
      by_cases c4:lo + l < j /\ j <= lo + k
      ·rw [if_pos c4]
       exact Nat.le_trans (G4 i i1 (by omega)) (G5 (j - 1) (by omega) (by omega))
      ·rw [if_neg c4]
       exact A1 i j i1 i2 (by omega)
 ·rintro c aP ⟨rfl,B1,C1,A1⟩
  rw [show max (max ok 1) n = n by omega] at A1
  exact ⟨rfl,B1,C1,A1⟩
 rintro c aP ⟨rfl,B1,C1,A1⟩
 exact wpS_pure (h _ B1 C1 A1)
theorem Ky (hA : Gm prog w A s κ f a₀) (hB : Bs κ a₀ st) {i hi : Nat} (hR : Ca f (arrOf st) 0 (pendingOf st).toList hi) (hh : hi <= a₀.size) (aX : i + 1 < (pendingOf st).size) {Q : Bool -> SortSt -> Prop}
  (h:∀ aP,Bs κ a₀ aP -> Ca f (arrOf aP) 0 (pendingOf aP).toList hi -> (pendingOf aP).size + 1 = (pendingOf st).size -> (∀ k,hi <= k -> fa f (arrOf aP) k = fa f (arrOf st) k) -> Q true aP):wpS (model prog w) A E s (mergeAt' i) Q st:=by
 have hl:i + 1 < (pendingOf st).toList.length:=by rw [Array.length_toList]; exact aX
 obtain ⟨sa,na,pw,ea⟩ : ∃ sa na pw,(pendingOf st).toList[i]? = some (sa,na,pw):=⟨_,_,_,List.getElem?_eq_getElem (by omega)⟩
 obtain ⟨sb,nb,pb,eb⟩ : ∃ sb nb pb,(pendingOf st).toList[i + 1]? = some (sb,nb,pb):=⟨_,_,_,List.getElem?_eq_getElem (by omega)⟩
 have ed:(pendingOf st).toList = (pendingOf st).toList.take i ++ (sa,na,pw) :: (sb,nb,pb) :: (pendingOf st).toList.drop (i + 2):=by
  have h1:=(List.take_append_drop i (pendingOf st).toList).symm
  rw [List.drop_eq_getElem_cons (by omega),(List.getElem?_eq_some_iff.mp ea).2,List.drop_eq_getElem_cons hl,(List.getElem?_eq_some_iff.mp eb).2] at h1
  exact h1
 have hR2:=hR
 rw [ed] at hR2
 obtain ⟨mid,r1,r2⟩ := Ca.app.mp hR2
 obtain ⟨a1,a2,a3,b1,b2,b3,r3⟩ := r2
 dsimp only at a1 a2 a3 b1 b2 b3 r3
 subst a1 b1
 have l1:=r1.len
 have l3:=r3.len
 refine Ot hA hB (by rw [<- Array.getElem?_toList]; exact ea) (by rw [<- Array.getElem?_toList]; exact eb) rfl a2 b2 (by omega) a3 b3 fun aP B' p' A' f'=>?_
 refine h aP B' ?_ ?_ fun k hk=>f' k (by omega)
 ·rw [p',S9 _ _ _ aX]
  refine Ca.app.mpr ⟨sa,r1.congr fun k k1 k2=>f' k (by omega),rfl,by show 0 < na + nb; omega,?_,?_⟩
  ·show Gr f (arrOf aP) sa (sa + (na + nb))
   rw [<- Nat.add_assoc]
   exact A'
  ·show Ca f (arrOf aP) (sa + (na + nb)) _ _
   rw [<- Nat.add_assoc]
   exact r3.congr fun k k1 k2=>f' k (by omega)
 ·rw [p',<- Array.length_toList,S9 _ _ _ aX,<- Array.length_toList (xs:=pendingOf st)]
  rw [List.length_append,List.length_cons,List.length_take,List.length_drop]
  omega
end
section
variable {prog:Program} {w:World} {A:Around} {E:Value -> Shared -> Prop} {s:Shared} {κ:SortKind} {f:Keyed -> Nat} {a₀:Array Keyed} {st:SortSt}
theorem Ca.push {a a':Array Keyed} {p:Array (Nat × Nat × Nat)} {lo n pw:Nat} (h:Ca f a 0 p.toList lo) (e:∀ k,k < lo -> fa f a' k = fa f a k) (hn:0 < n) (hs:Gr f a' lo (lo + n)):Ca f a' 0 (p.push (lo,n,pw)).toList (lo + n):=by
 rw [Array.toList_push]
 exact Ca.app.mpr ⟨lo,h.congr fun k _ hk=>e k hk,rfl,hn,hs,rfl⟩
theorem Oz (hA:Gm prog w A s κ f a₀) (hB:Bs κ a₀ st) (hp:pendingOf st = #[]) {Q:Unit -> SortSt -> Prop} (h:∀ aP,Bs κ a₀ aP -> Gr f (arrOf aP) 0 a₀.size -> Q () aP):wpS (model prog w) A E s sortRuns' Q st:=by
 have sz0:=hB.size
 rw [sortRuns'_eq]
 refine wpS_bind (wpS_get ?_)
 refine wpS_bind (wpS_mono (wpS_forRange (I:=fun x c aP=>∃ lo,c = (none,lo) /\ Bs κ a₀ aP /\ Ca f (arrOf aP) 0 (pendingOf aP).toList lo /\ lo <= a₀.size /\ (lo < a₀.size -> x <= lo)) (Q:=fun c aP=>c = (none,a₀.size) /\ Bs κ a₀ aP /\ Ca f (arrOf aP) 0 (pendingOf aP).toList a₀.size) ?_ ?_ ⟨0,rfl,hB,by rw [hp]; rfl,by omega,fun _=>Nat.le_refl _⟩) ?_)
 ·rintro x c bL _ x2 ⟨lo,rfl,B1,R1,l1,l2⟩
  dsimp only
  rw [show (arrOf st).size = a₀.size from sz0]
  by_cases e1:lo >= a₀.size
  ·rw [if_pos e1]
   obtain rfl:lo = a₀.size:=by omega
   exact wpS_pure ⟨rfl,B1,R1⟩
  rw [if_neg e1]
  refine wpS_bind (Qc hA B1 (by omega) (by omega) fun m aU m1 m2 B2 C2 A2=>?_)
  dsimp only
  have R2:Ca f (arrOf aU) 0 (pendingOf aU).toList lo:=by
   rw [C2.1]
   exact R1.congr fun k _ hk=>C2.2 k hk
  by_cases e2:m < minRun' a₀.size a₀.size 0
  case' pos =>
   rw [if_pos e2]
   refine wpS_bind (wpS_lift (wpAny_rule ⟨rfl,?_⟩))
   generalize hn:min (a₀.size - lo) (minRun' a₀.size a₀.size 0) = n
   have rE:0 < n /\ n <= a₀.size - lo /\ m <= n:=by omega
   refine wpS_bind (Vn hA B2 m1 rE.2.2 (by omega) A2 fun eS B3 C3 A3=>?_)
   rw [if_neg (by decide)]
   have R3:Ca f (arrOf eS) 0 (pendingOf eS).toList lo:=by
    rw [C3.1]
    exact R2.congr fun k _ hk=>C3.2 k hk
  case' neg =>
   rw [if_neg e2]
   obtain ⟨n,rfl⟩ : ∃ n,n = m:=⟨m,rfl⟩
   have rE:0 < n /\ n <= a₀.size - lo:=⟨m1,m2⟩
   have B3:=B2
   have A3:=A2
   have R3:=R2
   obtain ⟨eS,rfl⟩ : ∃ eS,eS = aU:=⟨aU,rfl⟩
  all_goals
   refine wpS_bind (wpS_get ?_)
   cases hb:(pendingOf eS).back? with
   | none =>
    dsimp only
    refine wpS_bind (wpS_modify (wpS_pure ⟨lo + n,rfl,⟨B3.perm,B3.kind,B3.failed⟩,R3.push (fun _ _=>rfl) rE.1 A3,by omega,fun _=>by omega⟩))
   | some v =>
    obtain ⟨s1,n1,v1⟩ := v
    dsimp only
    refine wpS_bind (wpS_mono (wpS_forRange (I:=fun y c bI=>c = (none,()) /\ Bs κ a₀ bI /\ Ca f (arrOf bI) 0 (pendingOf bI).toList lo /\ Gr f (arrOf bI) lo (lo + n)) (Q:=fun c bI=>c = (none,()) /\ Bs κ a₀ bI /\ Ca f (arrOf bI) 0 (pendingOf bI).toList lo /\ Gr f (arrOf bI) lo (lo + n)) ?_ (fun c bI h4=>h4) ⟨rfl,B3,R3,A3⟩) ?_)
    ·rintro y c bI _ y2 ⟨rfl,B4,R4,A4⟩
     refine wpS_bind (wpS_get ?_)
     by_cases e3:(pendingOf bI).size > 1
     ·rw [if_pos e3]
      obtain ⟨⟨u1,u2,u3⟩,hu⟩ : ∃ u,(pendingOf bI)[(pendingOf bI).size - 2]? = some u:=⟨_,getElem?_pos (pendingOf bI) _ (by omega)⟩
      rw [hu]
      dsimp only
      split
      ·exact wpS_pure ⟨rfl,B4,R4,A4⟩
      ·refine wpS_bind (Ky hA B4 R4 l1 (by omega) fun zx B5 R5 _ f5=>?_)
       rw [if_neg (by decide)]
       refine wpS_pure ⟨rfl,B5,R5,fun i j i1 i2 i3=>?_⟩
       rw [f5 i i1,f5 j (by omega)]
       exact A4 i j i1 i2 i3
     ·rw [if_neg e3]
      exact wpS_pure ⟨rfl,B4,R4,A4⟩
    ·rintro c bI ⟨rfl,B4,R4,A4⟩
     dsimp only
     refine wpS_bind (wpS_modify (wpS_bind (wpS_modify (wpS_pure ⟨lo + n,rfl,⟨B4.perm,B4.kind,B4.failed⟩,?_,by omega,fun _=>by omega⟩))))
     refine Ca.push (a:=arrOf bI) ?_ (fun _ _=>rfl) rE.1 A4
     show Ca f (arrOf bI) 0 ((pendingOf bI).modify ((pendingOf bI).size - 1) _).toList lo
     rw [Array.toList_modify]
     exact R4.mod
 ·rintro c bL ⟨lo,rfl,B1,R1,l1,l2⟩
  obtain rfl:lo = a₀.size:=by omega
  exact ⟨rfl,B1,R1⟩
 rintro c bL ⟨rfl,B1,R1⟩
 dsimp only
 have n1:(pendingOf bL).size <= a₀.size:=by
  have:=R1.len
  rw [Array.length_toList] at this
  omega
 refine wpS_bind (wpS_mono (wpS_forRange (I:=fun y c bI=>c = (none,()) /\ Bs κ a₀ bI /\ Ca f (arrOf bI) 0 (pendingOf bI).toList a₀.size /\ (pendingOf bI).size + y <= a₀.size + 1) (Q:=fun c bI=>c = (none,()) /\ Bs κ a₀ bI /\ Ca f (arrOf bI) 0 (pendingOf bI).toList a₀.size /\ (pendingOf bI).size <= 1) ?_ ?_ ⟨rfl,B1,R1,by omega⟩) ?_)
 ·rintro y c bI _ y2 ⟨rfl,B4,R4,n4⟩
  refine wpS_bind (wpS_get ?_)
  by_cases e3:(pendingOf bI).size <= 1
  ·rw [if_pos e3]
   exact wpS_pure ⟨rfl,B4,R4,e3⟩
  rw [if_neg e3]
  refine wpS_bind (Ky hA B4 R4 (Nat.le_refl _) ?_ fun zx B5 R5 n5 f5=>?_)
  ·(repeat' split) <;> omega
  rw [if_neg (by decide)]
  exact wpS_pure ⟨rfl,B5,R5,by omega⟩
 ·rintro c bI ⟨rfl,B4,R4,n4⟩
  exact ⟨rfl,B4,R4,by omega⟩
 rintro c bI ⟨rfl,B4,R4,n4⟩
 dsimp only
 refine wpS_pure (h _ B4 ?_)
 rw [<- Array.length_toList] at n4
 match hl:(pendingOf bI).toList with
 | [] =>
  rw [hl] at R4
  have e:0 = a₀.size:=R4
  rw [<- e]
  exact fun i j _ _ h3=>absurd h3 (Nat.not_lt_zero _)
 | [x] =>
  rw [hl] at R4
  obtain ⟨_,_,r3,r4⟩ := R4
  rw [show 0 + x.2.1 = a₀.size from r4] at r3
  exact r3
 | x :: y :: r =>
  rw [hl,List.length_cons,List.length_cons] at n4
  omega
end
open PySem PySem.Spec PySem.SeqAt PyProof.Rows
section
variable {prog:Program} {w:World} {E:Value -> Shared -> Prop}
def Lg:List PyData -> List PyData -> Prop
 | x :: xs,y :: ys=>if PyData.eqv x y = true then Lg xs ys else Gd x y
 | _,_=>True
def Yl:PyData -> PyData -> Prop
 | .tuple xs,.tuple ys=>Lg xs ys
 | _,_=>False
theorem Sd:∀ {xs ys:List PyData},bE xs ys -> Lg xs ys
 | [],_,_=>by unfold Lg; trivial
 | _ :: _,[],_=>by unfold Lg; trivial
 | x :: xs,y :: ys,h=>by
  unfold Lg
  split
  ·exact Sd h.2
  ·exact h.1
theorem Pu {A : Around} {s : Shared} {b : Bool} {Q : Bool -> Shared -> Prop} : ∀ (xs ys : List PyData) (vs ws : List Value) (as bs : List Addr) (i : Nat), ReadsAll s.heap vs xs as -> ReadsAll s.heap ws ys bs -> PyData.canLayAll0 xs = true -> PyData.canLayAll0 ys = true -> Lg xs ys ->
  A.units + min (PyData.depthAll xs) (PyData.depthAll ys) < cLine -> (b = true -> i = 0 -> ∀ x xs' y zF,xs = x :: xs' -> ys = y :: zF -> ∃ m n,x = .int m /\ y = .int n) -> Q (aN xs ys) s -> PySem.W.KatLex prog w A b (decide (xs.length < ys.length)) Q (vs.zip ws) i s
 | [],ys,_,ws,_,_,i,ra,rb,_,_,_,_,_,h=>by
  cases ra
  rw [List.zip_nil_left]
  refine PySem.W.kat_nil ?_
  cases ys <;> exact h
 | x :: xs,[],_,_,_,_,i,ra,rb,_,_,_,_,_,h=>by
  cases rb
  rw [List.zip_nil_right]
  exact PySem.W.kat_nil h
 | x :: xs,y :: ys,_,_,_,_,i,ra,rb,ca,cb,hc,hu,hb,h=>by
  have e0:=eqAt_readsAll (x :: xs) (y :: ys) A s _ _ _ _ ra rb ca cb hu 0
  cases ra with
  | @cons v vs _ _ a1 a2 r1 r2 =>
   cases rb with
   | @cons u us _ _ b1 b2 q1 q2 =>
    have rA:x.canLay0 = true /\ PyData.canLayAll0 xs = true:=by simpa [PyData.canLayAll0] using ca
    have rB:y.canLay0 = true /\ PyData.canLayAll0 ys = true:=by simpa [PyData.canLayAll0] using cb
    have hd:A.units + min x.depth y.depth < cLine /\ A.units + min (PyData.depthAll xs) (PyData.depthAll ys) < cLine:=by
     simp only [PyData.depthAll] at hu
     omega
    have e1:SeqAt.EqAt A s v u (PyData.eqv x y):=e0 (by simp) (by simp)
    have el:decide ((x :: xs).length < (y :: ys).length) = decide (xs.length < ys.length):=by simp
    rw [List.zip_cons_cons,el]
    refine PySem.W.kat_cons (e1 prog w _ _ ?_)
    cases e:PyData.eqv x y with
    | true =>
     unfold Lg at hc
     rw [if_pos e] at hc
     refine PySem.W.kat_yes (Pu xs ys _ _ _ _ (i + 1) r2 q2 rA.2 rB.2 hc hd.2 (fun _ z=>by omega) ?_)
     rw [aN,if_pos e] at h
     exact h
    | false =>
     unfold Lg at hc
     rw [if_neg (by rw [e]; decide)] at hc
     rw [aN,if_neg (by rw [e]; decide)] at h
     refine PySem.W.kat_no ?_
     by_cases z:(b && i == 0) = true
     ·have z2:b = true /\ i = 0:=by simpa using z
      obtain ⟨m,n,rfl,rfl⟩ := hb z2.1 z2.2 x xs y ys rfl rfl
      cases r1
      cases q1
      rw [z]
      exact oneLt_int h
     ·rw [show (b && i == 0) = false from Bool.eq_false_iff.mpr z]
      refine PySem.W.kat_one _ _ ?_
      exact Hk x y A s _ _ _ _ r1 q1 rA.1 rB.1 hc hd.1 prog w _ _ (show PySem.W.BoolBack Q (.bool (Gc x y)) s from h)
def Il (b:Bool) (d:PyData):Prop := ∃ x r,d = .tuple (x :: r) /\ if b = true then ∃ m,x = .int m else ∃ l,x = .tuple l
theorem Wc {A : Around} {s : Shared} {b : Bool} {Q : Bool -> Shared -> Prop} {v u : Value} {d e : PyData} {as bs : List Addr} (rv : Reads s.heap v d as) (ru : Reads s.heap u e bs) (fd : Il b d) (fe : Il b e) (cd : d.canLay0 = true) (ce : e.canLay0 = true) (hc : Yl d e) (hu : A.units + d.depth < cLine) (h : Q (Gc d e) s) :
  wpAny (model prog w) A (keyLt' (PyProof.Rows.tuples' b) v u) Q E s:=by
 obtain ⟨x,r,rfl,hx⟩ := fd
 obtain ⟨y,r2,rfl,hy⟩ := fe
 cases rv with
 | @tuple l1 o1 vs n1 _ as1 h1 h2 h3 h4 =>
  cases ru with
  | @tuple l2 o2 ws n2 _ as2 k1 k2 k3 k4 =>
   have n1':vs.size = (x :: r).length:=by simpa using ReadsAll.length _ _ _ h4
   have JT:ws.size = (y :: r2).length:=by simpa using ReadsAll.length _ _ _ k4
   refine PySem.W.kat_lt h1 h3 k1 k3 ?_
   rw [n1',JT]
   refine Pu (x :: r) (y :: r2) _ _ _ _ 0 h4 k4 cd ce hc ?_ (fun hb _ x' _ y' _ e1 e2=>?_) h
   ·have e:(PyData.tuple (x :: r)).depth = PyData.depthAll (x :: r) + 1:=by simp [PyData.depth]
    omega
   ·cases e1
    cases e2
    rw [if_pos hb] at hx hy
    obtain ⟨m,rfl⟩ := hx
    obtain ⟨n,rfl⟩ := hy
    exact ⟨m,n,rfl,rfl⟩
theorem V3 {A:Around} {s:Shared} {b:Bool} {Q:SortKind -> Shared -> Prop}:∀ {vs:List Value} ,vs ≠ [] -> (∀ v ∈ vs,∃ d as,Reads s.heap v d as /\ Il b d) -> Q (PyProof.Rows.tuples' b) s -> wpAny (model prog w) A (keyKind' vs.toArray) Q E s:=by
 intro vs dX hall h
 have key:∀ vs:List Value,(∀ v ∈ vs,∃ d as,Reads s.heap v d as /\ Il b d) -> ∃ fs,PySem.W.KatTups s.heap vs fs /\ fs.length = vs.length /\ ∀ f ∈ fs,PySem.W.Looks (model prog w) s.heap (typeOf f) (.type (if b = true then "int" else "tuple")):=by
  intro vs
  induction vs with
  | nil=>exact fun _=>⟨[],PySem.W.KatTups.nil,rfl,fun f hf=>by cases hf⟩
  | cons v vs ih =>
   intro hall
   obtain ⟨fs,t1,t2,t3⟩ := ih fun v hv=>hall v (List.mem_cons_of_mem _ hv)
   obtain ⟨d,as,rv,x,r,rfl,hx⟩ := hall v List.mem_cons_self
   cases rv with
   | tuple h1 h2 h3 h4 =>
    rename_i a o us n
    obtain ⟨u,ur,eu⟩ : ∃ u ur,us.toList = u :: ur:=by
     cases iO:us.toList with
     | nil=>rw [iO] at h4; cases h4
     | cons u ur=>exact ⟨u,ur,rfl⟩
    have e0:us[0]? = some u:=by rw [<- Array.getElem?_toList,eu]; rfl
    refine ⟨u :: fs,PySem.W.KatTups.cons h1 h2 h3 e0 t1,by simp [t2],fun f hf=>?_⟩
    rcases List.mem_cons.mp hf with z | z
    ·subst z
     rw [eu] at h4
     cases h4 with
     | cons r1 r2 =>
      cases b with
      | true =>
       obtain ⟨m,rfl⟩ := hx
       cases r1
       exact PySem.W.Looks.now
      | false =>
       obtain ⟨l,rfl⟩ := hx
       cases r1 with
       | tuple g1 g2 g3 g4 =>
        show PySem.W.Looks (model prog w) s.heap _ (Value.type "tuple")
        rw [<- g2]
        exact (PySem.W.Looks.ld g1).andThen .now
    ·exact t3 f z
 obtain ⟨fs,t1,t2,t3⟩ := key vs hall
 refine PySem.W.kat_kind t1 ?_ t3 (by cases b <;> rfl) ?_
 ·rw [t2]
  exact List.length_pos_iff.mpr dX
 ·have e:(Value.type (if b = true then "int" else "tuple") != Value.type "tuple") = b:=by cases b <;> decide
  rw [e]
  exact h
theorem Fk (vs:List Value):vs.toArray.zip vs.toArray = (vs.map fun v=>(v,v)).toArray:=by
 apply Array.toList_inj.mp
 rw [Array.toList_zip,List.toList_toArray]
 induction vs with
 | nil=>rfl
 | cons v r ih=>rw [List.zip_cons_cons,ih,List.map_cons]
theorem Sa (vs:List Value):(vs.map fun v=>(v,v)).map (fun x:Value × Value=>x.2) = vs:=by
 rw [List.map_map]
 exact List.map_id'' (fun _=>rfl) vs
theorem P6 {A : Around} {s : Shared} {a : Addr} {vs : List Value} {n : Nat} {κ : SortKind} {g : Value -> Nat} {P : PySem.Fin -> Shared -> Prop} (ho : s.heap.get? a = some (seqObj "list" vs.toArray n)) (hsz : vs.length <= sizeLine)
  (pX:∀ h6:Heap,(∀ b o,b ≠ a -> s.heap.get? b = some o -> h6.get? b = some o) -> 2 <= vs.length -> (∀ Q,Q κ { s with heap:=h6 } -> wpAny (model prog w) A (keyKind' vs.toArray) Q E { s with heap:=h6 }) /\ Gm prog w A { s with heap:=h6 } κ (fun p=>g p.1) (vs.toArray.zip vs.toArray))
  (h:∀ out:Array Value,out.toList.Perm vs -> out.toList.Pairwise (fun x y=>g x <= g y) -> P (.done (.ret .none)) { s with heap:=sortedHeap s.heap a vs out }) :
  wpAny (model prog w) A (Builtin.«list.sort» ⟨[.ref a],[]⟩) P E s:=by
 rw [list_sort_plain]
 have ha:a < s.heap.objs.size:=Heap.lt_size ho
 refine wpAny_bind (listItems_at ho rfl (wpAny_bind (listUpdate_at ho rfl ?_ (by rw [List.size_toArray]; exact hsz) (Nat.zero_le _))))
 obtain ⟨e1,ho1⟩ : ∃ e1,(s.heap.update a (Obj.mapSeq fun _=>(#[]:Array Value))).get? a = some (seqObj "list" #[] e1):=⟨_,get?_update_seq ho (fun _=>#[])⟩
 refine wpAny_bind (seqEpoch_at ho1 rfl (wpAny_bind (wpAny_newTuple (wpAny_bind (wpAny_newList (wpAny_holding ?_))))))
 have zT:(((s.heap.update a (Obj.mapSeq fun _=>(#[]:Array Value))).push (seqObj "tuple" vs.toArray 0)).push (seqObj "list" #[] 0)).get? a = some (seqObj "list" #[] e1):=Heap.get?_push_of_some _ (Heap.get?_push_of_some _ ho1)
 have kp:∀ b o,b ≠ a -> s.heap.get? b = some o -> (((s.heap.update a (Obj.mapSeq fun _=>(#[]:Array Value))).push (seqObj "tuple" vs.toArray 0)).push (seqObj "list" #[] 0)).get? b = some o:=fun b o hb e=>Heap.get?_push_of_some _ (Heap.get?_push_of_some _ ((Heap.get?_update_other _ _ (Ne.symm hb)).trans e))
 have hk:=pX _ kp
 have fin:=h
 unfold sortedHeap at fin
 generalize ((s.heap.update a (Obj.mapSeq fun _=>(#[]:Array Value))).push (seqObj "tuple" vs.toArray 0)).push (seqObj "list" #[] 0) = h6 at zT kp hk fin
 show wpAny (model prog w) A _ P E { s with heap:=h6 }
 dsimp only
 have uy:vs.toArray.size = vs.length:=by simp
 by_cases h2:vs.toArray.size < 2
 ·rw [if_pos h2,if_pos h2]
  refine wpAny_bind (wpAny_pure ?_)
  rw [StateT.run_pure]
  refine wpAny_bind (wpAny_pure ?_)
  dsimp only
  have eo:Array.map (fun x=>x.snd) (vs.toArray.zip vs.toArray) = vs.toArray:=by
   rw [Fk]
   apply Array.toList_inj.mp
   rw [Array.toList_map]
   exact Sa vs
  refine wpAny_bind (seqEpoch_at zT rfl (wpAny_bind (listUpdate_at zT rfl ?_ (Nat.zero_le _) (by rw [eo,uy]; omega))))
  simp only [bne_self_eq_false,Bool.false_eq_true,if_false]
  rw [show Array.map (fun x=>x.snd) (arrOf (SortSt.mk' general' (vs.toArray.zip vs.toArray) #[] 7 none)) = vs.toArray from eo]
  refine wpAny_pure (fin vs.toArray (by simp) ?_)
  match vs,uy,h2 with
  | [],_,_=>exact List.Pairwise.nil
  | [x],_,_=>exact List.pairwise_singleton _ _
  | x :: y :: r,uy,h2=>exact absurd h2 (by rw [uy,List.length_cons,List.length_cons]; omega)
 ·rw [if_neg h2,if_neg h2]
  obtain ⟨rH,pS⟩ := hk (by omega)
  refine wpAny_bind (rH _ ?_)
  have hz:(vs.toArray.zip vs.toArray).size = vs.length:=by rw [Fk]; simp
  refine wpAny_bind (wpAny_mono (Oz (st:=SortSt.mk' κ (vs.toArray.zip vs.toArray) #[] 7 none) pS ⟨Array.Perm.refl _,rfl,rfl⟩ rfl (Q:=fun _ aP=>Bs κ (vs.toArray.zip vs.toArray) aP /\ Gr (fun p=>g p.1) (arrOf aP) 0 (vs.toArray.zip vs.toArray).size) fun aP b1 b2=>⟨b1,b2⟩) ?_ fun _ _ e=>e)
  rintro ⟨⟨⟩,aP⟩ s' ⟨rfl,hB,hS⟩
  dsimp only at hB hS ⊢
  have bV:∀ p ∈ arrOf aP,p.1 = p.2 /\ p.1 ∈ vs:=fun p hp=>by
   have:=hB.perm.mem_iff.mp hp
   rw [Fk] at this
   have h3:p ∈ vs.map fun v=>(v,v):=by simpa using this
   obtain ⟨v,hv,rfl⟩ := List.mem_map.mp h3
   exact ⟨rfl,hv⟩
  have fB:((arrOf aP).map (·.2)).toList.Perm vs:=by
   rw [Array.toList_map]
   have:=(Array.perm_iff_toList_perm.mp hB.perm).map (·.2)
   rw [Fk,Sa] at this
   exact this
  have lX:((arrOf aP).map (·.2)).toList.Pairwise (fun x y=>g x <= g y):=by
   rw [Array.toList_map]
   refine List.pairwise_iff_getElem.mpr fun i j hi hj qZ=>?_
   rw [List.length_map,Array.length_toList] at hi hj
   have ei:(arrOf aP)[i]? = some (arrOf aP)[i]:=getElem?_pos (arrOf aP) i hi
   have ej:(arrOf aP)[j]? = some (arrOf aP)[j]:=getElem?_pos (arrOf aP) j hj
   have h4:=hS i j (Nat.zero_le _) (Nat.le_of_lt qZ) (by rw [<- hB.size]; exact hj)
   rw [As ei,As ej] at h4
   have e1:=(bV _ (Array.mem_of_getElem? ei)).1
   have e2:=(bV _ (Array.mem_of_getElem? ej)).1
   rw [e1,e2] at h4
   simpa using h4
  refine wpAny_bind (seqEpoch_at zT rfl (wpAny_bind (listUpdate_at zT rfl ?_ (Nat.zero_le _) (by
   have:=fB.length_eq
   rw [Array.length_toList] at this
   rw [this]
   omega))))
  rw [show failedOf aP = none from hB.failed]
  simp only [bne_self_eq_false,Bool.false_eq_true,if_false]
  exact wpAny_pure (fin _ fB lX)
end
open PySem PySem.Spec PySem.SeqAt PyProof.Rows
section
variable {prog:Program} {w:World} {E:Value -> Shared -> Prop}
theorem V4 {A : Around} {s : Shared} {vs : List Value} {κ : SortKind} {g : Value -> Nat} {r : Value} {Q : Value -> Shared -> Prop} {h1 : Heap} {t1 : Nat} (hsz : vs.length <= sizeLine) (uW : ∀ R : List Value -> Shared -> Prop, R vs { s with heap := h1, toks := t1 } -> wpAny (model prog w) A.in1 (collect r) R E s)
  (pX:∀ (h6:Heap) (A':Around),A'.units <= A.units + 4 -> (∀ b o,h1.get? b = some o -> h6.get? b = some o) -> 2 <= vs.length -> (∀ Q E,Q κ { s with heap:=h6,toks:=t1 } -> wpAny (model prog w) A' (keyKind' vs.toArray) Q E { s with heap:=h6,toks:=t1 }) /\ Gm prog w A' { s with heap:=h6,toks:=t1 } κ (fun p=>g p.1) (vs.toArray.zip vs.toArray))
  (h:∀ (out:Array Value) (h':Heap) (c:Nat),out.toList.Perm vs -> out.toList.Pairwise (fun x y=>g x <= g y) -> (∀ b o,h1.get? b = some o -> h'.get? b = some o) -> h'.get? h1.objs.size = some (seqObj "list" out c) -> Q (.ref h1.objs.size) { s with heap:=h',toks:=t1 }) :
  wpAny (model prog w) A (call (.builtin "sorted") [r]) Q E s:=by
 refine Calls.call_function_entry kind_sorted plain_sorted entry_sorted (args_sorted1 _) ?_
 unfold Builtin.«sorted»
 refine wpAny_bind (m:=checkCount "sorted" 1 1 _) (wpAny_pure ?_)
 refine wpAny_bind (uW _ (wpAny_bind (wpAny_newList ?_ )))
 have pL:(h1.push (seqObj "list" vs.toArray 0)).get? h1.objs.size = some (seqObj "list" vs.toArray 0):=Heap.get?_push_size _ rfl
 show wpAny _ _ _ _ _ { s with heap:=h1.push (seqObj "list" vs.toArray 0),toks:=t1 }
 refine wpAny_bind (wpAny_holding (wpAny_call_entry slot_list_sort ⟨_,pL,rfl⟩ entry_list_sort (P6 (κ:=κ) (g:=g) (s:={ s with heap:=h1.push (seqObj "list" vs.toArray 0),toks:=t1 }) pL hsz (fun h6 kp h2=>?_) fun out p1 p2=>⟨_,rfl,?_⟩) (args_list_sort _)))
 ·obtain ⟨k1,k2⟩ := pX h6 A.in1.in1 (show A.units + 1 + 1 <= A.units + 4 by omega) (fun b o e=>kp b o (Nat.ne_of_lt (Heap.lt_size e)) (Heap.get?_push_of_some _ e)) h2
  exact ⟨fun Q hq=>k1 Q _ hq,k2⟩
 ·obtain ⟨c,hc⟩ : ∃ c,(sortedHeap (h1.push (seqObj "list" vs.toArray 0)) h1.objs.size vs out).get? h1.objs.size = some (seqObj "list" out c):=sortedHeap_at pL
  refine wpAny_pure ⟨_,rfl,h out _ c p1 p2 (fun b o e=>?_) hc⟩
  rw [sortedHeap_old (Nat.ne_of_lt (Heap.lt_size e)) (by rw [size_push']; exact Nat.lt_succ_of_lt (Heap.lt_size e))]
  exact Heap.get?_push_of_some _ e
end
section
variable {X:Cx} {k:Nat}
def Lh:Value -> Addr
 | .ref a=>a
 | _=>0
def Ml (H:Hp) (b:Bool) (D:V -> PyData) (g:V -> Nat) (us:List V):Prop:=(∀ u ∈ us,Rp H (D u) u /\ Il b (D u) /\ (D u).depth <= 50) /\ ∀ u ∈ us,∀ v ∈ us,Yl (D u) (D v) /\ Gc (D u) (D v) = decide (g u < g v)
theorem Ml.ref {H:Hp} {b:Bool} {D:V -> PyData} {g:V -> Nat} {us:List V} (h:Ml H b D g us):∃ as:List Addr,us = as.map V.ref:=by
 have key:∀ us:List V,(∀ u ∈ us,Rp H (D u) u /\ Il b (D u)) -> ∃ as:List Addr,us = as.map V.ref:=by
  intro us
  induction us with
  | nil=>exact fun _=>⟨[],rfl⟩
  | cons u us ih =>
   intro hall
   obtain ⟨as,rfl⟩ := ih fun v hv=>hall v (List.mem_cons_of_mem _ hv)
   obtain ⟨h1,x,r,e,_⟩ := hall u List.mem_cons_self
   rw [e] at h1
   unfold Rp at h1
   obtain ⟨a,us0,ea,_⟩ := h1
   exact ⟨a :: as,by rw [ea]; rfl⟩
 exact key us fun u hu=>⟨(h.1 u hu).1,(h.1 u hu).2.1⟩
theorem Ml.asks {P : Program} {w : World} {pins : List (Addr × Obj)} {σ : St} {H : Hp} {s : Shared} {b : Bool} {D : V -> PyData} {g : V -> Nat} {as : List Addr} {A' : Around} {E : Value -> Shared -> Prop} (I : Ae X pins σ H s) (hP : X.prog = P) (hw : X.w = w) (h : Ml H b D g (as.map V.ref)) (hu : A'.units + 50 < cLine) (h2 : 2 <= as.length) :
  (∀ Q E,Q (PyProof.Rows.tuples' b) s -> wpAny (model P w) A' (keyKind' (as.map Value.ref).toArray) Q E s) /\ Gm P w A' s (PyProof.Rows.tuples' b) (fun p=>g (.ref (Lh p.1))) ((as.map Value.ref).toArray.zip (as.map Value.ref).toArray):=by
 subst hP hw
 have rd:∀ a ∈ as,∃ xs,Reads s.heap (.ref a) (D (.ref a)) xs:=fun a ha=>Ce I _ _ _ (h.1 _ (List.mem_map_of_mem ha)).1 rfl
 refine ⟨fun Q E hq=>V3 (b:=b) ?_ (fun v hv=>?_) hq,fun x y hx hy Q E hq=>?_⟩
 ·intro e
  have:=congrArg List.length e
  rw [List.length_map,List.length_nil] at this
  omega
 ·obtain ⟨a,ha,rfl⟩ := List.mem_map.mp hv
  obtain ⟨xs,r⟩ := rd a ha
  exact ⟨_,xs,r,(h.1 _ (List.mem_map_of_mem ha)).2.1⟩
 ·have mem : ∀ z, z ∈ (as.map Value.ref).toArray.zip (as.map Value.ref).toArray -> ∃ a ∈ as, z.1 = Value.ref a := fun z hz => by
   rw [Fk] at hz
   have h3:z ∈ (as.map Value.ref).map fun v=>(v,v):=by simpa using hz
   obtain ⟨v,hv,rfl⟩ := List.mem_map.mp h3
   obtain ⟨a,ha,rfl⟩ := List.mem_map.mp hv
   exact ⟨a,ha,rfl⟩
  obtain ⟨a,ha,ea⟩ := mem x hx
  obtain ⟨c,hc,ec⟩ := mem y hy
  have zb:=List.mem_map_of_mem (f:=V.ref) ha
  have gB:=List.mem_map_of_mem (f:=V.ref) hc
  obtain ⟨xs,r1⟩ := rd a ha
  obtain ⟨ys,r2⟩ := rd c hc
  obtain ⟨c1,c2⟩ := h.2 _ zb _ gB
  obtain ⟨x1,x2⟩ := x
  obtain ⟨y1,y2⟩ := y
  obtain rfl:x1 = Value.ref a:=ea
  obtain rfl:y1 = Value.ref c:=ec
  refine Wc r1 r2 (h.1 _ zb).2.1 (h.1 _ gB).2.1 (Cd _ _ (h.1 _ zb).1) (Cd _ _ (h.1 _ gB).1) c1 ?_ ?_
  ·have:=(h.1 _ zb).2.2
   omega
  ·rw [c2]
   exact hq
theorem Mf {g:V -> Nat} {as:List Addr} {out:List Value} (hp:out.Perm (as.map Value.ref)) (hs:out.Pairwise (fun x y=>g (.ref (Lh x)) <= g (.ref (Lh y)))):∃ gF:List V,An gF out /\ gF.Perm (as.map V.ref) /\ gF.Pairwise (fun x y=>g x <= g y):=by
 have hr:∀ v ∈ out,v = .ref (Lh v):=fun v hv=>by
  obtain ⟨a,_,rfl⟩ := List.mem_map.mp (hp.mem_iff.mp hv)
  rfl
 refine ⟨out.map fun v=>.ref (Lh v),?_,?_,?_⟩
 ·have key : ∀ l : List Value, (∀ v ∈ l, v = .ref (Lh v)) -> An (l.map fun v => V.ref (Lh v)) l := by
   intro l
   induction l with
   | nil=>exact fun _=>.nil
   | cons v l ih=>exact fun h=>.cons (h v List.mem_cons_self) (ih fun v hv=>h v (List.mem_cons_of_mem _ hv))
  exact key out hr
 ·have:=hp.map fun v=>V.ref (Lh v)
  rw [List.map_map] at this
  exact this
 ·rw [List.pairwise_map]
  exact hs
def W2 (K:PySem.W.Frag):List V -> Hp -> VK -> Prop:=fun xs H Q=>∃ (l:Addr) (us:List V) (b:Bool) (D:V -> PyData) (g:V -> Nat),xs = [.ref l] /\ Bj K H l us /\ us.length <= 20000 /\ Ml H b D g us /\ ∀ (p:Addr) (gF:List V),H p = none -> gF.Perm us -> gF.Pairwise (fun x y=>g x <= g y) -> Q (.ref p) (upd H p (.lst gF))
theorem O7 (hr:C0 k X.A):El X (.builtin "sorted") (W2 X.K):=by
 intro pins s σ H xs us Q I r h
 obtain ⟨l,vs,b,D,g,rfl,hq,hl,hD,q⟩ := h
 obtain ⟨u,rfl,ru⟩ := r.one
 cases ru
 obtain ⟨aH,rv,pl,hz⟩ := I.list hq
 obtain ⟨as,rfl⟩ := hD.ref
 obtain rfl:=Ma as aH rv
 have hu:=hr.units
 have h63:=Gq
 have hlen:(as.map Value.ref).length <= sizeLine:=by
  rw [List.length_map]
  rw [List.length_map] at hl
  exact Nat.le_trans hl (by rw [sizeLine_eq]; decide)
 have kp:∀ b o,s.heap.get? b = some o -> ((s.heap.push (seqObj "list" #[] 0)).update s.heap.objs.size (Obj.mapSeq (· ++ (as.map Value.ref).toArray))).get? b = some o:=fun b o e=>(Heap.get?_update_other _ _ (Ne.symm (Nat.ne_of_lt (Heap.lt_size e)))).trans (Heap.get?_push_of_some _ e)
 refine V4 (h1:=(s.heap.push (seqObj "list" #[] 0)).update s.heap.objs.size (Obj.mapSeq (· ++ (as.map Value.ref).toArray))) (t1:=s.toks) (κ:=PyProof.Rows.tuples' b) (g:=fun v=>g (.ref (Lh v))) hlen (fun R hR=>collect_list pl.isList hR hlen) (fun h6 A' hA' k6 h2=>?_) fun out h' c p1 p2 k' e'=>?_
 ·have I6:Ae X pins σ H { s with heap:=h6 }:=I.kept (t':=s.toks) fun b o e=>k6 b o (kp b o e)
  rw [List.length_map] at h2
  exact hD.asks (E:=fun _ _=>True) I6 rfl rfl (by have:=hr.un; omega) h2
 ·obtain ⟨gF,v1,v2,v3⟩ := Mf p1 p2
  refine ⟨.ref _,upd H _ (.lst gF),I.laid (t':=s.toks) (fun b o e=>k' b o (kp b o e)) ?_ ?_,rfl,q _ gF (I.aR.fresh ?_) v2 v3⟩
  ·rw [Heap.size_update,size_push']
   exact Nat.le_succ _
  ·exact ⟨by rw [v2.length_eq]; exact hz,out.toList,c,v1,e'⟩
  ·rw [Heap.size_update,size_push']
   exact Nat.le_succ _
end
open PySem.W (KdxIt)
section
variable {P:Program} {w:World} {A:Around} {E:Value -> Shared -> Prop} {s:Shared}
theorem au {it d a : Addr} {f : Bool} {oa od : Obj} {i ep : Nat} {es : Array DictEntry} {en : DictEntry} {ok ov : Value} {Q : Option Value -> Shared -> Prop} (hit : KdxIt s.heap it d i es.size ep ok ov a f) (ha : s.heap.get? a = some oa) (uX : a ≠ it) (fR : s.heap.get? d = some od) (dC : od.data = .dict es ep) (he : es[i]? = some en)
  (hQ:∀ h',KdxIt h' it d (i + 1) es.size ep ok ov a true -> h'.get? s.heap.objs.size = some { cls := .type "tuple",data := .seq #[en.key,en.val] } -> (∀ b o,b ≠ it -> s.heap.get? b = some o -> h'.get? b = some o) -> Q (some (.ref s.heap.objs.size)) { s with heap:=h' }):wpAny (model P w) A (pyNext (.ref it)) Q E s:=by
 have hT:s.TypeIs (.ref it) "dict_itemiterator" := ⟨_,hit,rfl⟩
 have own:Builtin.Dict_items.ownsTuple "dict_itemiterator" = true:=by decide
 unfold pyNext; refine wpAny_bind (wpAny_attempt (wpAny_callSpecial?_slot (name:=Str.ofString "__next__") hT F.slot_dict_itemiterator_next (wpAny_call_entry F.slot_dict_itemiterator_next hT F.entry_dict_itemiterator_next ?_ (F.args_dict_itemiterator_next_1 _))))
 refine wpAny_bind (wpAny_pure (wpAny_bind (wpAny_bind (wpAny_bind (wpAny_typeNameOfWhole_itemiter hT (wpAny_pure (wpAny_bind (wpAny_fieldsOf hit rfl ?_))))))))
 simp only [own,if_true]; show wpAny _ _ (if (Value.ref d == Value.none) = true then _ else _) _ _ s
 rw [if_neg (show ¬ (Value.ref d == Value.none) = true from Bool.false_ne_true)]; refine wpAny_bind (wpAny_pure (wpAny_bind (wpAny_dictEntries fR dC ?_)))
 rw [if_neg (show ¬ ((es.size:Int) != (es.size:Int)) = true by simp)]; refine wpAny_bind (wpAny_pure (wpAny_bind (wpAny_dictEpoch fR dC ?_)))
 rw [if_neg (show ¬ ((ep:Int) != (ep:Int)) = true by simp)]; refine wpAny_pure ?_
 simp only [show ¬ ((i:Int) < 0) by omega,if_false,Int.toNat_natCast,he]
 refine wpAny_bind (wpAny_bind (wpAny_typeNameOfWhole_itemiter hT (wpAny_pure (wpAny_bind (wpAny_isOneOf_itemiter hT ?_)))))
 show wpAny _ _ (setField (.ref it) 3 (rawInt ((i:Int) + 1)) >>= _) _ _ s; refine wpAny_bind (wpAny_setField_rec hit (by simp) fun h1 b1 c1=>?_)
 have rC:KdxIt h1 it d (i + 1) es.size ep ok ov a f:=by
  have e:((i + 1:Nat):Int) = (i:Int) + 1:=by omega
  unfold KdxIt; rw [e]; simpa [rawInt] using b1
 have zN:Shared.TypeIs { s with heap:=h1 } (.ref it) "dict_itemiterator" := ⟨_,rC,rfl⟩
 refine wpAny_bind (wpAny_holding (wpAny_bind (wpAny_isOneOf_itemiter zN (wpAny_bind (wpAny_isOneOf_itemiter zN ?_)))))
 have z1:h1.objs.size = s.heap.objs.size:=c1.1
 show wpAny _ _ (Builtin.Dict_items.pairFromOwner (.ref it) 6 en.key en.val) _ _ { s with heap:=h1 }
 unfold Builtin.Dict_items.pairFromOwner; refine wpAny_bind (wpAny_newTuple ?_)
 have il:it < s.heap.objs.size:=Heap.lt_size hit
 have e2:KdxIt (h1.push { cls := .type "tuple",data := .seq #[en.key,en.val] }) it d (i + 1) es.size ep ok ov a f:=Heap.get?_push_of_some _ rC
 have t2:(h1.push { cls := .type "tuple",data := .seq #[en.key,en.val] }).get? s.heap.objs.size = some { cls := .type "tuple",data := .seq #[en.key,en.val] }:=by rw [<- z1]; exact Heap.get?_push_size _ rfl
 have k2:∀ b o,b ≠ it -> s.heap.get? b = some o -> (h1.push { cls := .type "tuple",data := .seq #[en.key,en.val] }).get? b = some o:=fun b o hb e=>Heap.get?_push_of_some _ (c1.extBut b o hb e)
 show wpAny _ _ (Builtin.Dict_items.ownedTupleIsFree (.ref it) >>= _) _ _ { s with heap:=h1.push { cls := .type "tuple",data := .seq #[en.key,en.val] } }
 rw [show (Shared.heap { s with heap:=h1 }).objs.size = s.heap.objs.size from z1]
 generalize h1.push { cls := .type "tuple",data := .seq #[en.key,en.val] } = h2 at e2 t2 k2
 unfold Builtin.Dict_items.ownedTupleIsFree; refine wpAny_bind (wpAny_bind (wpAny_field e2 rfl (x:=rawInt a) rfl ?_))
 show wpAny _ _ (loadIfAlive ((a:Int).toNat) >>= _) _ _ _; rw [Int.toNat_natCast]
 refine wpAny_bind (PySem.W.kdx_alive (k2 a oa uX ha) ?_)
 simp only [Option.isNone_some,Bool.false_eq_true,if_false]; refine wpAny_bind (wpAny_field e2 rfl (x := .bool f) rfl ?_)
 cases f with
 | true =>
  rw [if_neg (show ¬ (Value.bool true != Value.bool true) = true from Bool.false_ne_true)]; refine wpAny_pure ?_
  simp only [Bool.false_eq_true,if_false]; exact wpAny_pure (wpAny_pure ⟨_,rfl,wpAny_pure (hQ h2 e2 t2 k2)⟩)
 | false =>
  rw [if_pos (show (Value.bool false != Value.bool true) = true from rfl)]; refine wpAny_bind (wpAny_setField_rec e2 (by simp) fun h3 e3 s3=>wpAny_pure ?_)
  simp only [Bool.false_eq_true,if_false]; exact wpAny_pure (wpAny_pure ⟨_,rfl,wpAny_pure (hQ h3 e3 (s3.extBut _ _ (Nat.ne_of_gt il) t2) fun b o hb e=>s3.extBut b o hb (k2 b o hb e))⟩)
theorem bd {it d a : Addr} {f : Bool} {od : Obj} {i ep : Nat} {es : Array DictEntry} {ok ov : Value} {Q : Option Value -> Shared -> Prop} (hh : A.handled = none) (hit : KdxIt s.heap it d i es.size ep ok ov a f) (fR : s.heap.get? d = some od) (dC : od.data = .dict es ep) (he : es[i]? = none)
  (hQ:∀ h',Heap.ExtBut it s.heap h' -> Q none { s with heap:=h' }):wpAny (model P w) A (pyNext (.ref it)) Q E s:=by
 have hT:s.TypeIs (.ref it) "dict_itemiterator" := ⟨_,hit,rfl⟩
 have own:Builtin.Dict_items.ownsTuple "dict_itemiterator" = true:=by decide
 unfold pyNext; refine wpAny_bind (wpAny_attempt (wpAny_callSpecial?_slot (name:=Str.ofString "__next__") hT F.slot_dict_itemiterator_next (wpAny_call_entry F.slot_dict_itemiterator_next hT F.entry_dict_itemiterator_next ?_ (F.args_dict_itemiterator_next_1 _))))
 refine wpAny_bind (wpAny_pure (wpAny_bind (wpAny_bind (wpAny_bind (wpAny_typeNameOfWhole_itemiter hT (wpAny_pure (wpAny_bind (wpAny_fieldsOf hit rfl ?_))))))))
 simp only [own,if_true]; show wpAny _ _ (if (Value.ref d == Value.none) = true then _ else _) _ _ s
 rw [if_neg (show ¬ (Value.ref d == Value.none) = true from Bool.false_ne_true)]; refine wpAny_bind (wpAny_pure (wpAny_bind (wpAny_dictEntries fR dC ?_)))
 rw [if_neg (show ¬ ((es.size:Int) != (es.size:Int)) = true by simp)]; refine wpAny_bind (wpAny_pure (wpAny_bind (wpAny_dictEpoch fR dC ?_)))
 rw [if_neg (show ¬ ((ep:Int) != (ep:Int)) = true by simp)]; refine wpAny_pure ?_
 simp only [show ¬ ((i:Int) < 0) by omega,if_false,Int.toNat_natCast,he]
 refine wpAny_bind (wpAny_bind (wpAny_typeNameOfWhole_itemiter hT (wpAny_pure ?_)))
 show wpAny _ _ (setField (.ref it) 2 Value.none >>= _) _ _ s
 refine wpAny_bind (wpAny_setField hit rfl (by simp) ?_)
 generalize hg:Heap.update s.heap it (Obj.mapFields (·.setIfInBounds 2 Value.none)) = h2
 have eb:Heap.ExtBut it s.heap h2:=by
  rw [<- hg]
  exact fun b ob hb e=>(Heap.get?_update_other _ _ (Ne.symm hb)).trans e
 show wpAny (model P w) _ (newExc (.type "StopIteration") [] >>= _) _ _ { s with heap:=h2 }
 refine wpAny_bind ?_; simp only [newExc,newTuple]
 refine wpAny_bind (wpAny_newObj_type (T := "tuple") ?_ (by size_fits))
 refine wpAny_bind (m:=firstArgMember _ _) (wpAny_of_eq (a:=Value.none) (by first | rfl | simp only [firstArgMember]) ?_)
 refine wpAny_newObj_type (T := "StopIteration") ?_ (by size_fits)
 simp only [raiseNew]; refine wpAny_bind (wpAny_handled ?_)
 first | rw [show A.in1.handled = Option.none from hh] | rw [hh]
 refine wpAny_bind (wpAny_pure (wpAny_throw ?_)); refine wpAny_bind (wpAny_isInstance (T := "StopIteration") (b:=true) ⟨_,Heap.get?_push_size _ rfl,rfl⟩ isSubtype_stop ?_)
 exact wpAny_pure (hQ _ ((eb.push _).push _))
def Ru (h:Heap) (it d S:Addr) (i n ep:Nat):Prop:=(i = 0 /\ ∃ ok ov,IsItemIter h it d 0 n ep ok ov) \/ ∃ ok ov a f oa,KdxIt h it d i n ep ok ov a f /\ h.get? a = some oa /\ a ≠ it /\ a ≠ S
structure Zs (es:Array DictEntry) (lo:Addr) (h:Heap) (as:List Addr):Prop where
 rise:as.Pairwise (· < ·)
 above:∀ a ∈ as,lo < a
 at_:∀ (j:Nat) (a:Addr),as[j]? = some a -> ∃ en,es[j]? = some en /\ h.get? a = some { cls := .type "tuple",data := .seq #[en.key,en.val] }
theorem Zs.lt {es:Array DictEntry} {lo:Addr} {h:Heap} {as:List Addr} (g:Zs es lo h as) {a:Addr} (ha:a ∈ as):a < h.objs.size:=by
 obtain ⟨j,hj⟩ := List.mem_iff_getElem?.mp ha
 obtain ⟨_,_,e⟩ := g.at_ j a hj
 exact Heap.lt_size e
theorem Y4 {it d S : Addr} {od : Obj} {i ep : Nat} {es : Array DictEntry} {en : DictEntry} {Q : Option Value -> Shared -> Prop} (st : Ru s.heap it d S i es.size ep) (hS : S < s.heap.objs.size) (fR : s.heap.get? d = some od) (dC : od.data = .dict es ep) (he : es[i]? = some en)
  (hQ:∀ h',Ru h' it d S (i + 1) es.size ep -> h'.get? s.heap.objs.size = some { cls := .type "tuple",data := .seq #[en.key,en.val] } -> (∀ b o,b ≠ it -> s.heap.get? b = some o -> h'.get? b = some o) -> Q (some (.ref s.heap.objs.size)) { s with heap:=h' }):wpAny (model P w) A (pyNext (.ref it)) Q E s:=by
 rcases st with ⟨rfl,ok,ov,hit⟩ | ⟨ok,ov,a,f,oa,hit,ha,uX,GU⟩
 ·exact Po hit fR dC he fun h' a1 a2 a3=>hQ h' (.inr ⟨en.key,en.val,_,false,_,a1,a2,Nat.ne_of_gt (Heap.lt_size hit),Nat.ne_of_gt hS⟩) a2 a3
 ·exact au hit ha uX fR dC he fun h' a1 a2 a3=>hQ h' (.inr ⟨ok,ov,a,true,oa,a1,a3 a oa uX ha,uX,GU⟩) a2 a3
theorem Z0 {it d S : Addr} {od : Obj} {i ep : Nat} {es : Array DictEntry} {Q : Option Value -> Shared -> Prop} (hh : A.handled = none) (st : Ru s.heap it d S i es.size ep) (fR : s.heap.get? d = some od) (dC : od.data = .dict es ep) (he : es[i]? = none)
  (hQ:∀ h',Heap.ExtBut it s.heap h' -> Q none { s with heap:=h' }):wpAny (model P w) A (pyNext (.ref it)) Q E s:=by
 rcases st with ⟨rfl,ok,ov,hit⟩ | ⟨ok,ov,a,f,oa,hit,_,_,_⟩
 ·exact Vr hh hit fR dC he hQ
 ·exact bd hh hit fR dC he hQ
theorem Ru.keep {h h':Heap} {it d S:Addr} {i n ep:Nat} (x:Ru h it d S i n ep) (hk:∀ b o,b ≠ S -> h.get? b = some o -> h'.get? b = some o) (hI:it ≠ S):Ru h' it d S i n ep:=by
 rcases x with ⟨e,ok,ov,hit⟩ | ⟨ok,ov,a,f,oa,hit,ha,uX,GU⟩
 ·exact .inl ⟨e,ok,ov,hk it _ hI hit⟩
 ·exact .inr ⟨ok,ov,a,f,oa,hk it _ hI hit,hk a _ GU ha,uX,GU⟩
theorem Z5 {S I d : Addr} {es : Array DictEntry} {ep : Nat} {od : Obj} {R : Result -> Shared -> Prop} (hh : A.handled = none) (hSI : S < I) (hSd : d ≠ S) (hId : d ≠ I) (hn : es.size <= sizeLine) (res : Value) (dC : od.data = .dict es ep) {h0 : Heap}
  (hR:∀ h' tk acc c as,(∀ b o,b ≠ S -> b ≠ I -> h0.get? b = some o -> h'.get? b = some o) -> h'.get? S = some { cls := .type "list",dict:=none,data := .seq acc c,slots := #[] } -> as.length = es.size -> Zs es I h' as -> acc.toList = as.map Value.ref -> R (.ok (.ret res)) { s with heap:=h',toks:=tk }) :
  ∀ (k i:Nat) (h:Heap) (tk c:Nat) (acc:Array Value) (as:List Addr),es.size - i = k -> i <= es.size -> Ru h I d S i es.size ep -> h.get? d = some od -> (∀ b o,b ≠ S -> b ≠ I -> h0.get? b = some o -> h.get? b = some o) ->
   h.get? S = some { cls := .type "list",dict:=none,data := .seq acc c,slots := #[] } -> acc.toList = as.map Value.ref -> as.length = i -> Zs es I h as -> I < h.objs.size ->
   codeAny (model P w) A (.builtin "list.extend.loop" ⟨[.ref S,.ref I,res],[]⟩) R { s with heap:=h,toks:=tk }:=by
 have dX:S ≠ I:=Nat.ne_of_lt hSI
 intro k
 induction k with
 | zero =>
  intro i h tk c acc as hk hi st hD kp hS pY GV hG KD
  refine codeAny_builtin F.entry_extend_loop ?_; rw [Around.under_plainId F.plain_extend_loop _]
  show wpAny _ A.in1 (pyNext (.ref I) >>= _) _ _ _
  refine wpAny_bind (Z0 (s:={ s with heap:=h,toks:=tk }) (A:=A.in1) hh st hD dC (Array.getElem?_eq_none (by omega)) fun h' he=>wpAny_pure (hR h' tk acc c as (fun b o h1 h2 e=>he b o h2 (kp b o h1 h2 e)) (he S _ dX hS) (by omega) ⟨hG.rise,hG.above,fun j a hj=>?_⟩ pY))
  obtain ⟨en,e1,e2⟩ := hG.at_ j a hj
  exact ⟨en,e1,he a _ (Nat.ne_of_gt (hG.above a (List.mem_of_getElem? hj))) e2⟩
 | succ k ih =>
  intro i h tk c acc as hk hi st hD kp hS pY GV hG KD
  have aX:i < es.size:=by omega
  have hx:es[i]? = some es[i]:=getElem?_pos es i aX
  have hsz:acc.size = i:=by rw [<- Array.length_toList,pY,List.length_map,GV]
  refine codeAny_builtin F.entry_extend_loop ?_; rw [Around.under_plainId F.plain_extend_loop _]
  show wpAny _ A.in1 (pyNext (.ref I) >>= _) _ _ _
  refine wpAny_bind (Y4 (s:={ s with heap:=h,toks:=tk }) (S:=S) st (Heap.lt_size hS) hD dC hx fun h' aP ht jC=>?_)
  dsimp only at ht jC ⊢
  have hS':=jC S _ dX hS
  have up:∀ b o,b ≠ S -> h'.get? b = some o -> (h'.update S (Obj.mapSeq (·.push (Value.ref h.objs.size)))).get? b = some o:=fun b o hb e=>(Heap.get?_update_other _ _ (Ne.symm hb)).trans e
  have hSl:S < h.objs.size:=Heap.lt_size hS
  have hI':h'.get? I ≠ none:=by
   rcases aP with ⟨_,_,_,z⟩ | ⟨_,_,_,_,_,z,_⟩ <;> rw [z] <;> exact Option.some_ne_none _
  show wpAny _ A.in1 (updateSeq S (·.push (Value.ref h.objs.size)) >>= _) _ _ _
  refine wpAny_bind (wpAny_updateSeq hS' rfl (wpAny_pure ⟨plainId_quiet F.plain_extend_loop _,ih (i + 1) _ tk _ (acc.push (Value.ref h.objs.size)) (as ++ [h.objs.size]) (by omega) aX (aP.keep up (Ne.symm dX)) (up d _ hSd (jC d _ hId hD))
   (fun b o h1 h2 e=>up b o h1 (jC b o h2 (kp b o h1 h2 e))) (Heap.get?_update_self _ hS' rfl) (by rw [Array.toList_push,pY,List.map_append]; rfl) (by rw [List.length_append,GV]; rfl) ⟨?_,fun a ha=>?_,fun j b hj=>?_⟩ ?_⟩) (by rw [hsz]; omega) (by show (acc.push (Value.ref h.objs.size)).size <= sizeLine + 1; rw [Array.size_push,hsz]; omega))
  ·exact List.pairwise_append.mpr ⟨hG.rise,List.pairwise_singleton _ _,fun a ha b hb=>by rw [List.mem_singleton.mp hb]; exact hG.lt ha⟩
  ·rcases List.mem_append.mp ha with z | z
   ·exact hG.above a z
   ·rw [List.mem_singleton.mp z]
    exact KD
  ·by_cases z:j < as.length
   ·rw [List.getElem?_append_left z] at hj
    obtain ⟨en,e1,e2⟩ := hG.at_ j b hj
    have hb:=hG.above b (List.mem_of_getElem? hj)
    exact ⟨en,e1,up b _ (Nat.ne_of_gt (Nat.lt_trans hSI hb)) (jC b _ (Nat.ne_of_gt hb) e2)⟩
   ·rw [List.getElem?_append_right (by omega)] at hj
    have hj0:j = i:=by
     have:=(List.getElem?_eq_some_iff.mp hj).1
     rw [List.length_singleton] at this
     omega
    subst hj0
    rw [GV,Nat.sub_self] at hj
    cases hj
    exact ⟨_,hx,up _ _ (Nat.ne_of_gt hSl) ht⟩
  ·exact Nat.lt_trans KD (Heap.lt_size (up _ _ (Nat.ne_of_gt hSl) ht))
theorem R6 {r d : Addr} {od : Obj} {es : Array DictEntry} {ep : Nat} {R : List Value -> Shared -> Prop} (hh : A.handled = none) (hv : s.heap.IsItemsView r d) (fR : s.heap.get? d = some od) (dC : od.data = .dict es ep) (hn : es.size <= sizeLine)
  (h:∀ (h':Heap) (tk:Nat) (as:List Addr),(∀ b o,s.heap.get? b = some o -> h'.get? b = some o) -> as.length = es.size -> Zs es s.heap.objs.size h' as -> R (as.map Value.ref) { s with heap:=h',toks:=tk }):wpAny (model P w) A (collect (.ref r)) R E s:=by
 have hr:r < s.heap.objs.size:=let ⟨_,ho,_⟩ := hv; Heap.lt_size ho
 have hd:d < s.heap.objs.size:=Heap.lt_size fR
 unfold collect; refine wpAny_bind (wpAny_runValue (codeAny_builtin entry_proto_collect' ?_)); rw [Around.under_plainId F.plain_proto_collect _]
 show wpAny _ A.in1 (newList [] >>= fun l=>again (.builtin "list.__iadd__" ⟨[l,.ref r],[]⟩)) _ _ s
 refine wpAny_bind (wpAny_newObj_type (wpAny_pure ⟨plainId_quiet F.plain_list_iadd _,codeAny_builtin entry_list_iadd' ?_⟩)); rw [Around.under_plainId F.plain_list_iadd _]
 generalize rJ:({ s with heap:=s.heap.push { cls := .type "list",data := .seq ([]:List Value).toArray } }:Shared) = s1
 have z1:s1.heap.objs.size = s.heap.objs.size + 1:=by rw [<- rJ]; exact Heap.size_push ..
 have aX:s.heap.objs.size < s1.heap.objs.size:=by rw [z1]; exact Nat.lt_succ_self _
 have GW:∀ b o,s.heap.get? b = some o -> s1.heap.get? b = some o:=fun b o e=>by rw [<- rJ]; exact Heap.get?_push_of_some _ e
 have hS:s1.heap.get? s.heap.objs.size = some { cls := .type "list",data := .seq #[] }:=by rw [<- rJ]; exact Heap.get?_push_size _ rfl
 have KG:s1.heap.IsItemsView r d:=let ⟨o,ho,x⟩ := hv; ⟨o,GW _ _ ho,x⟩
 have es1:∀ (h':Heap) (tk:Nat),({ s1 with heap:=h',toks:=tk }:Shared) = { s with heap:=h',toks:=tk }:=fun _ _=>by rw [<- rJ]
 show wpAny _ A.in1 (Builtin.List.listExtendWith (.ref s.heap.objs.size) (.ref r) (.ref s.heap.objs.size)) _ _ s1
 have fin : ∀ (h' : Heap) (tk : Nat) (acc : Array Value) (c : Nat) (as : List Addr), (∀ b o, s.heap.get? b = some o -> h'.get? b = some o) -> h'.get? s.heap.objs.size = some { cls := .type "list", dict := none, data := .seq acc c, slots := #[] } -> as.length = es.size -> Zs es s.heap.objs.size h' as -> acc.toList = as.map Value.ref ->
   wpAny (model P w) A (load s.heap.objs.size >>= fun o=>match o.data with | .seq xs _=>pure xs.toList | _=>unsupported "internal:collect") R E { s with heap:=h',toks:=tk }:=fun h' tk acc c as k1 k2 k3 k4 k5=>by
  refine wpAny_bind (wpAny_load k2 (wpAny_pure ?_))
  show R acc.toList _
  rw [k5]
  exact h h' tk as k1 k3 k4
 have key : ∀ (h : Heap) (c₁ tk : Nat) (R' : Result -> Shared -> Prop), (∀ b o, b ≠ s.heap.objs.size -> (s1.heap.push { cls := .type "dict_itemiterator", data := .fields #[.none, .bool false, .ref d, .int 0 0, .int es.size 0, .int ep 0, .none, .none] }).get? b = some o -> h.get? b = some o) ->
   h.get? s.heap.objs.size = some { cls := .type "list",data := .seq #[] c₁ } ->
   (∀ (h':Heap) (tk:Nat) (acc:Array Value) (c:Nat) (as:List Addr),(∀ b o,s.heap.get? b = some o -> h'.get? b = some o) -> h'.get? s.heap.objs.size = some { cls := .type "list",dict:=none,data := .seq acc c,slots := #[] } -> as.length = es.size -> Zs es s.heap.objs.size h' as -> acc.toList = as.map Value.ref -> R' (.ok (.ret (.ref s.heap.objs.size))) { s1 with heap:=h',toks:=tk }) ->
   codeAny (model P w) A (.builtin "list.extend.loop" ⟨[.ref s.heap.objs.size,.ref s1.heap.objs.size,.ref s.heap.objs.size],[]⟩) R' { s1 with heap:=h,toks:=tk }:=fun h c₁ tk R' hk gQ oY=>by
  have hI:=hk s1.heap.objs.size _ (by omega) (Heap.get?_push_size _ rfl)
  refine Z5 (s:=s1) (S:=s.heap.objs.size) (I:=s1.heap.objs.size) (h0:=s1.heap) hh aX (Nat.ne_of_lt hd) (Nat.ne_of_lt (Nat.lt_trans hd aX)) hn (.ref s.heap.objs.size) dC (fun h' tk' acc c as k1 k2 k3 k4 k5=>oY h' tk' acc c as (fun b o e=>?_) k2 k3 ⟨k4.rise,fun a ha=>?_,k4.at_⟩ k5)
   es.size 0 h tk c₁ #[] [] (Nat.sub_zero _) (Nat.zero_le _) (.inl ⟨rfl,.none,.none,hI⟩) (hk d od (Nat.ne_of_lt hd) (Heap.get?_push_of_some _ (GW d od fR))) (fun b o h1 _ e=>hk b o h1 (Heap.get?_push_of_some _ e)) gQ rfl rfl ⟨List.Pairwise.nil,(fun _ ha=>nomatch ha),(fun j a hj=>by simp at hj)⟩ (Heap.lt_size hI)
  ·have hb:=Heap.lt_size e
   exact k1 b o (Nat.ne_of_lt hb) (Nat.ne_of_lt (Nat.lt_trans hb aX)) (GW b o e)
  ·exact Nat.lt_trans aX (k4.above a ha)
 unfold Builtin.List.listExtendWith
 refine wpAny_bind (wpAny_typeOf (T := "dict_items") KG.typeIs ?_)
 have q1:Builtin.List.listSameRef (.ref s.heap.objs.size) (.ref r) = false:=by simp [Builtin.List.listSameRef,Nat.ne_of_gt hr]
 have q2:(Value.type "dict_items" == Value.type "list") = false:=by decide
 have q3:(Value.type "dict_items" == Value.type "tuple") = false:=by decide
 simp only [q1,q2,q3,Bool.or_false,Bool.false_eq_true,if_false]
 refine wpAny_bind (Sj KG (GW d od fR) dC ?_)
 have KH:=Heap.get?_push_of_some { cls := .type "dict_itemiterator",data := .fields #[.none,.bool false,.ref d,.int 0 0,.int es.size 0,.int ep 0,.none,.none] } hS
 refine wpAny_bind (wpAny_holding (PySem.W.kdx_hint (let ⟨o,ho,hc,_⟩ := KG; ⟨o,Heap.get?_push_of_some _ ho,hc⟩) ?_))
 refine wpAny_ite_split (fun _=>?_) (fun _=>wpAny_pure ⟨plainId_quiet F.plain_extend_loop _,key _ 0 s1.toks _ (fun b o _ e=>e) KH fun h' tk acc c as k1 k2 k3 k4 k5=>?_⟩)
 ·refine wpAny_bind (wpAny_rule (wpAny_bind ?_))
  show wpAny _ _ (updateSeq s.heap.objs.size (·.push .none) >>= fun _=>updateSeq s.heap.objs.size (·.pop)) _ _ _
  refine wpAny_bind (wpAny_updateSeq KH rfl ?_)
  have hS3:=Heap.get?_update_self (Obj.mapSeq (·.push Value.none)) KH rfl
  refine wpAny_updateSeq (hz:=by seq_fits) hS3 rfl ?_
  have hS4:=Heap.get?_update_self (Obj.mapSeq (·.pop)) hS3 rfl
  refine wpAny_pure ⟨plainId_quiet F.plain_extend_loop _,key _ _ s1.toks _ (fun b o hb e=>(Heap.get?_update_other _ _ (Ne.symm hb)).trans ((Heap.get?_update_other _ _ (Ne.symm hb)).trans e)) hS4 fun h' tk acc c as k1 k2 k3 k4 k5=>?_⟩
  rw [es1]
  exact fin h' tk acc c as k1 k2 k3 k4 k5
 ·rw [es1]
  exact fin h' tk acc c as k1 k2 k3 k4 k5
end
section
variable {prog:Program} {w:World} {E:Value -> Shared -> Prop}
theorem Re {A : Around} {s : Shared} {r : Value} {Q : Value -> Shared -> Prop} {C : List Value -> Heap -> Nat -> Prop} (uW : ∀ R : List Value -> Shared -> Prop, (∀ vs h1 t1, C vs h1 t1 -> R vs { s with heap := h1, toks := t1 }) -> wpAny (model prog w) A.in1 (collect r) R E s)
  (hC:∀ vs h1 t1,C vs h1 t1 -> vs.length <= sizeLine /\ ∃ (κ:SortKind) (g:Value -> Nat),
   (∀ (h6:Heap) (A':Around),A'.units <= A.units + 4 -> (∀ b o,h1.get? b = some o -> h6.get? b = some o) -> 2 <= vs.length -> (∀ Q E,Q κ { s with heap:=h6,toks:=t1 } -> wpAny (model prog w) A' (keyKind' vs.toArray) Q E { s with heap:=h6,toks:=t1 }) /\ Gm prog w A' { s with heap:=h6,toks:=t1 } κ (fun p=>g p.1) (vs.toArray.zip vs.toArray)) /\
   (∀ (out:Array Value) (h':Heap) (c:Nat),out.toList.Perm vs -> out.toList.Pairwise (fun x y=>g x <= g y) -> (∀ b o,h1.get? b = some o -> h'.get? b = some o) -> h'.get? h1.objs.size = some (seqObj "list" out c) -> Q (.ref h1.objs.size) { s with heap:=h',toks:=t1 })) :
  wpAny (model prog w) A (call (.builtin "sorted") [r]) Q E s:=by
 refine Calls.call_function_entry kind_sorted plain_sorted entry_sorted (args_sorted1 _) ?_
 unfold Builtin.«sorted»
 refine wpAny_bind (m:=checkCount "sorted" 1 1 _) (wpAny_pure (wpAny_bind (uW _ fun vs h1 t1 hc=>wpAny_bind (wpAny_newList ?_ (hC vs h1 t1 hc).1))))
 obtain ⟨hsz,κ,g,pX,h⟩ := hC vs h1 t1 hc
 have pL:(h1.push (seqObj "list" vs.toArray 0)).get? h1.objs.size = some (seqObj "list" vs.toArray 0):=Heap.get?_push_size _ rfl
 show wpAny _ _ _ _ _ { s with heap:=h1.push (seqObj "list" vs.toArray 0),toks:=t1 }
 refine wpAny_bind (wpAny_holding (wpAny_call_entry slot_list_sort ⟨_,pL,rfl⟩ entry_list_sort (P6 (κ:=κ) (g:=g) (s:={ s with heap:=h1.push (seqObj "list" vs.toArray 0),toks:=t1 }) pL hsz (fun h6 kp h2=>?_) fun out p1 p2=>⟨_,rfl,?_⟩) (args_list_sort _)))
 ·obtain ⟨k1,k2⟩ := pX h6 A.in1.in1 (show A.units + 1 + 1 <= A.units + 4 by omega) (fun b o e=>kp b o (Nat.ne_of_lt (Heap.lt_size e)) (Heap.get?_push_of_some _ e)) h2
  exact ⟨fun Q hq=>k1 Q _ hq,k2⟩
 ·obtain ⟨c,hc⟩ : ∃ c,(sortedHeap (h1.push (seqObj "list" vs.toArray 0)) h1.objs.size vs out).get? h1.objs.size = some (seqObj "list" out c):=sortedHeap_at pL
  refine wpAny_pure ⟨_,rfl,h out _ c p1 p2 (fun b o e=>?_) hc⟩
  rw [sortedHeap_old (Nat.ne_of_lt (Heap.lt_size e)) (by rw [size_push']; exact Nat.lt_succ_of_lt (Heap.lt_size e))]
  exact Heap.get?_push_of_some _ e
end
section
variable {X:Cx} {k:Nat} {pins:List (Addr × Obj)} {σ:St} {H H':Hp} {s:Shared} {h':Heap}
theorem Ae.lY {t':Nat} (I:Ae X pins σ H s) (kp:∀ b u,s.heap.get? b = some u -> h'.get? b = some u) (old:∀ b,b < s.heap.objs.size -> H' b = H b) (new:∀ b o,s.heap.objs.size <= b -> H' b = some o -> Bg X.prog X.w H' h' b o):Ae X pins σ H' { s with heap:=h',toks:=t' }:=by
 have up:∀ b o,H b = some o -> H' b = some o:=fun b o e=>by rw [old b (I.aR.lt e)]; exact e
 refine I.un ⟨fun b u q _ _ _=>kp b u q,fun b u q _ _ _=>⟨u.slots,kp b u q⟩,fun b u q n _=>by rw [old b (Heap.lt_size q)]; exact n,fun b u q _=>⟨u,kp b u q⟩,fun b xs q=>up b _ q,fun b u xs q=>up b _ q,fun b ps q=>⟨#[],by rw [up b _ q]; simp⟩⟩ fun b u e=>?_
 by_cases hb:b < s.heap.objs.size
 ·rw [old b hb] at e
  exact (I.aR b u e).cZ (fun c v _ q=>kp c v q) (fun c q=>up c _ q) fun c xs q=>up c _ q
 ·exact new b u (Nat.le_of_not_lt hb) e
def Pm (v D:Addr):HO := .ext fun h=>h.IsItemsView v D
def Xm:V -> List V -> Hp -> VK -> Prop:=fun x vs H Q=>∃ D kvs,x = .ref D /\ vs = [] /\ H D = some (.dT kvs) /\ ∀ v,H v = none -> Q (.ref v) (upd H v (Pm v D))
theorem Ue:ij X "dict.items" Xm:=by
 intro pins s σ H x vs v us Q I rx rv h
 obtain ⟨D,kvs,rfl,rfl,hD,q⟩ := h
 cases rx
 have iO:=rv.zero
 subst iO
 obtain ⟨hz,hsm,ys,pr,o,es,ep,ho,hex,hd,he,zc⟩ := (show Bg X.prog X.w H s.heap D (.dT kvs) from I.aR D _ hD)
 have eU:H s.heap.objs.size = none:=I.aR.fresh (Nat.le_refl _)
 have hv:(s.heap.push { cls := .type "dict_items",data := .fields #[.ref D] }).get? s.heap.objs.size = some { cls := .type "dict_items",data := .fields #[.ref D] }:=Heap.get?_push_size _ rfl
 have new:Bg X.prog X.w (upd H s.heap.objs.size (Pm s.heap.objs.size D)) (s.heap.push { cls := .type "dict_items",data := .fields #[.ref D] }) s.heap.objs.size (Pm s.heap.objs.size D):=⟨⟨_,hv,rfl,rfl⟩,⟨_,hv⟩,fun h1 h2 ⟨o,a1,a2⟩ k=>⟨o,k _ a1,a2⟩⟩
 exact Py hsm ho hex ⟨.ref s.heap.objs.size,_,I.laid (t':=s.toks) (fun b u z=>Heap.get?_push_of_some _ z) (Nat.le_refl _) new,rfl,q _ eU⟩
def fj (k:(List Int × Int)):PyData := .tuple [.tuple (k.1.map PyData.int),.int k.2]
mutual
theorem Zk {H H':Hp} (sm:A9 H H'):∀ (d:PyData) (v:V),Rp H d v -> Rp H' d v
 | .none,v,h=>h
 | .bool _,v,h=>h
 | .int _,v,h=>h
 | .str _,v,h=>h
 | .dict _,v,h=>h
 | .tuple ds,v,h=>by
  unfold Rp at h ⊢
  obtain ⟨a,xs,e,h1,h2⟩ := h
  exact ⟨a,xs,e,sm _ _ h1,jD sm ds xs h2⟩
 | .list ds,v,h=>by
  unfold Rp at h ⊢
  obtain ⟨a,xs,e,h1,h2⟩ := h
  exact ⟨a,xs,e,sm _ _ h1,jD sm ds xs h2⟩
theorem jD {H H':Hp} (sm:A9 H H'):∀ (ds:List PyData) (vs:List V),aM H ds vs -> aM H' ds vs
 | [],vs,h=>by
  unfold aM at h ⊢
  exact h
 | d :: ds,vs,h=>by
  unfold aM at h ⊢
  obtain ⟨x,xs,e,h1,h2⟩ := h
  exact ⟨x,xs,e,Zk sm d x h1,jD sm ds xs h2⟩
end
theorem Na {H:Hp}:∀ xs:List Int,aM H (xs.map PyData.int) (xs.map V.int)
 | []=>by unfold aM; rfl
 | x :: xs=>by
  show aM H (PyData.int x :: xs.map PyData.int) (V.int x :: xs.map V.int)
  unfold aM
  exact ⟨_,_,rfl,by unfold Rp; rfl,Na xs⟩
theorem X2 {H:Hp} {b:Addr} {k:(List Int × Int)} (h:F4 H b k):Rp H (fj k) (.ref b):=by
 obtain ⟨u,h1,h2⟩ := h
 unfold fj Rp
 refine ⟨b,_,rfl,h1,?_⟩
 unfold aM
 refine ⟨_,_,rfl,?_,?_⟩
 ·unfold Rp
  exact ⟨u,_,rfl,h2,Na _⟩
 ·unfold aM
  refine ⟨_,_,rfl,by unfold Rp; rfl,?_⟩
  unfold aM
  rfl
def Qk (H:Hp) (kv:(List Int × Int) × V) (u:V):Prop := ∃ a b,u = .ref a /\ H a = some (.tup [.ref b,kv.2]) /\ F4 H b kv.1
def Dh (dv:(List Int × Int) × V -> PyData) (kv:(List Int × Int) × V):PyData := .tuple [fj kv.1,dv kv]
def fg:List V -> Hp -> VK -> Prop:=fun xs H Q=>∃ (v D:Addr) (kvs:List ((List Int × Int) × V)) (dv:(List Int × Int) × V -> PyData) (g:(List Int × Int) × V -> Nat),xs = [.ref v] /\ H v = some (Pm v D) /\ H D = some (.dT kvs) /\ (∀ kv ∈ kvs,Rp H (dv kv) kv.2 /\ (dv kv).depth <= 40) /\
 (∀ a ∈ kvs,∀ b ∈ kvs,Yl (Dh dv a) (Dh dv b) /\ Gc (Dh dv a) (Dh dv b) = decide (g a < g b)) /\
 ∀ (p:Addr) (us:List V) (ps:List ((List Int × Int) × V)) (H':Hp),A9 H H' -> H p = none -> H' p = some (.lst us) -> ps.Perm kvs -> ps.Pairwise (fun x y=>g x <= g y) -> Paired (Qk H') ps us -> Q (.ref p) H'
theorem W5 {as:List Addr} (h:as.Nodup) {j:Nat} {a:Addr} (e:as[j]? = some a):as.idxOf a = j:=by
 obtain ⟨h1,e1⟩ := List.getElem?_eq_some_iff.mp e
 rw [<- e1]
 exact List.Nodup.idxOf_getElem h j h1
theorem Rv (hr:C0 k X.A) (hc:X.calm = true):El X (.builtin "sorted") fg:=by
 intro pins s σ H xs us Q I r h
 obtain ⟨v,D,kvs,dv,g,rfl,hv,hD,hdv,KI,q⟩ := h
 obtain ⟨u,rfl,ru⟩ := r.one
 cases ru
 obtain ⟨zU,_⟩ := I.aR v _ hv
 obtain ⟨hz,hsm,ys,pr,o,es,ep,ho,hex,hd,pR,zc⟩ := (show Bg X.prog X.w H s.heap D (.dT kvs) from I.aR D _ hD)
 have zV:kvs.length = ys.length:=pr.length
 have lE:es.size = ys.length:=size_of_entries pR
 have hu:=hr.un
 refine Re (C:=fun vs h1 t1=>∃ as:List Addr,vs = as.map Value.ref /\ (∀ b o,s.heap.get? b = some o -> h1.get? b = some o) /\ as.length = es.size /\ Zs es s.heap.objs.size h1 as) (fun R hR=>R6 (I.ok.hd hc) zU ho hd (by omega) fun h1 t1 as k1 k2 k3=>hR _ h1 t1 ⟨as,rfl,k1,k2,k3⟩) ?_
 rintro vs h1 t1 ⟨as,rfl,k1,k2,k3⟩
 have zW:as.Nodup:=k3.rise.imp fun h=>Nat.ne_of_lt h
 have zq:∀ a ∈ as,s.heap.objs.size <= a:=fun a ha=>Nat.le_of_lt (k3.above a ha)
 have kJ:∀ a ∈ as,∃ (j:Nat) (kv:(List Int × Int) × V) (y:(List Int × Int) × Addr × Value),as.idxOf a = j /\ kvs[j]? = some kv /\ ys[j]? = some y /\ kv.1 = y.1 /\ F4 H y.2.1 kv.1 /\ Ao kv.2 y.2.2 /\ h1.get? a = some { cls := .type "tuple",data := .seq #[.ref y.2.1,y.2.2] }:=fun a ha=>by
  obtain ⟨j,hj⟩ := List.mem_iff_getElem?.mp ha
  obtain ⟨en,e1,e2⟩ := k3.at_ j a hj
  have uY:=(List.getElem?_eq_some_iff.mp hj).1
  obtain ⟨kv,y,f1,f2,f3,f4,f5⟩ := En pr (i:=j) (by omega)
  have e3:=entry_at pR j
  rw [f2,e1] at e3
  have e4:en = entryOfKey (C7 X.prog X.w) y:=Option.some.inj e3
  rw [e4] at e2
  exact ⟨j,kv,y,W5 zW hj,f1,f2,f3,f4,f5,e2⟩
 let gZ:V -> (List Int × Int) × V:=fun u=>match u with
  | .ref a=>kvs.getD (as.idxOf a) (([],0),.aW)
  | _=>(([],0),.aW)
 let zd:Addr -> Addr:=fun a=>match ys[as.idxOf a]? with
  | some y=>y.2.1
  | none=>0
 have aS:∀ a ∈ as,∃ y:(List Int × Int) × Addr × Value,gZ (.ref a) ∈ kvs /\ zd a = y.2.1 /\ F4 H y.2.1 (gZ (.ref a)).1 /\ Ao (gZ (.ref a)).2 y.2.2 /\ h1.get? a = some { cls := .type "tuple",data := .seq #[.ref y.2.1,y.2.2] }:=fun a ha=>by
  obtain ⟨j,kv,y,f0,f1,f2,f3,f4,f5,f6⟩ := kJ a ha
  have e1:gZ (.ref a) = kv:=by
   show kvs.getD (as.idxOf a) _ = kv
   rw [f0,List.getD_eq_getElem?_getD,f1]
   rfl
  have e2:zd a = y.2.1:=by
   show (match ys[as.idxOf a]? with | some y=>y.2.1 | none=>0) = _
   rw [f0,f2]
  rw [e1]
  exact ⟨y,List.mem_of_getElem? f1,e2,f4,f5,f6⟩
 let H1:Hp:=fun b=>if b ∈ as then some (.tup [.ref (zd b),(gZ (.ref b)).2]) else H b
 have H1n:∀ b,b ∉ as -> H1 b = H b:=fun b hb=>by show (if b ∈ as then _ else H b) = _; rw [if_neg hb]
 have KJ:∀ a,a ∈ as -> H1 a = some (.tup [.ref (zd a),(gZ (.ref a)).2]):=fun a ha=>by show (if a ∈ as then _ else H a) = _; rw [if_pos ha]
 have old:∀ b,b < s.heap.objs.size -> H1 b = H b:=fun b hb=>H1n b fun z=>Nat.lt_irrefl _ (Nat.lt_of_lt_of_le hb (zq b z))
 have sm:A9 H H1:=fun b o e=>by rw [old b (I.aR.lt e)]; exact e
 have I1:Ae X pins σ H1 { s with heap:=h1,toks:=t1 }:=I.lY k1 old fun b o hb e=>by
  by_cases z:b ∈ as
  ·rw [KJ b z] at e
   cases e
   obtain ⟨y,y1,y2,y3,y4,y5⟩ := aS b z
   rw [y2]
   exact ⟨⟨Nat.le_trans (by decide:2 <= 1000) (Hi (Nat.le_refl _)),_,y5,rfl⟩,[.ref y.2.1,y.2.2],.cons rfl (.cons y4 .nil),⟨_,y5,rfl,0,rfl⟩⟩
  ·rw [H1n b z,I.aR.fresh hb] at e
   cases e
 have iO:(as.map V.ref).map gZ = kvs:=by
  apply List.ext_getElem?
  intro j
  rw [List.map_map,List.getElem?_map]
  cases hj:as[j]? with
  | none =>
   have:=List.getElem?_eq_none_iff.mp hj
   rw [List.getElem?_eq_none (by omega)]
   rfl
  | some a =>
   have uY:=(List.getElem?_eq_some_iff.mp hj).1
   show some (kvs.getD (as.idxOf a) _) = _
   rw [W5 zW hj,List.getD_eq_getElem?_getD,List.getElem?_eq_getElem (by omega)]
   rfl
 have sD:Ml H1 false (fun u=>Dh dv (gZ u)) (fun u=>g (gZ u)) (as.map V.ref):=by
  refine ⟨fun u hu=>?_,fun u hu u' HY=>?_⟩
  ·obtain ⟨a,ha,rfl⟩ := List.mem_map.mp hu
   obtain ⟨y,y1,y2,y3,y4,y5⟩ := aS a ha
   obtain ⟨d1,d2⟩ := hdv _ y1
   refine ⟨?_,⟨fj (gZ (.ref a)).1,[dv (gZ (.ref a))],rfl,by rw [if_neg (by decide)]; exact ⟨_,rfl⟩⟩,?_⟩
   ·unfold Dh Rp
    refine ⟨a,_,rfl,KJ a ha,?_⟩
    unfold aM
    refine ⟨_,_,rfl,X2 (by rw [y2]; exact y3.up fun b xs e=>sm b _ e),?_⟩
    unfold aM
    refine ⟨_,_,rfl,Zk sm _ _ d1,?_⟩
    unfold aM
    rfl
   ·show (PyData.tuple [fj (gZ (.ref a)).1,dv (gZ (.ref a))]).depth <= 50
    simp only [PyData.depth,PyData.depthAll,fj]
    have hints:∀ l:List Int,PyData.depthAll (l.map PyData.int) = 0:=by
     intro l
     induction l with
     | nil=>rfl
     | cons x l ih=>simp only [List.map_cons,PyData.depthAll,PyData.depth,ih]; rfl
    rw [hints]
    omega
  ·obtain ⟨a,ha,rfl⟩ := List.mem_map.mp hu
   obtain ⟨a',zb,rfl⟩ := List.mem_map.mp HY
   obtain ⟨_,y1,_⟩ := aS a ha
   obtain ⟨_,z1,_⟩ := aS a' zb
   exact KI _ y1 _ z1
 refine ⟨by rw [List.length_map]; omega,PyProof.Rows.tuples' false,fun v=>g (gZ (.ref (Lh v))),fun h6 A' hA' k6 h2=>?_,fun out h' c p1 p2 k' e'=>?_⟩
 ·have I6:Ae X pins σ H1 { s with heap:=h6,toks:=t1 }:=I1.kept (t':=t1) k6
  rw [List.length_map] at h2
  exact sD.asks (E:=fun _ _=>True) I6 rfl rfl (by omega) h2
 ·obtain ⟨gF,v1,v2,v3⟩ := Mf (g:=fun u=>g (gZ u)) p1 p2
  have eU:H1 h1.objs.size = none:=I1.aR.fresh (Nat.le_refl _)
  refine ⟨.ref _,upd H1 _ (.lst gF),I1.laid (t':=t1) k' (Nat.le_refl _) ⟨by rw [v2.length_eq,List.length_map]; omega,out.toList,c,v1,e'⟩,rfl,q _ gF (gF.map gZ) _ (fun b o e=>?_) ?_ A5 ?_ ?_ ?_⟩
  ·rw [Aa (Aj (sm b o e) eU)]
   exact sm b o e
  ·cases e:H h1.objs.size with
   | none=>rfl
   | some o=>rw [sm _ _ e] at eU; cases eU
  ·have:=v2.map gZ
   rw [iO] at this
   exact this
  ·rw [List.pairwise_map]
   exact v3
  ·have key : ∀ l : List V, (∀ u ∈ l, ∃ a ∈ as, u = .ref a) -> Paired (Qk (upd H1 h1.objs.size (.lst gF))) (l.map gZ) l := by
    intro l
    induction l with
    | nil=>exact fun _=>.nil
    | cons u l ih =>
     intro hl
     refine .cons ?_ (ih fun u hu=>hl u (List.mem_cons_of_mem _ hu))
     obtain ⟨a,ha,rfl⟩ := hl u List.mem_cons_self
     obtain ⟨y,y1,y2,y3,y4,y5⟩ := aS a ha
     have up:∀ b xs,H1 b = some (.tup xs) -> upd H1 h1.objs.size (.lst gF) b = some (.tup xs):=fun b xs e=>by rw [Aa (Aj e eU)]; exact e
     exact ⟨a,zd a,rfl,up _ _ (KJ a ha),(y2 ▸ y3.up fun b xs e=>sm b _ e:F4 H1 (zd a) _).up up⟩
   refine key gF fun u hu=>?_
   obtain ⟨a,ha,e⟩ := List.mem_map.mp (v2.mem_iff.mp hu)
   exact ⟨a,ha,e.symm⟩
end
end L2
namespace Law
local macro_rules | `(tactic| ac_rfl) => `(tactic| first | exact ⟨rfl,rfl,rfl,by decide +kernel,rfl,by decide +kernel,by decide +kernel⟩ | exact ⟨rfl,by decide +kernel,by decide +kernel,by decide +kernel,by decide +kernel⟩)
local macro_rules | `(tactic| omega) => `(tactic| lia)
open PySem L2 PyProof.Rows
open PySem.Builtin.Int (intBits)
def top (i:Nat):Stmt:=PySem.Challenge.pw_roundcall_k39_too_many_for_papers.main.body.getD i (.Pass ⟨0,0,0,0⟩)
abbrev N7:Stmt:=top 15
abbrev Nb:Stmt:=top 16
abbrev Uz:Stmt:=top 17
abbrev Uv:Stmt:=top 18
abbrev Qz:Stmt:=top 19
abbrev To:Stmt:=top 20
abbrev Ez:Stmt:=top 21
abbrev Mi:Stmt:=top 22
abbrev Tv:Stmt:=top 23
abbrev Lr:Stmt:=top 24
abbrev Kq:Stmt:=top 25
abbrev L4:Stmt:=top 26
abbrev Tk:Stmt:=top 28
abbrev Mn:Stmt:=top 29
abbrev Uf:Stmt:=top 30
abbrev Kf:Stmt:=top 31
abbrev Mp:Stmt:=top 32
abbrev L7:Stmt:=top 33
abbrev Km:Stmt:=top 34
abbrev Tp:Stmt:=top 35
abbrev Me:Stmt:=top 37
abbrev Kh:Stmt:=top 38
abbrev Ou:Stmt:=top 39
abbrev Rj:Stmt:=top 40
abbrev Mj:Stmt:=top 42
abbrev N1:Stmt:=top 43
abbrev L9:Stmt:=top 44
abbrev Gf:Stmt:=top 45
theorem d6:Aq (["hall"]:List Str) ["hall"] (A6 N7):=by ac_rfl
theorem dl:Aq (["hall","standing"]:List Str) ["hall","standing"] (A6 Nb):=by ac_rfl
theorem ii:Aq (["hall","who"]:List Str) ["hall","who"] (A6 Uz):=by ac_rfl
theorem ik:Aq (["hall","standing","who","lost"]:List Str) ["hall","standing","who","lost"] (A6 Uv):=by ac_rfl
theorem Zg:Aq (["hall","standing","who","lost","left"]:List Str) ["hall","standing","who","lost"] (A6 Qz):=by ac_rfl
def Hv:Scope:={ kind := .function,names:=[(PySem.Str.ofString ".0",NameKind.local),(PySem.Str.ofString "turns",NameKind.local)],isGenerator:=false,isCoroutine:=false,more:=[] }
theorem Ik:Cl (A6 Qz) Hv (["hall","standing","who","lost","left"]:List Str) (["turns"]:List Str) []:=by ac_rfl
theorem Hx:(Bd (["hall","standing","who","lost","left"]:List Str) (["turns"]:List Str) []).Nodup:=by decide +kernel
theorem gy:Aq (["hall","standing","lost"]:List Str) ["hall","standing","lost"] (A6 To):=by ac_rfl
theorem Wg:Aq (["hall","standing","who","lost","left"]:List Str) ["hall","standing","who","lost"] (A6 Ez):=by ac_rfl
theorem X3:Aq (["hall","standing","who","behind"]:List Str) ["hall","standing","who"] (A6 Mi):=by ac_rfl
theorem gk:Aq (["hall"]:List Str) ["hall"] (A6 Tv):=by ac_rfl
theorem Nx:Aq (["hall","product","wait"]:List Str) ["hall"] (A6 Lr):=by ac_rfl
theorem Iu:Aq (["waits","rows","wait","longer","row"]:List Str) ["waits"] (A6 Kq):=by ac_rfl
def Ln:Scope:={ kind := .function,names:=[(PySem.Str.ofString ".0",NameKind.local),(PySem.Str.ofString "turns",NameKind.local),(PySem.Str.ofString "row",NameKind.free)],isGenerator:=false,isCoroutine:=false,more:=[] }
theorem Le:Cl (A6 Kq) Ln (["waits","rows","wait","longer","row"]:List Str) (["turns"]:List Str) [4]:=by ac_rfl
theorem Lj:(Bd (["waits","rows","wait","longer","row"]:List Str) (["turns"]:List Str) [4]).Nodup:=by decide +kernel
theorem S3:Aq (["hall","told","left"]:List Str) ["hall"] (A6 L4):=by ac_rfl
def Kw:Scope:={ kind := .function,names:=[(PySem.Str.ofString ".0",NameKind.local),(PySem.Str.ofString "quiet",NameKind.local),(PySem.Str.ofString "left",NameKind.free)],isGenerator:=false,isCoroutine:=false,more:=[] }
theorem Lc:Cl (A6 L4) Kw (["hall","told","left"]:List Str) (["quiet"]:List Str) [2]:=by ac_rfl
theorem L8:(Bd (["hall","told","left"]:List Str) (["quiet"]:List Str) [2]).Nodup:=by decide +kernel
theorem Mm:Aq (["hall","pending","standing","calls","who","behind"]:List Str) ["hall"] (A6 Tk):=by ac_rfl
theorem Gi:Aq (["pending","ways","standing","calls","who","behind","later"]:List Str) ["pending"] (A6 Mn):=by ac_rfl
theorem N4:Aq (["pending","ways","ranked","bare","later","standing","who","calls"]:List Str) ["pending","ways","ranked"] (A6 Uf):=by ac_rfl
theorem Ev:Aq (["hall","pending","ways","table","rank","ranked","standing"]:List Str) ["hall"] (A6 Kf):=by ac_rfl
def S2:Scope:={ kind := .function,names:=[(PySem.Str.ofString ".0",NameKind.local),(PySem.Str.ofString "standing",NameKind.local),(PySem.Str.ofString "calls",NameKind.local)],isGenerator:=false,isCoroutine:=false,more:=[] }
theorem Rb:Cl (A6 Kf) S2 (["hall","pending","ways","table","rank","ranked","standing"]:List Str) (["standing","calls"]:List Str) []:=by ac_rfl
theorem Ju:(Bd (["hall","pending","ways","table","rank","ranked","standing"]:List Str) (["standing","calls"]:List Str) []).Nodup:=by decide +kernel
theorem br:Aq (["table","behind"]:List Str) ["table","behind"] (A6 Mp):=by ac_rfl
theorem ap:Aq (["hall","table","standing","who"]:List Str) ["hall","table","standing","who"] (A6 L7):=by ac_rfl
def Jd:Scope:={ kind := .function,names:=[(PySem.Str.ofString ".0",NameKind.local),(PySem.Str.ofString "behind",NameKind.local),(PySem.Str.ofString "worth",NameKind.globalImplicit),(PySem.Str.ofString "table",NameKind.free)],isGenerator:=false,isCoroutine:=false,more:=[] }
theorem Jc:Cl (A6 L7) Jd (["hall","table","standing","who"]:List Str) (["behind"]:List Str) [1]:=by ac_rfl
theorem Je:(Bd (["hall","table","standing","who"]:List Str) (["behind"]:List Str) [1]).Nodup:=by decide +kernel
theorem Ws:Aq (["hall","table","standing","worths"]:List Str) ["hall","table","standing"] (A6 Km):=by ac_rfl
def K6:Scope:={ kind := .function,names:=[(PySem.Str.ofString ".0",NameKind.local),(PySem.Str.ofString "who",NameKind.local),(PySem.Str.ofString "call_worth",NameKind.globalImplicit),(PySem.Str.ofString "hall",NameKind.free),(PySem.Str.ofString "standing",NameKind.free),(PySem.Str.ofString "table",NameKind.free)],isGenerator:=false,isCoroutine:=false,more:=[] }
theorem Ko:Cl (A6 Km) K6 (["hall","table","standing","worths"]:List Str) (["who"]:List Str) [0,1,2]:=by ac_rfl
theorem Jx:(Bd (["hall","table","standing","worths"]:List Str) (["who"]:List Str) [0,1,2]).Nodup:=by decide +kernel
theorem Zr:Aq (["hall","table","standing","who","reached"]:List Str) ["hall","table","standing","who"] (A6 Tp):=by ac_rfl
theorem K1:Aq (["hall","table","calls","coming","standing"]:List Str) ["hall"] (A6 Me):=by ac_rfl
theorem ar:Aq (["hall","table","standing"]:List Str) ["hall","table","standing"] (A6 Kh):=by ac_rfl
def Ia:Scope:={ kind := .function,names:=[(PySem.Str.ofString ".0",NameKind.local),(PySem.Str.ofString "who",NameKind.local),(PySem.Str.ofString "worst_answer",NameKind.globalImplicit),(PySem.Str.ofString "hall",NameKind.free),(PySem.Str.ofString "standing",NameKind.free),(PySem.Str.ofString "table",NameKind.free)],isGenerator:=false,isCoroutine:=false,more:=[] }
theorem Id:Cl (A6 Kh) Ia (["hall","table","standing"]:List Str) (["who"]:List Str) [0,1,2]:=by ac_rfl
theorem Iq:(Bd (["hall","table","standing"]:List Str) (["who"]:List Str) [0,1,2]).Nodup:=by decide +kernel
theorem Zq:Aq (["hall","standing","answers","behind"]:List Str) ["hall","standing","answers"] (A6 Ou):=by ac_rfl
def F9:Scope:={ kind := .function,names:=[(PySem.Str.ofString ".0",NameKind.local),(PySem.Str.ofString "who",NameKind.local),(PySem.Str.ofString "lost",NameKind.local),(PySem.Str.ofString "after",NameKind.globalImplicit),(PySem.Str.ofString "hall",NameKind.free),(PySem.Str.ofString "standing",NameKind.free)],isGenerator:=false,isCoroutine:=false,more:=[] }
theorem Fh:Cl (A6 Ou) F9 (["hall","standing","answers","behind"]:List Str) (["who","lost"]:List Str) [0,1]:=by ac_rfl
theorem D7:(Bd (["hall","standing","answers","behind"]:List Str) (["who","lost"]:List Str) [0,1]).Nodup:=by decide +kernel
def Fp:Scope:={ kind := .function,names:=[(PySem.Str.ofString ".0",NameKind.local),(PySem.Str.ofString "later",NameKind.local)],isGenerator:=false,isCoroutine:=false,more:=[] }
theorem Fl:Cl (A6 Ou) Fp (["hall","standing","answers","behind"]:List Str) (["later"]:List Str) []:=by ac_rfl
theorem Fo:(Bd (["hall","standing","answers","behind"]:List Str) (["later"]:List Str) []).Nodup:=by decide +kernel
theorem Q4:Aq (["hall","table","told","coming","standing"]:List Str) ["hall"] (A6 Rj):=by ac_rfl
def Hg:Scope:={ kind := .function,names:=[(PySem.Str.ofString ".0",NameKind.local),(PySem.Str.ofString "standing",NameKind.local),(PySem.Str.ofString "answers",NameKind.local),(PySem.Str.ofString "table",NameKind.free)],isGenerator:=false,isCoroutine:=false,more:=[] }
theorem Gz:Cl (A6 Rj) Hg (["hall","table","told","coming","standing"]:List Str) (["standing","answers"]:List Str) [1]:=by ac_rfl
theorem Dw:(Bd (["hall","table","told","coming","standing"]:List Str) (["standing","answers"]:List Str) [1]).Nodup:=by decide +kernel
theorem et:Aq (["script","k"]:List Str) ["script","k"] (A6 Mj):=by ac_rfl
theorem Og:Aq (["hall","kept","good","e"]:List Str) ["hall","kept"] (A6 N1):=by ac_rfl
theorem Es:Aq (["script","waits","calm","many","wait","at"]:List Str) ["script"] (A6 L9):=by ac_rfl
def K8:Scope:={ kind := .function,names:=[(PySem.Str.ofString ".0",NameKind.local),(PySem.Str.ofString "one",NameKind.local)],isGenerator:=false,isCoroutine:=false,more:=[] }
theorem Jr:Cl (A6 L9) K8 (["script","waits","calm","many","wait","at"]:List Str) (["one"]:List Str) []:=by ac_rfl
theorem Jq:(Bd (["script","waits","calm","many","wait","at"]:List Str) (["one"]:List Str) []).Nodup:=by decide +kernel
theorem Fa:Aq (["script","hall","calm","wait","due"]:List Str) ["script"] (A6 Gf):=by ac_rfl
def Vq:Scope:={ kind := .function,names:=[(PySem.Str.ofString ".0",NameKind.local),(PySem.Str.ofString "quiet",NameKind.local),(PySem.Str.ofString "wait",NameKind.free)],isGenerator:=false,isCoroutine:=false,more:=[] }
theorem V7:Cl (A6 Gf) Vq (["script","hall","calm","wait","due"]:List Str) (["quiet"]:List Str) [3]:=by ac_rfl
theorem Wk:(Bd (["script","hall","calm","wait","due"]:List Str) (["quiet"]:List Str) [3]).Nodup:=by decide +kernel
set_option genInjectivity false in
set_option genSizeOf false in
structure pz where
 bX:Addr
 bS:Addr
 fT:Addr
 fU:Addr
 fV:Addr
 fW:Addr
 bO:Addr
 bT:Addr
 fD:Addr
 cK:Addr
 cL:Addr
 cM:Addr
 fX:Addr
 cN:Addr
 fY:Addr
 bZ:Addr
 cA:Addr
 cO:Addr
 cP:Addr
 fZ:Addr
 cB:Addr
 cQ:Addr
 gA:Addr
 fE:Addr
 cC:Addr
 cR:Addr
 cS:Addr
 eK:Addr
structure Txt (K:PySem.W.Frag) (mg:Str -> Option Value) (ad:pz) (aA aD aI aB aJ aK aO aE aF aG aL aC:Addr):Prop where
 jV:mg "beginning" = some (.ref ad.bX)
 k_x15:PySem.W.keepIn K (.ref ad.bX) = true
 lZ:mg "may_lose" = some (.ref ad.bS)
 k_x19:PySem.W.keepIn K (.ref ad.bS) = true
 KL:mg "is_listener" = some (.ref ad.fT)
 k_x8:PySem.W.keepIn K (.ref ad.fT) = true
 KN:mg "refuse_wrong_turn" = some (.ref ad.fU)
 k_x1:PySem.W.keepIn K (.ref ad.fU) = true
 KO:mg "left_behind" = some (.ref ad.fV)
 k_x9:PySem.W.keepIn K (.ref ad.fV) = true
 KP:mg "quiet_behind" = some (.ref ad.fW)
 k_x4:PySem.W.keepIn K (.ref ad.fW) = true
 iH:mg "after" = some (.ref ad.bO)
 k_x24:PySem.W.keepIn K (.ref ad.bO) = true
 mB:mg "all_behind" = some (.ref ad.bT)
 k_x12:PySem.W.keepIn K (.ref ad.bT) = true
 zX:mg "quiet_values" = some (.ref ad.fD)
 k_x5:PySem.W.keepIn K (.ref ad.fD) = true
 zY:mg "how_many" = some (.ref ad.cK)
 k_x20:PySem.W.keepIn K (.ref ad.cK) = true
 zZ:mg "all_left" = some (.ref ad.cL)
 k_x21:PySem.W.keepIn K (.ref ad.cL) = true
 AA:mg "standings" = some (.ref ad.cM)
 k_x16:PySem.W.keepIn K (.ref ad.cM) = true
 KQ:mg "calls_by_standing" = some (.ref ad.fX)
 k_x2:PySem.W.keepIn K (.ref ad.fX) = true
 AB:mg "ways_to" = some (.ref ad.cN)
 k_x23:PySem.W.keepIn K (.ref ad.cN) = true
 KR:mg "without_calls_left" = some (.ref ad.fY)
 k_x0:PySem.W.keepIn K (.ref ad.fY) = true
 rK:mg "ranks" = some (.ref ad.bZ)
 k_x25:PySem.W.keepIn K (.ref ad.bZ) = true
 mC:mg "worth" = some (.ref ad.cA)
 k_x26:PySem.W.keepIn K (.ref ad.cA) = true
 AD:mg "call_worth" = some (.ref ad.cO)
 k_x13:PySem.W.keepIn K (.ref ad.cO) = true
 AE:mg "best_call" = some (.ref ad.cP)
 k_x17:PySem.W.keepIn K (.ref ad.cP) = true
 KS:mg "worst_answer" = some (.ref ad.fZ)
 k_x6:PySem.W.keepIn K (.ref ad.fZ) = true
 rL:mg "kept_paper" = some (.ref ad.cB)
 k_x14:PySem.W.keepIn K (.ref ad.cB) = true
 AF:mg "all_answers" = some (.ref ad.cQ)
 k_x10:PySem.W.keepIn K (.ref ad.cQ) = true
 KU:mg "unbroken_behind" = some (.ref ad.gA)
 k_x3:PySem.W.keepIn K (.ref ad.gA) = true
 AG:mg "broken_paper" = some (.ref ad.fE)
 k_x7:PySem.W.keepIn K (.ref ad.fE) = true
 dE:mg "_law_cell" = some (.ref ad.cC)
 k_x22:PySem.W.keepIn K (.ref ad.cC) = true
 rM:mg "_law_refused" = some (.ref ad.cR)
 k_x11:PySem.W.keepIn K (.ref ad.cR) = true
 AH:mg "_law_grown" = some (.ref ad.cS)
 k_x18:PySem.W.keepIn K (.ref ad.cS) = true
 m_law:mg "law" = some (.ref ad.eK)
 k_law:PySem.W.keepIn K (.ref ad.eK) = true
 fF:mg "len" = none
 rN:mg "max" = none
 gR:mg "tuple" = none
 cJ:mg "range" = none
 AI:mg "min" = none
 iI:mg "sorted" = none
 iJ:mg "enumerate" = none
 gS:mg "ValueError" = none
 dG:mg "isinstance" = none
 AJ:mg "int" = none
 eA:∃ t,mg "MOST_STANDINGS" = some (.int 3000 t)
 gI:mg "TooMany" = some (.ref aA)
 kO:mg "NoChain" = some (.ref aD)
 mD:mg "NoHall" = some (.ref aI)
 gT:mg "NoListener" = some (.ref aB)
 mE:mg "NoLoss" = some (.ref aJ)
 mF:mg "NoPart" = some (.ref aK)
 pZ:mg "NoRow" = some (.ref aO)
 kP:mg "NoStand" = some (.ref aE)
 kQ:mg "NoWheel" = some (.ref aF)
 kR:mg "TooMuch" = some (.ref aG)
 mG:mg "Unsafe" = some (.ref aL)
 gU:mg "RoundError" = some (.ref aC)
 e_TooMany:Y2 K aA
 b_NoChain:PySem.W.subIn K (.ref aD) (.type "BaseException") = some true
 s_TooMany_NoChain:PySem.W.subIn K (.ref aA) (.ref aD) = some false
 b_NoHall:PySem.W.subIn K (.ref aI) (.type "BaseException") = some true
 s_TooMany_NoHall:PySem.W.subIn K (.ref aA) (.ref aI) = some false
 b_NoListener:PySem.W.subIn K (.ref aB) (.type "BaseException") = some true
 s_TooMany_NoListener:PySem.W.subIn K (.ref aA) (.ref aB) = some false
 b_NoLoss:PySem.W.subIn K (.ref aJ) (.type "BaseException") = some true
 s_TooMany_NoLoss:PySem.W.subIn K (.ref aA) (.ref aJ) = some false
 b_NoPart:PySem.W.subIn K (.ref aK) (.type "BaseException") = some true
 s_TooMany_NoPart:PySem.W.subIn K (.ref aA) (.ref aK) = some false
 b_NoRow:PySem.W.subIn K (.ref aO) (.type "BaseException") = some true
 s_TooMany_NoRow:PySem.W.subIn K (.ref aA) (.ref aO) = some false
 b_NoStand:PySem.W.subIn K (.ref aE) (.type "BaseException") = some true
 s_TooMany_NoStand:PySem.W.subIn K (.ref aA) (.ref aE) = some false
 b_NoWheel:PySem.W.subIn K (.ref aF) (.type "BaseException") = some true
 s_TooMany_NoWheel:PySem.W.subIn K (.ref aA) (.ref aF) = some false
 b_TooMuch:PySem.W.subIn K (.ref aG) (.type "BaseException") = some true
 s_TooMany_TooMuch:PySem.W.subIn K (.ref aA) (.ref aG) = some false
 b_Unsafe:PySem.W.subIn K (.ref aL) (.type "BaseException") = some true
 s_TooMany_Unsafe:PySem.W.subIn K (.ref aA) (.ref aL) = some false
 i_TooMany_RoundError:PySem.W.kitOne K (.ref aA) (.ref aC) = some true
 i_TooMany_ValueError:PySem.W.kitOne K (.ref aA) (.type "ValueError") = some true
inductive Vd (p0 p1 p2:Prop):Prop where
 | mk (h0:p0) (h1:p1) (h2:p2):Vd p0 p1 p2
inductive Wv (p0 p1 p2 p3:Prop):Prop where
 | mk (h0:p0) (h1:p1) (h2:p2) (h3:p3):Wv p0 p1 p2 p3
inductive Kc (p0 p1 p2 p3 p4:Prop):Prop where
 | mk (h0:p0) (h1:p1) (h2:p2) (h3:p3) (h4:p4):Kc p0 p1 p2 p3 p4
inductive P9 (p0 p1 p2 p3 p4 p5:Prop):Prop where
 | mk (h0:p0) (h1:p1) (h2:p2) (h3:p3) (h4:p4) (h5:p5):P9 p0 p1 p2 p3 p4 p5
inductive K7 (p0 p1 p2 p3 p4 p5 p6:Prop):Prop where
 | mk (h0:p0) (h1:p1) (h2:p2) (h3:p3) (h4:p4) (h5:p5) (h6:p6):K7 p0 p1 p2 p3 p4 p5 p6
inductive Z6 (p0 p1 p2 p3 p4 p5 p6 p7:Prop):Prop where
 | mk (h0:p0) (h1:p1) (h2:p2) (h3:p3) (h4:p4) (h5:p5) (h6:p6) (h7:p7):Z6 p0 p1 p2 p3 p4 p5 p6 p7
inductive Ux (p0 p1 p2 p3 p4 p5 p6 p7 p8:Prop):Prop where
 | mk (h0:p0) (h1:p1) (h2:p2) (h3:p3) (h4:p4) (h5:p5) (h6:p6) (h7:p7) (h8:p8):Ux p0 p1 p2 p3 p4 p5 p6 p7 p8
inductive P8 (p0 p1 p2 p3 p4 p5 p6 p7 p8 p9:Prop):Prop where
 | mk (h0:p0) (h1:p1) (h2:p2) (h3:p3) (h4:p4) (h5:p5) (h6:p6) (h7:p7) (h8:p8) (h9:p9):P8 p0 p1 p2 p3 p4 p5 p6 p7 p8 p9
inductive Sl (p0 p1 p2 p3 p4 p5 p6 p7 p8 p9 rO:Prop):Prop where
 | mk (h0:p0) (h1:p1) (h2:p2) (h3:p3) (h4:p4) (h5:p5) (h6:p6) (h7:p7) (h8:p8) (h9:p9) (h10:rO):Sl p0 p1 p2 p3 p4 p5 p6 p7 p8 p9 rO
inductive Zu (p0 p1 p2 p3 p4 p5 p6 p7 p8 p9 rO AK AL AM AN:Prop):Prop where
 | mk (h0:p0) (h1:p1) (h2:p2) (h3:p3) (h4:p4) (h5:p5) (h6:p6) (h7:p7) (h8:p8) (h9:p9) (h10:rO) (h11:AK) (h12:AL) (h13:AM) (h14:AN):Zu p0 p1 p2 p3 p4 p5 p6 p7 p8 p9 rO AK AL AM AN
inductive Zt (p0 p1 p2 p3 p4 p5 p6 p7 p8 p9 rO AK AL AM AN p15:Prop):Prop where
 | mk (h0:p0) (h1:p1) (h2:p2) (h3:p3) (h4:p4) (h5:p5) (h6:p6) (h7:p7) (h8:p8) (h9:p9) (h10:rO) (h11:AK) (h12:AL) (h13:AM) (h14:AN) (h15:p15):Zt p0 p1 p2 p3 p4 p5 p6 p7 p8 p9 rO AK AL AM AN p15
inductive Yy {T0 T1:Type} (p:T0 -> T1 -> Prop):Prop where
 | mk (x0:T0) (x1:T1) (h:p x0 x1):Yy p
inductive Mb {T0 T1 T2:Type} (p:T0 -> T1 -> T2 -> Prop):Prop where
 | mk (x0:T0) (x1:T1) (x2:T2) (h:p x0 x1 x2):Mb p
inductive Xh {T0 T1 T2 T3:Type} (p:T0 -> T1 -> T2 -> T3 -> Prop):Prop where
 | mk (x0:T0) (x1:T1) (x2:T2) (x3:T3) (h:p x0 x1 x2 x3):Xh p
inductive kj {T0 T1 T2 T3 T4:Type} (p:T0 -> T1 -> T2 -> T3 -> T4 -> Prop):Prop where
 | mk (x0:T0) (x1:T1) (x2:T2) (x3:T3) (x4:T4) (h:p x0 x1 x2 x3 x4):kj p
inductive iw {T0 T1 T2 T3 T4 T5:Type} (p:T0 -> T1 -> T2 -> T3 -> T4 -> T5 -> Prop):Prop where
 | mk (x0:T0) (x1:T1) (x2:T2) (x3:T3) (x4:T4) (x5:T5) (h:p x0 x1 x2 x3 x4 x5):iw p
inductive pj {T0 T1 T2 T3 T4 T5 T6:Type} (p:T0 -> T1 -> T2 -> T3 -> T4 -> T5 -> T6 -> Prop):Prop where
 | mk (x0:T0) (x1:T1) (x2:T2) (x3:T3) (x4:T4) (x5:T5) (x6:T6) (h:p x0 x1 x2 x3 x4 x5 x6):pj p
inductive fm {T0 T1 T2 T3 T4 T5 T6 T7:Type} (p:T0 -> T1 -> T2 -> T3 -> T4 -> T5 -> T6 -> T7 -> Prop):Prop where
 | mk (x0:T0) (x1:T1) (x2:T2) (x3:T3) (x4:T4) (x5:T5) (x6:T6) (x7:T7) (h:p x0 x1 x2 x3 x4 x5 x6 x7):fm p
inductive Zy {T0 T1 T2 T3 T4 T5 T6 T7 T8 T9:Type} (p:T0 -> T1 -> T2 -> T3 -> T4 -> T5 -> T6 -> T7 -> T8 -> T9 -> Prop):Prop where
 | mk (x0:T0) (x1:T1) (x2:T2) (x3:T3) (x4:T4) (x5:T5) (x6:T6) (x7:T7) (x8:T8) (x9:T9) (h:p x0 x1 x2 x3 x4 x5 x6 x7 x8 x9):Zy p
def B6 (H:Hp) (a:Addr) (ws:List Int) (calm:Option Int):Prop := ∃ t,H a = some (.tup [.ref t,vO calm]) /\ H t = some (.tup (ws.map V.int))
def Ea (H:Hp) (b:Addr) (ls:List Int) (q:Int):Prop := ∃ u,H b = some (.tup [.ref u,.int q]) /\ H u = some (.tup (ls.map V.int))
theorem B6.same {H H':Hp} {a:Addr} {ws:List Int} {calm:Option Int} (s:A9 H H') (h:B6 H a ws calm):B6 H' a ws calm:=by
 obtain ⟨t,h1,h2⟩ := h
 exact ⟨t,s _ _ h1,s _ _ h2⟩
theorem Ea.same {H H':Hp} {a:Addr} {ls:List Int} {q:Int} (s:A9 H H') (h:Ea H a ls q):Ea H' a ls q:=by
 obtain ⟨t,h1,h2⟩ := h
 exact ⟨t,s _ _ h1,s _ _ h2⟩
theorem di (c:Option Int):decide (vO c = V.aW) = decide (c = none):=by cases c <;> simp [vO]
def Bp (ws ls:List Int) (who:Nat) (lost:Bool):List Int:=if lost = true then ls.map (fun x=>x - 1) else (ls.map (fun x=>x - 1)).set who (ws.getD who 0)
def Cz (calm:Option Int) (q:Int) (lost:Bool):Int:=if lost = true then calm.getD 0 else max (q - 1) 0
def V1 (calm:Option Int) (q:Int) (lost:Bool):Prop:=lost = true -> calm ≠ none /\ q = 0
theorem Of (ws ls:List Int) (who:Nat) (lost:Bool):(Bp ws ls who lost).length = ls.length:=by
 unfold Bp
 split <;> simp
theorem Pb (x:Int):∀ ns:List Int,kc (.int x) (ns.map V.int) = decide (x ∈ ns)
 | []=>rfl
 | n :: ns=>by
  show (Xw (V.int n) (V.int x) || kc (.int x) (ns.map V.int)) = _
  rw [Pb x ns]
  show ((n == x) || decide (x ∈ ns)) = _
  by_cases h:n = x
  ·simp [h]
  ·have h':¬ x = n:=fun e=>h e.symm
   simp [h,h']
theorem Mz:∀ ns:List Int,(ns.map V.int).all Fj = true
 | []=>rfl
 | n :: ns=>by
  show (Fj (V.int n) && (ns.map V.int).all Fj) = true
  rw [Mz ns]
  rfl
theorem Tj {ws:List Int} {k:Nat} (h:k < ws.length):Ui (ws.map V.int) (k:Int) = some (.int (ws.getD k 0)):=by
 refine Sv ?_
 rw [List.getElem?_map,List.getElem?_eq_getElem h,List.getD_eq_getElem?_getD,List.getElem?_eq_getElem h]
 rfl
theorem Sy {n k:Nat} (h:k < n):Xj n (k:Int) = some k:=by
 unfold Xj
 rw [if_pos (by omega),if_pos (by omega)]
 simp
theorem Jn {a:Int} {n:Nat} (h:a.natAbs < 2 ^ n):intBits a <= n:=intBits_le h
theorem Bv (x:Int) {m:Int} (h:0 < m):0 <= x % m /\ x % m < m:=⟨Int.emod_nonneg x (by omega),Int.emod_lt_of_pos x h⟩
def Us (xs:List Int) (lo hi:Option Int):List Int:=(xs.drop (HT.fQ xs.length 0 lo)).take (HT.fQ xs.length xs.length hi - HT.fQ xs.length 0 lo)
theorem U8 (xs:List Int) (lo hi:Option Int):Rx (xs.map V.int) lo hi = (Us xs lo hi).map V.int:=by
 unfold Rx Us
 rw [List.length_map,List.map_take,List.map_drop]
def vN:Option Nat -> V
 | none=>.aW
 | some k=>.int (k:Nat)
def rd (xs:List Int) (j:Nat):Option Int:=xs[j % xs.length]?
def Ec (xs:List Int) (w:Int) (p g:Nat):Prop:=0 < g /\ rd xs p = some w /\ rd xs (p + g) = some w /\ ∀ s,0 < s -> s < g -> rd xs (p + s) ≠ some w
def aq (xs:List Int) (w:Int) (m:Nat):Prop:=(∃ p,Ec xs w p m) /\ ∀ p g,Ec xs w p g -> g <= m
def R8 (xs:List Int) (w:Int):Option Nat -> Prop
 | none=>w ∉ xs
 | some m=>aq xs w m
theorem X1 {xs:List Int} {w:Int} {j:Nat} (h:rd xs j = some w):w ∈ xs:=List.mem_of_getElem? h
theorem R8.eq {xs ys:List Int} {w:Int} {r r':Option Nat} (hm:w ∈ xs ↔ w ∈ ys) (hg:∀ g,(∃ p,Ec xs w p g) ↔ ∃ p,Ec ys w p g) (h:R8 xs w r) (h':R8 ys w r'):r = r':=by
 cases r with
 | none =>
  cases r' with
  | none=>rfl
  | some m =>
   obtain ⟨⟨p,hp⟩,_⟩ := h'
   exact absurd (hm.mpr (X1 hp.2.1)) h
 | some m =>
  cases r' with
  | none =>
   obtain ⟨⟨p,hp⟩,_⟩ := h
   exact absurd (hm.mp (X1 hp.2.1)) h'
  | some m' =>
   obtain ⟨h1,h2⟩ := h
   obtain ⟨eJ,gH⟩ := h'
   obtain ⟨p,hp⟩ := (hg m).mp h1
   obtain ⟨p',GS⟩ := (hg m').mpr eJ
   have a:=gH p m hp
   have b:=h2 p' m' GS
   congr 1
   omega
theorem Qa (xs:List Int) (j s:Nat):rd xs (j % xs.length + s) = rd xs (j + s):=by
 unfold rd
 rw [Nat.mod_add_mod]
theorem Vg {xs:List Int} {j:Nat} (h:j < xs.length):rd xs j = xs[j]?:=by
 unfold rd
 rw [Nat.mod_eq_of_lt h]
theorem Xl {xs:List Int} {w:Int} {p g:Nat} (h:Ec xs w p g):Ec xs w (p % xs.length) g:=by
 obtain ⟨h0,h1,h2,h3⟩ := h
 refine ⟨h0,?_,by rw [Qa]; exact h2,fun s a b=>by rw [Qa]; exact h3 s a b⟩
 have e:=Qa xs p 0
 rw [Nat.add_zero,Nat.add_zero] at e
 rw [e]
 exact h1
theorem K9 {xs:List Int} {w:Int} {p g g':Nat} (h:Ec xs w p g) (h':Ec xs w p g'):g = g':=by
 rcases Nat.lt_trichotomy g g' with a | a | a
 ·exact absurd h.2.2.1 (h'.2.2.2 g h.1 a)
 ·exact a
 ·exact absurd h'.2.2.1 (h.2.2.2 g' h'.1 a)
def ut (xs:List Int) (w:Int) (i:Nat):List Nat:=(List.range i).filter fun k=>decide (xs[k]? = some w)
def r8 (ps:List Nat) (i:Nat):List Int:=(List.range i).map fun j=>(ps.getD (j + 1) 0:Int) - (ps.getD j 0:Int)
theorem getD_some {ps:List Nat} {j:Nat} (h:j < ps.length):ps[j]? = some (ps.getD j 0):=by
 rw [List.getD_eq_getElem?_getD,List.getElem?_eq_getElem h]
 rfl
def Fs (xs:List Int) (w:Int) (i:Nat):Option Nat -> Prop
 | none=>∀ p,p < i -> xs[p]? ≠ some w
 | some m=>(∃ p,Ec xs w p m) /\ ∀ p,p < i -> ∀ g,Ec xs w p g -> g <= m
theorem Fs.skip {xs:List Int} {w:Int} {i:Nat} {r:Option Nat} (hi:i < xs.length) (hn:xs[i]? ≠ some w) (h:Fs xs w i r):Fs xs w (i + 1) r:=by
 cases r with
 | none =>
  intro p hp
  by_cases e:p = i
  ·subst e
   exact hn
  ·exact h p (by omega)
 | some m =>
  refine ⟨h.1,fun p hp g hg=>?_⟩
  by_cases e:p = i
  ·subst e
   have z:=hg.2.1
   rw [Vg hi] at z
   exact absurd z hn
  ·exact h.2 p (by omega) g hg
def gz:Option Nat -> Nat -> Nat
 | none,g=>g
 | some m,g=>if m < g then g else m
theorem Fs.take {xs:List Int} {w:Int} {i g:Nat} {r:Option Nat} (hg:Ec xs w i g) (h:Fs xs w i r):Fs xs w (i + 1) (some (gz r g)):=by
 have hi0:=hg.2.1
 cases r with
 | none =>
  refine ⟨⟨i,hg⟩,fun p hp g' qA=>?_⟩
  by_cases e:p = i
  ·subst e
   exact Nat.le_of_eq (K9 qA hg)
  ·have z:=qA.2.1
   rcases Nat.lt_or_ge p xs.length with hl | hl
   ·rw [Vg hl] at z
    exact absurd z (h p (by omega))
   ·have hn : 0 < xs.length := by
     cases xs with
     | nil=>unfold rd at z; simp at z
     | cons=>simp
    have z2:=Xl qA
    have aX:=Nat.mod_lt p hn
    have z3:=z2.2.1
    rw [Vg aX] at z3
    exact absurd z3 (h _ (by omega))
 | some m =>
  show (∃ p,Ec xs w p (if m < g then g else m)) /\ ∀ p,p < i + 1 -> ∀ g',Ec xs w p g' -> g' <= (if m < g then g else m)
  by_cases hmg:m < g
  ·rw [if_pos hmg]
   refine ⟨⟨i,hg⟩,fun p hp g' qA=>?_⟩
   by_cases e:p = i
   ·subst e
    exact Nat.le_of_eq (K9 qA hg)
   ·have:=h.2 p (by omega) g' qA
    omega
  ·rw [if_neg hmg]
   refine ⟨h.1,fun p hp g' qA=>?_⟩
   by_cases e:p = i
   ·subst e
    have:=K9 qA hg
    omega
   ·exact h.2 p (by omega) g' qA
theorem V2 {a b:Int} {m n:Nat} (ha:intBits a <= m) (hb:intBits b <= n):intBits (a * b) <= m + n:=by
 apply intBits_le
 rw [Int.natAbs_mul,Nat.pow_add]
 have h1:=Nat.lt_of_lt_of_le (natAbs_lt_pow_bits a) (Nat.pow_le_pow_right (by decide) ha)
 have h2:=Nat.lt_of_lt_of_le (natAbs_lt_pow_bits b) (Nat.pow_le_pow_right (by decide) hb)
 exact Nat.mul_lt_mul'' h1 h2
theorem Eg {n:Nat} (h:n <= 10000):n < sizeLine:=Nat.lt_of_le_of_lt h (by decide)
def Am (H H':Hp):Prop := ∀ b xs,H b = some (.tup xs) -> H' b = some (.tup xs)
theorem Am.of {H H':Hp} (s:A9 H H'):Am H H':=fun b xs e=>s b _ e
theorem Am.trans {H H1 H2:Hp} (a:Am H H1) (b:Am H1 H2):Am H H2:=fun c xs e=>b c xs (a c xs e)
theorem Am.lst {H:Hp} {D:Addr} {zs:List V} {o:HO} (h:H D = some (.lst zs)):Am H (upd H D o):=fun b xs e=>by
 rw [Aa (Bh e h (by intro z; cases z))]
 exact e
def Dm (H:Hp) (r:List Int) (v:V):Prop := ∃ p,v = .ref p /\ H p = some (.tup (r.map V.int))
def Ga (H:Hp) (z:List Int × Int) (v:V):Prop := ∃ p u,v = .ref p /\ H p = some (.tup [.ref u,.int z.2]) /\ H u = some (.tup (z.1.map V.int))
theorem Dm.up {H H':Hp} {r:List Int} {v:V} (t:Am H H') (h:Dm H r v):Dm H' r v:=by
 obtain ⟨p,e,h1⟩ := h
 exact ⟨p,e,t _ _ h1⟩
theorem Ga.up {H H':Hp} {z:List Int × Int} {v:V} (t:Am H H') (h:Ga H z v):Ga H' z v:=by
 obtain ⟨p,u,e,h1,h2⟩ := h
 exact ⟨p,u,e,t _ _ h1,t _ _ h2⟩
def Ah {α:Type} (P:α -> V -> Prop) (rs:List α) (vs:List V):Prop:=vs.length = rs.length /\ ∀ (i:Nat) (r:α) (v:V),rs[i]? = some r -> vs[i]? = some v -> P r v
theorem Ah.nil {α:Type} {P:α -> V -> Prop}:Ah P [] []:=⟨rfl,fun i r v e=>by cases e⟩
theorem Ah.imp {α:Type} {P P':α -> V -> Prop} {rs:List α} {vs:List V} (f:∀ r v,P r v -> P' r v) (h:Ah P rs vs):Ah P' rs vs:=⟨h.1,fun i r v e1 e2=>f _ _ (h.2 i r v e1 e2)⟩
theorem Ah.append {α:Type} {P:α -> V -> Prop} {rs ss:List α} {vs us:List V} (h:Ah P rs vs) (g:Ah P ss us):Ah P (rs ++ ss) (vs ++ us):=by
 refine ⟨by rw [List.length_append,List.length_append,h.1,g.1],fun i r v e1 e2=>?_⟩
 rcases Nat.lt_or_ge i rs.length with z | z
 ·rw [List.getElem?_append_left z] at e1
  rw [List.getElem?_append_left (by rw [h.1]; exact z)] at e2
  exact h.2 i r v e1 e2
 ·rw [List.getElem?_append_right z] at e1
  rw [List.getElem?_append_right (by rw [h.1]; exact z),h.1] at e2
  exact g.2 _ r v e1 e2
theorem Ah.one {α:Type} {P:α -> V -> Prop} {r:α} {v:V} (h:P r v):Ah P [r] [v]:=by
 refine ⟨rfl,fun i r' v' e1 e2=>?_⟩
 cases i with
 | zero=>cases e1; cases e2; exact h
 | succ i=>cases e1
theorem Ah.get {α:Type} {P:α -> V -> Prop} {rs:List α} {vs:List V} (h:Ah P rs vs) {i:Nat} {v:V} (e:vs[i]? = some v):∃ r,rs[i]? = some r /\ P r v:=by
 have hi:=(List.getElem?_eq_some_iff.mp e).1
 have lF:i < rs.length:=by
  rw [<- h.1]
  exact hi
 have h2:rs[i]? = some rs[i]:=List.getElem?_eq_getElem lF
 exact ⟨_,h2,h.2 i _ v h2 e⟩
def qv:Option Int -> Int
 | none=>1
 | some c=>c + 1
def Ad (q:Int) (ws:List Int):Int:=ws.foldl (· * ·) q
def Nv (r:List Int) (w:Int):List (List Int):=(List.range w.toNat).map fun t=>r ++ [1 + ((t:Nat):Int)]
def Bq (rows:List (List Int)) (w:Int):List (List Int):=rows.flatMap fun r=>Nv r w
def Br (ws:List Int):List (List Int):=ws.foldl Bq [[]]
def Ei (r:List Int) (q:Int):List (List Int × Int):=(List.range q.toNat).map fun k=>(r,0 + ((k:Nat):Int))
def B0 (ws:List Int) (q:Int):List (List Int × Int):=(Br ws).flatMap fun r=>Ei r q
theorem Ee {α β:Type} (f:β -> α -> β) (b:β) (xs:List α) {i:Nat} {x:α} (h:xs[i]? = some x):(xs.take (i + 1)).foldl f b = f ((xs.take i).foldl f b) x:=by
 rw [List.take_add_one,h,List.foldl_append]
 rfl
theorem Mw {α β:Type} (f:α -> List β) (xs:List α) {i:Nat} {x:α} (h:xs[i]? = some x):(xs.take (i + 1)).flatMap f = (xs.take i).flatMap f ++ f x:=by
 rw [List.take_add_one,h,List.flatMap_append]
 simp
theorem Mo {q:Int} (hq:intBits q <= 256):∀ {ws:List Int},(∀ w ∈ ws,intBits w <= 256) -> ∀ i,i <= ws.length -> intBits (Ad q (ws.take i)) <= 256 * (i + 1)
 | ws,h,0,_=>by simpa [Ad] using hq
 | ws,h,i + 1,hi=>by
  have hx:ws[i]? = some ws[i]:=List.getElem?_eq_getElem (by omega)
  have ih:=Mo hq h i (by omega)
  unfold Ad at ih ⊢
  rw [Ee _ _ _ hx]
  exact Nat.le_trans (V2 ih (h _ (List.getElem_mem _))) (by omega)
theorem Ii (q:Int):∀ (ws:List Int) (a:Int),Ad (q * a) ws = q * Ad a ws
 | [],a=>rfl
 | w :: ws,a=>by
  show Ad (q * a * w) ws = q * Ad (a * w) ws
  rw [Int.mul_assoc,Ii q ws (a * w)]
theorem Ks {α β:Type} {f:α -> List β} {n:Nat}:∀ {xs:List α},(∀ x ∈ xs,(f x).length = n) -> (xs.flatMap f).length = xs.length * n
 | [],_=>by simp
 | x :: xs,h=>by
  rw [List.flatMap_cons,List.length_append,h x (List.mem_cons_self ..),Ks fun y hy=>h y (List.mem_cons_of_mem _ hy),List.length_cons,Nat.succ_mul]
  omega
theorem P3 (r:List Int) (w:Int):(Nv r w).length = w.toNat:=by simp [Nv]
theorem Md (r:List Int) (q:Int):(Ei r q).length = q.toNat:=by simp [Ei]
theorem L3 (rows:List (List Int)) (w:Int):(Bq rows w).length = rows.length * w.toNat:=Ks fun r _=>P3 r w
theorem L5:∀ (ws:List Int) (rows:List (List Int)),(∀ w ∈ ws,1 <= w) -> ((ws.foldl Bq rows).length:Int) = Ad (rows.length:Int) ws
 | [],rows,_=>rfl
 | w :: ws,rows,h=>by
  have hw:=h w (List.mem_cons_self ..)
  show ((ws.foldl Bq (Bq rows w)).length:Int) = Ad ((rows.length:Int) * w) ws
  rw [L5 ws _ (fun x hx=>h x (List.mem_cons_of_mem _ hx)),L3]
  congr 1
  rw [Int.natCast_mul]
  congr 1
  omega
theorem Dt:∀ (ws:List Int) (a:Int),0 <= a -> (∀ w ∈ ws,1 <= w) -> a <= Ad a ws
 | [],a,_,_=>Int.le_refl _
 | w :: ws,a,ha,h=>by
  have hw:=h w (List.mem_cons_self ..)
  have h1:a <= a * w:=by
   have:=Int.mul_le_mul_of_nonneg_left hw ha
   rw [Int.mul_one] at this
   exact this
  exact Int.le_trans h1 (Dt ws (a * w) (Int.le_trans ha h1) fun x hx=>h x (List.mem_cons_of_mem _ hx))
theorem Uw {ws:List Int} {a:Int} (ha:0 <= a) (h:∀ w ∈ ws,1 <= w) (i:Nat):Ad a (ws.take i) <= Ad a ws:=by
 have e:Ad a ws = Ad (Ad a (ws.take i)) (ws.drop i):=by
  unfold Ad
  rw [<- List.foldl_append,List.take_append_drop]
 rw [e]
 refine Dt _ _ (Int.le_trans ha (Dt _ _ ha fun w hw=>h w (List.mem_of_mem_take hw))) fun w hw=>h w (List.mem_of_mem_drop hw)
theorem Nw {r x:List Int} {w:Int} (h:x ∈ Nv r w):∃ t:Nat,t < w.toNat /\ x = r ++ [1 + (t:Int)]:=by
 unfold Nv at h
 obtain ⟨t,h1,rfl⟩ := List.mem_map.mp h
 exact ⟨t,List.mem_range.mp h1,rfl⟩
theorem Gv (ws:List Int):∀ i,i <= ws.length -> ∀ r ∈ Br (ws.take i),r.length = i /\ ∀ (k:Nat) (x w:Int),r[k]? = some x -> ws[k]? = some w -> 1 <= x /\ x <= w
 | 0,_,r,h=>by
  have e:r = []:=List.mem_singleton.mp h
  subst e
  exact ⟨rfl,fun k x w e=>by cases e⟩
 | i + 1,hi,r,h=>by
  have hw:ws[i]? = some ws[i]:=List.getElem?_eq_getElem (by omega)
  have e:Br (ws.take (i + 1)) = Bq (Br (ws.take i)) ws[i]:=Ee _ _ _ hw
  rw [e] at h
  obtain ⟨r',h1,h2⟩ := List.mem_flatMap.mp h
  obtain ⟨t,h3,rfl⟩ := Nw h2
  obtain ⟨h4,h5⟩ := Gv ws i (by omega) r' h1
  refine ⟨by simp [h4],fun k x w e1 e2=>?_⟩
  rcases Nat.lt_or_ge k r'.length with z | z
  ·rw [List.getElem?_append_left z] at e1
   exact h5 k x w e1 e2
  ·have hk : k = i := by
    have:=(List.getElem?_eq_some_iff.mp e1).1
    rw [List.length_append,List.length_singleton] at this
    omega
   subst hk
   rw [List.getElem?_append_right z,h4,Nat.sub_self] at e1
   cases e1
   rw [hw] at e2
   cases e2
   omega
def Uk (r s:List Int):Prop:=aN (r.map PyData.int) (s.map PyData.int) = true
theorem Jh (a b:Int):PyData.eqv (.int a) (.int b) = decide (a = b):=by
 show (a == b) = _
 by_cases h:a = b <;> simp [h]
theorem Nj:∀ r:List Int,¬ Uk r r
 | []=>by unfold Uk; simp [aN]
 | x :: r=>fun h=>by
  have ih:=Nj r
  unfold Uk at h ih
  rw [List.map_cons,aN,Jh,if_pos (by simp)] at h
  exact ih h
theorem Q3:∀ {r s:List Int} {x y:Int},r.length = s.length -> Uk r s -> Uk (r ++ [x]) (s ++ [y])
 | [],[],x,y,_,h=>absurd h (Nj [])
 | [],_ :: _,_,_,hl,_=>by simp at hl
 | _ :: _,[],_,_,hl,_=>by simp at hl
 | a :: r,b :: s,x,y,hl,h=>by
  unfold Uk at h ⊢
  rw [List.cons_append,List.cons_append,List.map_cons,List.map_cons,aN] at *
  by_cases e:PyData.eqv (.int a) (.int b) = true
  ·rw [if_pos e] at h ⊢
   exact Q3 (r:=r) (s:=s) (by simpa using hl) h
  ·rw [if_neg e] at h ⊢
   exact h
theorem Pp:∀ {r:List Int} {x y:Int},x < y -> Uk (r ++ [x]) (r ++ [y])
 | [],x,y,h=>by
  unfold Uk
  show aN [PyData.int x] [PyData.int y] = true
  rw [aN,Jh,if_neg (by simp; omega),Gc]
  exact decide_eq_true h
 | a :: r,x,y,h=>by
  unfold Uk
  rw [List.cons_append,List.cons_append,List.map_cons,List.map_cons,aN,Jh,if_pos (by simp)]
  exact Pp (r:=r) h
theorem Rl (r:List Int) (w:Int):(Nv r w).Pairwise Uk:=by
 unfold Nv
 rw [List.pairwise_map]
 exact List.pairwise_lt_range.imp fun h=>Pp (by omega)
theorem Ix (ws:List Int):∀ i,i <= ws.length -> (Br (ws.take i)).Pairwise Uk
 | 0,_=>by
  show ([[]]:List (List Int)).Pairwise Uk
  exact List.pairwise_singleton _ _
 | i + 1,hi=>by
  have hw:ws[i]? = some ws[i]:=List.getElem?_eq_getElem (by omega)
  have e:Br (ws.take (i + 1)) = Bq (Br (ws.take i)) ws[i]:=Ee _ _ _ hw
  rw [e]
  unfold Bq
  rw [List.pairwise_flatMap]
  refine ⟨fun r _=>Rl r _,?_⟩
  refine (Ix ws i (by omega)).imp_of_mem fun {a b} ha hb h x hx y hy=>?_
  obtain ⟨t,_,rfl⟩ := Nw hx
  obtain ⟨u,_,rfl⟩ := Nw hy
  have h1:=(Gv ws i (by omega) a ha).1
  have h2:=(Gv ws i (by omega) b hb).1
  exact Q3 (by omega) h
def dS (z:List Int × Int):PyData:=dP (dT z.1) (.int z.2)
theorem Xe {a b:List Int × Int} (h:Uk a.1 b.1 \/ (a.1 = b.1 /\ a.2 < b.2)):Gc (dS a) (dS b) = true:=by
 show aN [dT a.1,.int a.2] [dT b.1,.int b.2] = true
 rw [aN,O6]
 rcases h with h | ⟨h1,h2⟩
 ·have dX : ¬ a.1 = b.1 := fun e => by
   rw [e] at h
   exact Nj _ h
  rw [if_neg (by simpa using dX)]
  exact h
 ·rw [if_pos (by simpa using h1),aN,Jh,if_neg (by simp; omega),Gc]
  exact decide_eq_true h2
theorem No {r:List Int} {q:Int} {z:List Int × Int} (h:z ∈ Ei r q):z.1 = r /\ 0 <= z.2 /\ z.2 < q:=by
 unfold Ei at h
 obtain ⟨k,h1,rfl⟩ := List.mem_map.mp h
 have:=List.mem_range.mp h1
 exact ⟨rfl,by show 0 <= 0 + (k:Int); omega,by show 0 + (k:Int) < q; omega⟩
theorem Em (ws:List Int) (q:Int):(B0 ws q).Pairwise fun a b=>Gc (dS a) (dS b) = true:=by
 unfold B0
 rw [List.pairwise_flatMap]
 refine ⟨fun r _=>?_,?_⟩
 ·unfold Ei
  rw [List.pairwise_map]
  exact List.pairwise_lt_range.imp fun {a b} h=>Xe (a:=(r,0 + ((a:Nat):Int))) (b:=(r,0 + ((b:Nat):Int))) (.inr ⟨rfl,by show 0 + ((a:Nat):Int) < 0 + ((b:Nat):Int); omega⟩)
 ·have h:=Ix ws ws.length (Nat.le_refl _)
  rw [List.take_length] at h
  refine h.imp fun {a b} h x hx y hy=>?_
  exact Xe (.inl (by rw [(No hx).1,(No hy).1]; exact h))
theorem Ip {ws:List Int} {q:Int} (h:∀ w ∈ ws,1 <= w) (hq:0 <= q):((B0 ws q).length:Int) = Ad q ws:=by
 unfold B0
 rw [Ks fun r _=>Md r q,Int.natCast_mul]
 have e:((Br ws).length:Int) = Ad 1 ws:=L5 ws [[]] h
 rw [e,Int.toNat_of_nonneg hq,Int.mul_comm,<- Ii,Int.mul_one]
theorem N3 {ws:List Int} {q:Int} {z:List Int × Int} (h:z ∈ B0 ws q):z.1.length = ws.length /\ (∀ (k:Nat) (x w:Int),z.1[k]? = some x -> ws[k]? = some w -> 1 <= x /\ x <= w) /\ 0 <= z.2 /\ z.2 < q:=by
 obtain ⟨r,h1,h2⟩ := List.mem_flatMap.mp h
 obtain ⟨h3,h4,h5⟩ := No h2
 have h6:=Gv ws ws.length (Nat.le_refl _) r (by rw [List.take_length]; exact h1)
 rw [h3]
 exact ⟨h6.1,h6.2,h4,h5⟩
theorem Ly {ws:List Int} (h:∀ w ∈ ws,1 <= w) (hp:Ad 1 ws <= 3000) (i:Nat):(Br (ws.take i)).length <= 3000:=by
 have e:=L5 (ws.take i) [[]] fun w hw=>h w (List.mem_of_mem_take hw)
 have e2:=Uw (ws:=ws) (a:=1) (by decide) h i
 have e3:Ad (([[]]:List (List Int)).length:Int) (ws.take i) = Ad 1 (ws.take i):=rfl
 unfold Br
 omega
theorem V5 (z:List Int × Int):(dS z).depth = 2:=by
 unfold dS
 rw [Oj,Vp]
 rfl
theorem Ah.drop {α:Type} {P:α -> V -> Prop} {rs:List α} {vs:List V} (h:Ah P rs vs) (n:Nat):Ah P (rs.drop n) (vs.drop n):=by
 refine ⟨by rw [List.length_drop,List.length_drop,h.1],fun i r v e1 e2=>?_⟩
 rw [List.getElem?_drop] at e1 e2
 exact h.2 _ r v e1 e2
theorem Up (q:Int) (ws:List Int) (w:Int):Ad q (ws ++ [w]) = Ad q ws * w:=by
 unfold Ad
 rw [List.foldl_append]
 rfl
def Xi (H:Hp) (v:V):Option (List Int × Int) -> Prop
 | none=>v = .aW
 | some r=>∃ b,v = .ref b /\ Ea H b r.1 r.2
def Ql (H:Hp) (p:Addr) (r:Nat × Option (List Int × Int)):Prop := ∃ v,H p = some (.tup [.int (r.1:Nat),v]) /\ Xi H v r.2
theorem Xi.same {H H':Hp} {v:V} {r:Option (List Int × Int)} (s:A9 H H') (h:Xi H v r):Xi H' v r:=by
 cases r with
 | none=>exact h
 | some r =>
  obtain ⟨b,e,h⟩ := h
  exact ⟨b,e,h.same s⟩
theorem Ql.same {H H':Hp} {p:Addr} {r:Nat × Option (List Int × Int)} (s:A9 H H') (h:Ql H p r):Ql H' p r:=by
 obtain ⟨v,e,h⟩ := h
 exact ⟨v,s _ _ e,h.same s⟩
def c0:Option (List Int × Int) -> PyData
 | none=>.none
 | some r=>dP (dT r.1) (.int r.2)
theorem bn {H:Hp} {v:V} {r:Option (List Int × Int)} (h:Xi H v r):Rp H (c0 r) v:=by
 cases r with
 | none =>
  cases h
  exact Vm
 | some r =>
  obtain ⟨b,rfl,t,h1,h2⟩ := h
  exact Zd h1 (gh h2) (Kk _)
def Ym (calm:Option Int):Int -> List Bool -> Prop
 | _,[]=>True
 | q,l :: r=>V1 calm q l /\ Ym calm (Cz calm q l) r
def Zo (ws:List Int) (calm:Option Int):List Int -> Int -> List (Nat × Bool) -> Nat × Option (List Int × Int)
 | ls,q,[]=>(0,some (ls,q))
 | ls,q,(k,l) :: r=>if (0:Int) ∈ Bp ws ls k l then (0,none) else ((Zo ws calm (Bp ws ls k l) (Cz calm q l) r).1 + 1,(Zo ws calm (Bp ws ls k l) (Cz calm q l) r).2)
theorem Ah.tail {α:Type} {P:α -> V -> Prop} {r:α} {v:V} {rs:List α} {vs:List V} (h:Ah P (r :: rs) (v :: vs)):P r v /\ Ah P rs vs:=⟨h.2 0 r v rfl rfl,by have:=h.1; simpa using this,fun i a b e1 e2=>h.2 (i + 1) a b e1 e2⟩
theorem Hn {α:Type} {P:α -> Prop} {xs:List α} {x:α} (h:∀ y ∈ xs,P y) (hx:P x):∀ y ∈ xs ++ [x],P y:=fun y hy=>by
 rcases List.mem_append.mp hy with z | z
 ·exact h y z
 ·cases List.mem_singleton.mp z
  exact hx
theorem Ea.up {H H':Hp} {b:Addr} {ls:List Int} {q:Int} (t:Am H H') (h:Ea H b ls q):Ea H' b ls q:=by
 obtain ⟨u,h1,h2⟩ := h
 exact ⟨u,t _ _ h1,t _ _ h2⟩
theorem B6.up {H H':Hp} {a:Addr} {ws:List Int} {calm:Option Int} (s:Am H H') (h:B6 H a ws calm):B6 H' a ws calm:=by
 obtain ⟨t,h1,h2⟩ := h
 exact ⟨t,s _ _ h1,s _ _ h2⟩
theorem Xi.up {H H':Hp} {v:V} {r:Option (List Int × Int)} (s:Am H H') (h:Xi H v r):Xi H' v r:=by
 cases r with
 | none=>exact h
 | some r =>
  obtain ⟨b,e,h⟩ := h
  exact ⟨b,e,h.up s⟩
def Co (ws ls:List Int) (cm:Option Int) (q:Int) (who:Nat) (lost:Bool):Option (List Int × Int):=if (0:Int) ∈ Bp ws ls who lost then none else some (Bp ws ls who lost,Cz cm q lost)
def Hd (cm:Option Int) (q:Int):Bool := !decide (cm = none) && decide (q = 0)
def Au (ws ls:List Int) (cm:Option Int) (q:Int) (who:Nat):List (Option (List Int × Int)):=Co ws ls cm q who false :: if Hd cm q = true then [Co ws ls cm q who true] else []
def Gu (H:Hp) (r:Option (List Int × Int)) (v:V):Prop:=Xi H v r
theorem Gu.up {H H':Hp} {v:V} {r:Option (List Int × Int)} (s:Am H H') (h:Gu H r v):Gu H' r v:=Xi.up s h
theorem Ah.cons {α:Type} {P:α -> V -> Prop} {r:α} {v:V} {rs:List α} {vs:List V} (h:P r v) (g:Ah P rs vs):Ah P (r :: rs) (v :: vs):=(Ah.one h).append g
theorem M8 {H:Hp}:∀ {rs:List (Option (List Int × Int))} {us:List V},Ah (Gu H) rs us -> aM H (rs.map c0) us
 | [],[],_=>by unfold aM; rfl
 | [],_ :: _,h=>by have:=h.1; simp at this
 | _ :: _,[],h=>by have:=h.1; simp at this
 | r :: rs,u :: us,h=>by
  obtain ⟨h1,h2⟩ := h.tail
  show aM H (c0 r :: rs.map c0) (u :: us)
  unfold aM
  exact ⟨_,_,rfl,bn h1,M8 h2⟩
theorem Zc (r:Option (List Int × Int)):PyData.eqv (c0 r) .none = decide (r = none):=by cases r <;> rfl
theorem Nh:∀ rs:List (Option (List Int × Int)),(rs.map c0).any (fun e=>PyData.eqv e .none) = decide (none ∈ rs)
 | []=>rfl
 | r :: rs=>by
  rw [List.map_cons,List.any_cons,Nh rs,Zc,Bool.eq_iff_iff]
  simp only [Bool.or_eq_true,decide_eq_true_eq,List.mem_cons]
  exact ⟨fun z=>z.imp Eq.symm id,fun z=>z.imp Eq.symm id⟩
def SV (H:Hp) (v:V):Prop := ∃ b k,v = .ref b /\ F4 H b k
theorem SV.up {H H':Hp} {v:V} (t:Am H H') (h:SV H v):SV H' v:=by
 obtain ⟨b,k,e,h1⟩ := h
 exact ⟨b,k,e,h1.up t⟩
def Ht (H:Hp) (cs:List (Ct × V)):Prop := ∀ e ∈ cs,(∃ i:Int,e.1 = .inl i) /\ ∃ (l:Addr) (us:List V),e.2 = .ref l /\ H l = some (.lst us) /\ us.length <= 2 /\ ∀ u ∈ us,SV H u
def Kz (H:Hp) (v:V):Prop := ∃ (c:Addr) (cs:List (Ct × V)),v = .ref c /\ H c = some (.dK cs) /\ cs.length <= 8 /\ Ht H cs
def LT (H H':Hp):Prop:=(∀ b xs,H b = some (.lst xs) -> H' b = some (.lst xs)) /\ Am H H'
theorem LT.of {H H':Hp} (s:A9 H H'):LT H H':=⟨fun b xs e=>s b _ e,Am.of s⟩
theorem LT.dT {H:Hp} {D:Addr} {kvs:List ((List Int × Int) × V)} {o:HO} (h:H D = some (.dT kvs)):LT H (upd H D o) :=
 ⟨fun b xs e=>by rw [Aa (Bh e h (by intro z; cases z))]; exact e,fun b xs e=>by rw [Aa (Bh e h (by intro z; cases z))]; exact e⟩
theorem LT.dK {H:Hp} {D:Addr} {kvs:List (Ct × V)} {o:HO} (h:H D = some (.dK kvs)):LT H (upd H D o) :=
 ⟨fun b xs e=>by rw [Aa (Bh e h (by intro z; cases z))]; exact e,fun b xs e=>by rw [Aa (Bh e h (by intro z; cases z))]; exact e⟩
theorem LT.trans {H H1 H2:Hp} (a:LT H H1) (b:LT H1 H2):LT H H2:=⟨fun c xs e=>b.1 c xs (a.1 c xs e),a.2.trans b.2⟩
theorem Ht.up {H H':Hp} {cs:List (Ct × V)} (t:LT H H') (h:Ht H cs):Ht H' cs:=fun e he=>by
 obtain ⟨h1,l,us,h2,h3,h4,h5⟩ := h e he
 exact ⟨h1,l,us,h2,t.1 _ _ h3,h4,fun u hu=>(h5 u hu).up t.2⟩
theorem Kz.up {H H':Hp} {v:V} (t:LT H H') (k:∀ c cs,H c = some (.dK cs) -> H' c = some (.dK cs)) (h:Kz H v):Kz H' v:=by
 obtain ⟨c,cs,e,h1,h2,h3⟩ := h
 exact ⟨c,cs,e,k _ _ h1,h2,h3.up t⟩
theorem Kz.same {H H':Hp} {v:V} (s:A9 H H') (h:Kz H v):Kz H' v:=h.up (LT.of s) fun c cs e=>s _ _ e
def Cj (H:Hp) (kvs:List ((List Int × Int) × V)):Prop := ∀ kv ∈ kvs,Kz H kv.2
theorem Pe {κ:Type} [DecidableEq κ] {P:V -> Prop} {kvs:List (κ × V)} {k:κ} {v:V} (h:∀ kv ∈ kvs,P kv.2) (hv:P v):∀ kv ∈ Bc kvs k v,P kv.2:=fun kv aS=>by
 unfold Bc at aS
 split at aS
 ·obtain ⟨x,hx,rfl⟩ := List.mem_map.mp aS
  split
  ·exact hv
  ·exact h x hx
 ·rcases List.mem_append.mp aS with z | z
  ·exact h kv z
  ·cases List.mem_singleton.mp z
   exact hv
theorem Cb {n:Nat} (h:n <= 200000):n < sizeLine:=Nat.lt_of_le_of_lt h (by decide)
theorem B7 {κ:Type} [DecidableEq κ] {kvs:List (κ × V)} {k:κ} {v:V} (h:Af kvs k = some v):(k,v) ∈ kvs:=by
 unfold Af at h
 obtain ⟨p,hp,rfl⟩ := Option.map_eq_some_iff.mp h
 have h1:=List.find?_some hp
 have h2:=List.mem_of_find?_eq_some hp
 have h3:p.1 = k:=by simpa using h1
 rw [<- h3]
 exact h2
theorem J0 {κ:Type} [DecidableEq κ] {kvs:List (κ × V)} {k:κ} {v:V} (h:(k,v) ∈ kvs):∃ w,Af kvs k = some w:=by
 cases e:Af kvs k with
 | some w=>exact ⟨w,rfl⟩
 | none=>exact absurd (List.mem_map_of_mem (f:=(·.1)) h) (Jz e)
def Uh (kvs:List ((List Int × Int) × V)) (H:Hp) (u:V):Prop := ∃ (t b:Addr) (i:Int) (k:List Int × Int),u = .ref t /\ H t = some (.tup [.ref b,.int i]) /\ F4 H b k /\ ∃ v,Af kvs k = some v
theorem Uh.up {kvs:List ((List Int × Int) × V)} {H H':Hp} {u:V} (t:Am H H') (h:Uh kvs H u):Uh kvs H' u:=by
 obtain ⟨a,b,i,k,e,h1,h2,h3⟩ := h
 exact ⟨a,b,i,k,e,t _ _ h1,h2.up t,h3⟩
def Ie (H0:Hp) (kvs:List ((List Int × Int) × V)) (n:Nat) (H:Hp) (wv:List ((List Int × Int) × V)):Prop := ∀ kv ∈ wv,∃ (l:Addr) (us:List V),kv.2 = .ref l /\ H0 l = none /\ H l = some (.lst us) /\ us.length <= n /\ ∀ u ∈ us,Uh kvs H u
theorem Ie.up {H0 H H':Hp} {kvs wv:List ((List Int × Int) × V)} {n m:Nat} (t:LT H H') (hn:n <= m) (h:Ie H0 kvs n H wv):Ie H0 kvs m H' wv:=fun kv aS=>by
 obtain ⟨l,us,e,h0,h1,h2,h3⟩ := h kv aS
 exact ⟨l,us,e,h0,t.1 _ _ h1,by omega,fun u hu=>(h3 u hu).up t.2⟩
theorem Ie.app {H0 H:Hp} {kvs wv:List ((List Int × Int) × V)} {n:Nat} {l:Addr} {us:List V} {x:V} (h:Ie H0 kvs n H wv) (hl:H l = some (.lst us)) (hu:us.length <= n) (ha:∀ u ∈ us,Uh kvs H u) (hx:Uh kvs H x):Ie H0 kvs (n + 1) (upd H l (.lst (us ++ [x]))) wv:=fun kv aS=>by
 have t:Am H (upd H l (.lst (us ++ [x]))):=Am.lst hl
 obtain ⟨l2,fP,e,h0,h1,h2,h3⟩ := h kv aS
 by_cases z:l2 = l
 ·subst z
  exact ⟨l2,us ++ [x],e,h0,A5,by rw [List.length_append,List.length_singleton]; omega,fun u hu=>(Hn ha hx u hu).up t⟩
 ·exact ⟨l2,fP,e,h0,(Aa z).trans h1,by omega,fun u hu=>(h3 u hu).up t⟩
def Dj (kvs:List ((List Int × Int) × V)) (H H':Hp):Prop := ∀ b o,H b = some o -> (∀ kv ∈ kvs,kv.2 ≠ .ref b) -> H' b = some o
theorem Dj.of {kvs:List ((List Int × Int) × V)} {H H':Hp} (s:A9 H H'):Dj kvs H H':=fun b o e _=>s b o e
theorem Dj.trans {kvs:List ((List Int × Int) × V)} {H H1 H2:Hp} (a:Dj kvs H H1) (b:Dj kvs H1 H2):Dj kvs H H2:=fun c o e n=>b c o (a c o e n) n
theorem Dj.new {kvs:List ((List Int × Int) × V)} {H H':Hp} {p:Addr} {o:HO} (a:Dj kvs H H') (h:H p = none):Dj kvs H (upd H' p o):=fun b u e n=>by
 rw [Aa (Aj e h)]
 exact a b u e n
theorem Dj.keep {kvs:List ((List Int × Int) × V)} {H H':Hp} {b:Addr} {o:HO} (a:Dj kvs H H') (p:Cj H kvs) (e:H b = some o) (n:∀ cs,o ≠ .dK cs):H' b = some o:=a b o e fun kv aS z=>by
 obtain ⟨c,cs,e1,e2,_⟩ := p kv aS
 rw [z] at e1
 cases e1
 rw [e] at e2
 exact n cs (Option.some.inj e2)
theorem Dj.lt {kvs:List ((List Int × Int) × V)} {H H':Hp} (a:Dj kvs H H') (p:Cj H kvs):LT H H':=⟨fun b xs e=>a.keep p e (fun cs z=>nomatch z),fun b xs e=>a.keep p e (fun cs z=>nomatch z)⟩
theorem Dj.pop {kvs:List ((List Int × Int) × V)} {H:Hp} {c:Addr} {o:HO} {kv:(List Int × Int) × V} (h:kv ∈ kvs) (e:kv.2 = .ref c):Dj kvs H (upd H c o):=fun b u eb n=>by
 rw [Aa (fun z=>n kv h (by rw [e,z]))]
 exact eb
def Zn (H:Hp):V -> Nat
 | .ref c=>match H c with
  | some (.dK cs)=>cs.length
  | _=>0
 | _=>0
def Bx (H:Hp) (kvs:List ((List Int × Int) × V)):Nat:=(kvs.map fun kv=>Zn H kv.2).sum
theorem Kv {H:Hp} {c:Addr} {cs:List (Ct × V)} (h:H c = some (.dK cs)):Zn H (.ref c) = cs.length:=by
 unfold Zn
 simp only [h]
theorem Di {H H':Hp}:∀ {kvs:List ((List Int × Int) × V)},Cj H kvs -> (∀ c cs,H c = some (.dK cs) -> H' c = some (.dK cs)) -> Bx H' kvs = Bx H kvs
 | [],_,_=>rfl
 | kv :: kvs,p,k=>by
  obtain ⟨c,cs,e,h1,_⟩ := p kv (by simp)
  have ih:=Di (kvs:=kvs) (fun x hx=>p x (List.mem_cons_of_mem _ hx)) k
  unfold Bx at ih ⊢
  rw [List.map_cons,List.map_cons,List.sum_cons,List.sum_cons,ih,e,Kv h1,Kv (k c cs h1)]
theorem L6 {H:Hp}:∀ {kvs:List ((List Int × Int) × V)},Cj H kvs -> Bx H kvs <= 8 * kvs.length
 | [],_=>Nat.zero_le _
 | kv :: kvs,p=>by
  obtain ⟨c,cs,e,h1,h2,_⟩ := p kv (by simp)
  have ih:=L6 (kvs:=kvs) (fun x hx=>p x (List.mem_cons_of_mem _ hx))
  unfold Bx at ih ⊢
  rw [List.map_cons,List.sum_cons,e,Kv h1,List.length_cons]
  omega
theorem Nd {H:Hp} {c:Addr} {cs gW:List (Ct × V)} (hc:H c = some (.dK cs)) (aX:gW.length < cs.length):∀ {kvs:List ((List Int × Int) × V)},Bx (upd H c (.dK gW)) kvs <= Bx H kvs /\ ((∃ kv ∈ kvs,kv.2 = .ref c) -> Bx (upd H c (.dK gW)) kvs + 1 <= Bx H kvs)
 | []=>⟨Nat.le_refl _,fun ⟨kv,h,_⟩=>by cases h⟩
 | kv :: kvs=>by
  obtain ⟨i1,i2⟩ := Nd hc aX (kvs:=kvs)
  have one:Zn (upd H c (.dK gW)) kv.2 <= Zn H kv.2 /\ (kv.2 = .ref c -> Zn (upd H c (.dK gW)) kv.2 + 1 <= Zn H kv.2):=by
   by_cases z:kv.2 = .ref c
   ·rw [z,Kv hc,Kv A5]
    omega
   ·refine ⟨Nat.le_of_eq ?_,fun y=>absurd y z⟩
    unfold Zn
    cases hv:kv.2 with
    | ref d =>
     rw [hv] at z
     have hd:d ≠ c:=fun y=>z (by rw [y])
     simp only [Aa hd]
    | _=>rfl
  unfold Bx at i1 i2 ⊢
  rw [List.map_cons,List.map_cons,List.sum_cons,List.sum_cons]
  refine ⟨by omega,fun ⟨x,hx,ex⟩=>?_⟩
  rcases List.mem_cons.mp hx with y | y
  ·subst y
   have:=one.2 ex
   omega
  ·have:=i2 ⟨x,y,ex⟩
   omega
theorem Yn {cs:List (Ct × V)} {k:Ct} {v:V} (h:Af cs k = some v):(Ba cs k).length < cs.length:=by
 have hm:=B7 h
 unfold Ba
 exact List.length_filter_lt_length_iff_exists.mpr ⟨(k,v),hm,by simp⟩
theorem Hl {cs:List (Ct × V)} {k:Ct} {e:Ct × V} (h:e ∈ Ba cs k):e ∈ cs:=(List.mem_filter.mp h).1
theorem Cj.pop {H:Hp} {c:Addr} {cs:List (Ct × V)} {k:Ct} {kvs:List ((List Int × Int) × V)} (p:Cj H kvs) (hc:H c = some (.dK cs)):Cj (upd H c (.dK (Ba cs k))) kvs:=fun kv aS=>by
 obtain ⟨d,ds,e,h1,h2,h3⟩ := p kv aS
 have t:LT H (upd H c (.dK (Ba cs k))):=LT.dK hc
 by_cases z:d = c
 ·subst z
  rw [hc] at h1
  cases h1
  refine ⟨d,Ba cs k,e,A5,Nat.le_trans (K2 cs k) h2,fun x hx=>?_⟩
  obtain ⟨g1,l,us,g2,g3,g4,g5⟩ := h3 x (Hl hx)
  exact ⟨g1,l,us,g2,t.1 _ _ g3,g4,fun u hu=>(g5 u hu).up t.2⟩
 ·exact ⟨d,ds,e,(Aa z).trans h1,h2,h3.up t⟩
def Sb (B:Addr) (H:Hp) (kvs:List ((List Int × Int) × V)):Prop := ∀ kv ∈ kvs,∀ c cs,kv.2 = .ref c -> H c = some (.dK cs) -> ∀ e ∈ cs,e.2 ≠ .ref B
theorem Sb.start {B:Addr} {H:Hp} {kvs:List ((List Int × Int) × V)} (p:Cj H kvs) (h:H B = none):Sb B H kvs:=fun kv aS c cs e1 e2 e he z=>by
 obtain ⟨d,ds,f1,f2,_,f3⟩ := p kv aS
 rw [e1] at f1
 cases f1
 rw [e2] at f2
 cases f2
 obtain ⟨_,l,us,g1,g2,_⟩ := f3 e he
 rw [z] at g1
 cases g1
 rw [h] at g2
 cases g2
theorem Sb.keep {B:Addr} {H H':Hp} {kvs:List ((List Int × Int) × V)} (n:Sb B H kvs) (p:Cj H kvs) (k:∀ c cs,H c = some (.dK cs) -> H' c = some (.dK cs)):Sb B H' kvs:=fun kv aS c cs e1 e2=>by
 obtain ⟨d,ds,f1,f2,_⟩ := p kv aS
 have AO:=f1
 rw [e1] at AO
 cases AO
 have:=k _ _ f2
 rw [e2] at this
 cases this
 exact n kv aS c cs e1 f2
theorem Sb.pop {B c:Addr} {H:Hp} {cs:List (Ct × V)} {k:Ct} {kvs:List ((List Int × Int) × V)} (n:Sb B H kvs) (hc:H c = some (.dK cs)):Sb B (upd H c (.dK (Ba cs k))) kvs:=fun kv aS d ds e1 e2 e he=>by
 by_cases z:d = c
 ·subst z
  rw [A5] at e2
  cases e2
  exact n kv aS d cs e1 hc e (Hl he)
 ·rw [Aa z] at e2
  exact n kv aS d ds e1 e2 e he
theorem Cj.rP {B:Addr} {H H':Hp} {kvs:List ((List Int × Int) × V)} (p:Cj H kvs) (n:Sb B H kvs) (t:Am H H') (kl:∀ l us,l ≠ B -> H l = some (.lst us) -> H' l = some (.lst us)) (k:∀ c cs,H c = some (.dK cs) -> H' c = some (.dK cs)):Cj H' kvs:=fun kv aS=>by
 obtain ⟨c,cs,e1,e2,e3,e4⟩ := p kv aS
 refine ⟨c,cs,e1,k _ _ e2,e3,fun e he=>?_⟩
 obtain ⟨g1,l,us,g2,g3,g4,g5⟩ := e4 e he
 exact ⟨g1,l,us,g2,kl _ _ (fun z=>n kv aS c cs e1 e2 e he (by rw [g2,z])) g3,g4,fun u hu=>(g5 u hu).up t⟩
theorem Cj.keep {H H':Hp} {kvs:List ((List Int × Int) × V)} (p:Cj H kvs) (t:LT H H') (k:∀ c cs,H c = some (.dK cs) -> H' c = some (.dK cs)):Cj H' kvs:=fun kv aS=>(p kv aS).up t k
theorem O4 (k:List Int × Int):Gc (dS k) (dS k) = false:=by
 have e1:PyData.eqv (dT k.1) (dT k.1) = true:=by
  show PyData.eqvAll (k.1.map PyData.int) (k.1.map PyData.int) = true
  rw [Ds]
  simp
 show aN [dT k.1,.int k.2] [dT k.1,.int k.2] = false
 rw [aN,if_pos e1,aN,if_pos (show PyData.eqv (.int k.2) (.int k.2) = true from PySem.SeqAt.eqv_refl _ rfl)]
 rfl
theorem Iw (ws:List Int) (q:Int):(B0 ws q).Nodup:=(Em ws q).imp fun {a b} h e=>by
 rw [e,O4] at h
 cases h
theorem N0 {α:Type} {xs:List α} {i:Nat} {x:α} (h:xs.Nodup) (e:xs[i]? = some x):x ∉ xs.take i:=fun z=>by
 obtain ⟨j,hj⟩ := List.mem_iff_getElem?.mp z
 have aX:j < i:=by
  apply Classical.byContradiction
  intro y
  rw [List.getElem?_take_eq_none (by omega)] at hj
  cases hj
 rw [List.getElem?_take_of_lt aX] at hj
 have h1:=(List.getElem?_eq_some_iff.mp hj)
 have h2:=(List.getElem?_eq_some_iff.mp e)
 obtain ⟨a1,a2⟩ := h1
 obtain ⟨b1,b2⟩ := h2
 exact (List.pairwise_iff_getElem.mp h) j i a1 b1 aX (a2.trans b2.symm)
theorem Cf {κ:Type} [DecidableEq κ] {kvs:List (κ × V)} {k:κ} {v:V} (hn:(kvs.map (·.1)).Nodup) (h:(k,v) ∈ kvs):Af kvs k = some v:=by
 induction kvs with
 | nil=>cases h
 | cons p r ih =>
  rw [List.map_cons,List.nodup_cons] at hn
  rcases List.mem_cons.mp h with z | z
  ·subst z
   exact Bn rfl
  ·have hp:¬ p.1 = k:=fun e=>hn.1 (by rw [e]; exact List.mem_map_of_mem (f:=(·.1)) z)
   rw [Bo hp]
   exact ih hn.2 z
theorem O1 {κ:Type} {kvs:List (κ × V)} {x y:κ × V} (hn:(kvs.map (·.2)).Nodup) (hx:x ∈ kvs) (hy:y ∈ kvs) (e:x.2 = y.2):x = y:=by
 induction kvs with
 | nil=>cases hx
 | cons p r ih =>
  rw [List.map_cons,List.nodup_cons] at hn
  rcases List.mem_cons.mp hx with z | z <;> rcases List.mem_cons.mp hy with y' | y'
  ·rw [z,y']
  ·subst z
   exact absurd (by rw [e]; exact List.mem_map_of_mem (f:=(·.2)) y') hn.1
  ·subst y'
   exact absurd (by rw [<- e]; exact List.mem_map_of_mem (f:=(·.2)) z) hn.1
  ·exact ih hn.2 z y'
theorem Wh {κ:Type} [DecidableEq κ] {kvs:List (κ × V)} {k:κ} {v:V} {e:κ × V} (h:e ∈ Bc kvs k v):e ∈ kvs \/ e = (k,v):=by
 unfold Bc at h
 split at h
 ·obtain ⟨x,hx,rfl⟩ := List.mem_map.mp h
  split
  ·rename_i hk
   exact .inr (by rw [hk])
  ·exact .inl hx
 ·rcases List.mem_append.mp h with z | z
  ·exact .inl z
  ·exact .inr (List.mem_singleton.mp z)
theorem Qj {κ:Type} [DecidableEq κ] {kvs:List (κ × V)} {k j:κ} {v:V} (h:(Af kvs j).isSome = true \/ j = k):(Af (Bc kvs k v) j).isSome = true:=by
 rw [Fm]
 split
 ·rfl
 ·rename_i hn
  rcases h with h | h
  ·exact h
  ·exact absurd h hn
def Fd (ws:List Int) (cm:Option Int) (z:List Int × Int) (H:Hp) (cs:List (Ct × V)):Prop := ∀ e ∈ cs,∃ (who:Nat) (l:Addr) (us:List V),e.1 = .inl (who:Int) /\ who < ws.length /\ none ∉ Au ws z.1 cm z.2 who /\ e.2 = .ref l /\ H l = some (.lst us) /\ Ah (Gu H) (Au ws z.1 cm z.2 who) us
def K0 (ws:List Int) (cm:Option Int) (H:Hp) (z:List Int × Int) (v:V):Prop := ∃ (c:Addr) (cs:List (Ct × V)),v = .ref c /\ H c = some (.dK cs) /\ cs.length <= 8 /\ Fd ws cm z H cs
theorem Fd.up {ws:List Int} {cm:Option Int} {z:List Int × Int} {H H':Hp} {cs:List (Ct × V)} (t:LT H H') (h:Fd ws cm z H cs):Fd ws cm z H' cs:=fun e he=>by
 obtain ⟨who,l,us,h1,h2,h3,h4,h5,h6⟩ := h e he
 exact ⟨who,l,us,h1,h2,h3,h4,t.1 _ _ h5,h6.imp fun _ _ y=>Gu.up t.2 y⟩
theorem Fd.ok {ws:List Int} {cm:Option Int} {z:List Int × Int} {H:Hp} {cs:List (Ct × V)} (h:Fd ws cm z H cs):Ht H cs:=fun e he=>by
 obtain ⟨who,l,us,h1,h2,h3,h4,h5,h6⟩ := h e he
 refine ⟨⟨_,h1⟩,l,us,h4,h5,?_,fun u hu=>?_⟩
 ·rw [h6.1]
  unfold Au
  split <;> simp
 ·obtain ⟨m,hm⟩ := List.mem_iff_getElem?.mp hu
  obtain ⟨r,oZ,hr2⟩ := h6.get hm
  cases r with
  | none=>exact absurd (List.mem_of_getElem? oZ) h3
  | some r =>
   obtain ⟨bb,e,h1⟩ := hr2
   exact ⟨bb,r,e,h1⟩
theorem K0.up {ws:List Int} {cm:Option Int} {z:List Int × Int} {H H':Hp} {v:V} (t:LT H H') (k:∀ c cs,H c = some (.dK cs) -> H' c = some (.dK cs)) (h:K0 ws cm H z v):K0 ws cm H' z v:=by
 obtain ⟨c,cs,e,h1,h2,h3⟩ := h
 exact ⟨c,cs,e,k _ _ h1,h2,h3.up t⟩
theorem K0.same {ws:List Int} {cm:Option Int} {z:List Int × Int} {H H':Hp} {v:V} (s:A9 H H') (h:K0 ws cm H z v):K0 ws cm H' z v:=h.up (LT.of s) fun c cs e=>s _ _ e
def C4 (ws:List Int) (cm:Option Int) (H:Hp) (kvs:List ((List Int × Int) × V)):Prop:=(∀ kv ∈ kvs,K0 ws cm H kv.1 kv.2) /\ (kvs.map (·.1)).Nodup /\ (kvs.map (·.2)).Nodup
theorem C4.ok {ws:List Int} {cm:Option Int} {H:Hp} {kvs:List ((List Int × Int) × V)} (h:C4 ws cm H kvs):Cj H kvs:=fun kv aS=>by
 obtain ⟨c,cs,e,h1,h2,h3⟩ := h.1 kv aS
 exact ⟨c,cs,e,h1,h2,h3.ok⟩
theorem C4.keep {ws:List Int} {cm:Option Int} {H H':Hp} {kvs:List ((List Int × Int) × V)} (p:C4 ws cm H kvs) (t:LT H H') (k:∀ c cs,H c = some (.dK cs) -> H' c = some (.dK cs)):C4 ws cm H' kvs:=⟨fun kv aS=>(p.1 kv aS).up t k,p.2⟩
def Kx (ws:List Int) (cm:Option Int) (H:Hp) (kvs:List ((List Int × Int) × V)):Prop := ∀ kv ∈ kvs,∀ c cs,kv.2 = .ref c -> H c = some (.dK cs) -> ∀ who:Nat,who < ws.length -> none ∉ Au ws kv.1.1 cm kv.1.2 who -> (Af cs (.inl (who:Int))).isSome = true
theorem Kx.keep {ws:List Int} {cm:Option Int} {H H':Hp} {kvs:List ((List Int × Int) × V)} (f:Kx ws cm H kvs) (p:C4 ws cm H kvs) (k:∀ c cs,H c = some (.dK cs) -> H' c = some (.dK cs)):Kx ws cm H' kvs:=fun kv aS c cs e1 e2=>by
 obtain ⟨d,ds,f1,f2,_⟩ := p.1 kv aS
 have AO:=f1
 rw [e1] at AO
 cases AO
 have:=k _ _ f2
 rw [e2] at this
 cases this
 exact f kv aS c cs e1 f2
def Al (H:Hp) (kvs:List ((List Int × Int) × V)) (k:List Int × Int) (who:Nat):Prop := ∃ (c:Addr) (cs:List (Ct × V)),Af kvs k = some (.ref c) /\ H c = some (.dK cs) /\ (Af cs (.inl (who:Int))).isSome = true
theorem Dl {α:Type} {xs:List α} {x:α} (h:xs.Nodup) (hx:x ∉ xs):(xs ++ [x]).Nodup:=by
 rw [List.nodup_append]
 refine ⟨h,by simp,fun a ha b hb e=>?_⟩
 rw [List.mem_singleton.mp hb] at e
 exact hx (e ▸ ha)
def Oa (ws:List Int) (cm:Option Int) (kvs:List ((List Int × Int) × V)) (H:Hp) (later:List Int × Int) (u:V):Prop := ∃ (t b:Addr) (who:Nat) (k:List Int × Int),u = .ref t /\ H t = some (.tup [.ref b,.int (who:Int)]) /\ F4 H b k /\ (∃ v,Af kvs k = some v) /\ some later ∈ Au ws k.1 cm k.2 who
theorem Oa.up {ws:List Int} {cm:Option Int} {kvs:List ((List Int × Int) × V)} {H H':Hp} {later:List Int × Int} {u:V} (t:Am H H') (h:Oa ws cm kvs H later u):Oa ws cm kvs H' later u:=by
 obtain ⟨a,b,i,k,e,h1,h2,h3,h4⟩ := h
 exact ⟨a,b,i,k,e,t _ _ h1,h2.up t,h3,h4⟩
def Ek (ws:List Int) (cm:Option Int) (H0:Hp) (kvs:List ((List Int × Int) × V)) (n:Nat) (H:Hp) (wv:List ((List Int × Int) × V)):Prop:=(∀ kv ∈ wv,∃ (l:Addr) (us:List V),kv.2 = .ref l /\ H0 l = none /\ H l = some (.lst us) /\ us.length <= n /\ ∀ u ∈ us,Oa ws cm kvs H kv.1 u) /\ (wv.map (·.2)).Nodup
theorem Ek.up {ws:List Int} {cm:Option Int} {H0 H H':Hp} {kvs wv:List ((List Int × Int) × V)} {n m:Nat} (t:LT H H') (hn:n <= m) (h:Ek ws cm H0 kvs n H wv):Ek ws cm H0 kvs m H' wv:=⟨fun kv aS=>by
 obtain ⟨l,us,e,h0,h1,h2,h3⟩ := h.1 kv aS
 exact ⟨l,us,e,h0,t.1 _ _ h1,by omega,fun u hu=>(h3 u hu).up t.2⟩,h.2⟩
theorem Ek.app {ws:List Int} {cm:Option Int} {H0 H:Hp} {kvs wv:List ((List Int × Int) × V)} {n:Nat} {l:Addr} {us:List V} {x:V} {later:List Int × Int} (h:Ek ws cm H0 kvs n H wv) (hm:(later,V.ref l) ∈ wv) (hl:H l = some (.lst us)) (hu:us.length <= n) (ha:∀ u ∈ us,Oa ws cm kvs H later u) (hx:Oa ws cm kvs H later x):Ek ws cm H0 kvs (n + 1) (upd H l (.lst (us ++ [x]))) wv:=⟨fun kv aS=>by
 have t:Am H (upd H l (.lst (us ++ [x]))):=Am.lst hl
 obtain ⟨l2,fP,e,h0,h1,h2,h3⟩ := h.1 kv aS
 by_cases z:l2 = l
 ·subst z
  have ek:kv = (later,V.ref l2):=O1 h.2 aS hm e
  refine ⟨l2,us ++ [x],e,h0,A5,by rw [List.length_append,List.length_singleton]; omega,fun u hu=>?_⟩
  rw [ek]
  exact (Hn ha hx u hu).up t
 ·exact ⟨l2,fP,e,h0,(Aa z).trans h1,by omega,fun u hu=>(h3 u hu).up t⟩,h.2⟩
def C9 (H:Hp) (wv:List ((List Int × Int) × V)) (later k:List Int × Int) (who:Nat):Prop := ∃ (l:Addr) (us:List V) (t b:Addr),Af wv later = some (.ref l) /\ H l = some (.lst us) /\ V.ref t ∈ us /\ H t = some (.tup [.ref b,.int (who:Int)]) /\ F4 H b k
theorem C9.up {H H':Hp} {wv:List ((List Int × Int) × V)} {later k:List Int × Int} {who:Nat} (t:LT H H') (h:C9 H wv later k who):C9 H' wv later k who:=by
 obtain ⟨l,us,a,b,h1,h2,h3,h4,h5⟩ := h
 exact ⟨l,us,a,b,h1,t.1 _ _ h2,h3,t.2 _ _ h4,h5.up t.2⟩
theorem C9.put {H:Hp} {wv:List ((List Int × Int) × V)} {later k lk:List Int × Int} {who:Nat} {v:V} (hn:Af wv lk = none) (h:C9 H wv later k who):C9 H (Bc wv lk v) later k who:=by
 obtain ⟨l,us,a,b,h1,h2⟩ := h
 refine ⟨l,us,a,b,?_,h2⟩
 rw [Fm,if_neg (fun e=>by rw [e,hn] at h1; cases h1)]
 exact h1
theorem C9.app {H:Hp} {wv:List ((List Int × Int) × V)} {later k:List Int × Int} {who:Nat} {l:Addr} {us:List V} {x:V} (hl:H l = some (.lst us)) (h:C9 H wv later k who):C9 (upd H l (.lst (us ++ [x]))) wv later k who:=by
 have t:Am H (upd H l (.lst (us ++ [x]))):=Am.lst hl
 obtain ⟨l2,fP,a,b,h1,h2,h3,h4,h5⟩ := h
 by_cases z:l2 = l
 ·subst z
  rw [hl] at h2
  cases h2
  exact ⟨l2,_,a,b,h1,A5,List.mem_append_left _ h3,t _ _ h4,h5.up t⟩
 ·exact ⟨l2,fP,a,b,h1,(Aa z).trans h2,h3,t _ _ h4,h5.up t⟩
theorem Pw {cs:List (Ct × V)} {k j:Ct}:Af (Ba cs k) j = if j = k then none else Af cs j:=by
 induction cs with
 | nil=>split <;> rfl
 | cons p r ih =>
  by_cases e:p.1 = k
  ·rw [U1 e,ih]
   by_cases z:j = k
   ·rw [if_pos z,if_pos z]
   ·rw [if_neg z,if_neg z,Bo (fun y=>z (by rw [<- y,e]))]
  ·have ed : Ba (p :: r) k = p :: Ba r k := by
    unfold Ba
    rw [List.filter_cons,if_pos (by simpa using e)]
   rw [ed]
   by_cases z:p.1 = j
   ·rw [Bn z,Bn z,if_neg (fun y=>e (z.trans y))]
   ·rw [Bo z,Bo z,ih]
theorem Al.keep {ws:List Int} {cm:Option Int} {H H':Hp} {kvs:List ((List Int × Int) × V)} {k:List Int × Int} {who:Nat} (p:C4 ws cm H kvs) (kk:∀ c cs,H c = some (.dK cs) -> H' c = some (.dK cs)):Al H' kvs k who ↔ Al H kvs k who:=by
 constructor
 ·rintro ⟨c,cs,h1,h2,h3⟩
  obtain ⟨d,ds,e,f1,_⟩ := p.1 _ (B7 h1)
  cases e
  have:=kk _ _ f1
  rw [h2] at this
  cases this
  exact ⟨c,cs,h1,f1,h3⟩
 ·rintro ⟨c,cs,h1,h2,h3⟩
  exact ⟨c,cs,h1,kk _ _ h2,h3⟩
theorem Al.pop {ws : List Int} {cm : Option Int} {H : Hp} {kvs : List ((List Int × Int) × V)} {k k' : List Int × Int} {who aQ : Nat} {c : Addr} {cs : List (Ct × V)} (p : C4 ws cm H kvs) (hk : Af kvs k = some (.ref c)) (hc : H c = some (.dK cs)) :
  Al (upd H c (.dK (Ba cs (.inl (who:Int))))) kvs k' aQ ↔ Al H kvs k' aQ /\ ¬ (k' = k /\ aQ = who):=by
 constructor
 ·rintro ⟨d,ds,h1,h2,h3⟩
  by_cases z:d = c
  ·subst z
   rw [A5] at h2
   cases h2
   have ek:(k',V.ref d) = (k,V.ref d):=O1 p.2.2 (B7 h1) (B7 hk) rfl
   cases ek
   rw [Pw] at h3
   by_cases y:(Sum.inl (aQ:Int):Ct) = .inl (who:Int)
   ·rw [if_pos y] at h3
    cases h3
   ·rw [if_neg y] at h3
    exact ⟨⟨d,cs,h1,hc,h3⟩,fun w=>y (by rw [w.2])⟩
  ·rw [Aa z] at h2
   refine ⟨⟨d,ds,h1,h2,h3⟩,fun w=>z ?_⟩
   rw [w.1,hk] at h1
   cases h1
   rfl
 ·rintro ⟨⟨d,ds,h1,h2,h3⟩,hn⟩
  by_cases z:d = c
  ·subst z
   have ek:(k',V.ref d) = (k,V.ref d):=O1 p.2.2 (B7 h1) (B7 hk) rfl
   cases ek
   rw [hc] at h2
   cases h2
   refine ⟨d,_,h1,A5,?_⟩
   rw [Pw,if_neg]
   ·exact h3
   ·intro y
    have y2:(aQ:Int) = (who:Int):=Sum.inl.inj y
    exact hn ⟨rfl,by omega⟩
  ·exact ⟨d,ds,h1,(Aa z).trans h2,h3⟩
theorem C4.pop {ws:List Int} {cm:Option Int} {H:Hp} {c:Addr} {cs:List (Ct × V)} {k:Ct} {kvs:List ((List Int × Int) × V)} (p:C4 ws cm H kvs) (hc:H c = some (.dK cs)):C4 ws cm (upd H c (.dK (Ba cs k))) kvs:=⟨fun kv aS=>by
 obtain ⟨d,ds,e,h1,h2,h3⟩ := p.1 kv aS
 have t:LT H (upd H c (.dK (Ba cs k))):=LT.dK hc
 by_cases z:d = c
 ·subst z
  rw [hc] at h1
  cases h1
  exact ⟨d,Ba cs k,e,A5,Nat.le_trans (K2 cs k) h2,fun x hx=>(h3.up t) x (Hl hx)⟩
 ·exact ⟨d,ds,e,(Aa z).trans h1,h2,h3.up t⟩,p.2⟩
theorem C4.rP {ws:List Int} {cm:Option Int} {B:Addr} {H H':Hp} {kvs:List ((List Int × Int) × V)} (p:C4 ws cm H kvs) (n:Sb B H kvs) (t:Am H H') (kl:∀ l us,l ≠ B -> H l = some (.lst us) -> H' l = some (.lst us)) (k:∀ c cs,H c = some (.dK cs) -> H' c = some (.dK cs)):C4 ws cm H' kvs:=⟨fun kv aS=>by
 obtain ⟨c,cs,e1,e2,e3,e4⟩ := p.1 kv aS
 refine ⟨c,cs,e1,k _ _ e2,e3,fun e he=>?_⟩
 obtain ⟨who,l,us,g1,g2,g3,g4,g5,g6⟩ := e4 e he
 exact ⟨who,l,us,g1,g2,g3,g4,kl _ _ (fun z=>n kv aS c cs e1 e2 e he (by rw [g4,z])) g5,g6.imp fun _ _ y=>Gu.up t y⟩,p.2⟩
theorem J1:∀ {xs ys:List Int},xs.map V.int = ys.map V.int -> xs = ys
 | [],[],_=>rfl
 | [],_ :: _,h=>by cases h
 | _ :: _,[],h=>by cases h
 | x :: xs,y :: ys,h=>by
  rw [List.map_cons,List.map_cons] at h
  injection h with h1 h2
  injection h1 with h1
  rw [h1,J1 h2]
def Q6 (ws:List Int) (cm:Option Int) (tv:List ((List Int × Int) × V)) (k:List Int × Int) (m:Int):Prop :=
 (∀ who,who < ws.length -> none ∈ Au ws k.1 cm k.2 who \/ ∃ later m',some later ∈ Au ws k.1 cm k.2 who /\ Af tv later = some (.int m') /\ m' <= m - 1) /\
 (m = 1 \/ ∃ who,who < ws.length /\ none ∉ Au ws k.1 cm k.2 who /\ ∀ later m',some later ∈ Au ws k.1 cm k.2 who -> Af tv later = some (.int m') -> m - 1 <= m')
def Cv (ws:List Int) (cm:Option Int) (tv:List ((List Int × Int) × V)):Prop :=
 (∀ k v,Af tv k = some v -> ∃ m:Int,v = .int m /\ 1 <= m /\ k ∈ B0 ws (qv cm) /\ Q6 ws cm tv k m) /\
 (∀ k,k ∈ B0 ws (qv cm) -> Af tv k = none -> ∃ who,who < ws.length /\ none ∉ Au ws k.1 cm k.2 who /\ ∀ later,some later ∈ Au ws k.1 cm k.2 who -> Af tv later = none)
def F0 (ws:List Int) (cm:Option Int) (tv:List ((List Int × Int) × V)) (bG:List (List Int × Int)) (r:Int) (Lf:(List Int × Int) -> Nat -> Prop):Prop :=
 1 <= r /\ (∀ kv ∈ tv,∃ n:Int,kv.2 = .int n /\ 1 <= n /\ n < r) /\ (∀ k ∈ bG,k ∈ B0 ws (qv cm) /\ Af tv k = none) /\ (∀ k v,Af tv k = some v -> k ∈ B0 ws (qv cm)) /\
 (∀ k who,Lf k who ↔ (k ∈ B0 ws (qv cm) /\ who < ws.length /\ none ∉ Au ws k.1 cm k.2 who /\ ∀ later,some later ∈ Au ws k.1 cm k.2 who -> Af tv later = none)) /\
 (∀ k,k ∈ B0 ws (qv cm) -> ((∀ who,¬ Lf k who) ↔ (k ∈ bG \/ (Af tv k).isSome = true))) /\
 (∀ k m,Af tv k = some (.int m) -> Q6 ws cm tv k m) /\ ∀ k ∈ bG,Q6 ws cm tv k r
theorem F0.done {ws:List Int} {cm:Option Int} {tv:List ((List Int × Int) × V)} {r:Int} {Lf:(List Int × Int) -> Nat -> Prop} (h:F0 ws cm tv [] r Lf):Cv ws cm tv:=by
 obtain ⟨h0,hv,cY,dW,hb,hc,KW,hd2⟩ := h
 refine ⟨fun k v e=>?_,fun k hk e=>?_⟩
 ·obtain ⟨n,e1,e2,_⟩ := hv _ (B7 e)
  have lL:v = .int n:=e1
  subst lL
  exact ⟨n,rfl,e2,dW k _ e,KW k n e⟩
 ·have hn : ¬ ∀ who, ¬ Lf k who := fun z => by
   rcases (hc k hk).mp z with y | y
   ·cases y
   ·rw [e] at y
    cases y
  obtain ⟨who,hw⟩ := Classical.not_forall.mp hn
  obtain ⟨g1,g2,g3,g4⟩ := (hb k who).mp (Classical.not_not.mp hw)
  exact ⟨who,g2,g3,g4⟩
theorem F0.step {ws : List Int} {cm : Option Int} {tv pA : List ((List Int × Int) × V)} {bG beta : List (List Int × Int)} {r : Int} {Lf GX : (List Int × Int) -> Nat -> Prop} (h : F0 ws cm tv bG r Lf)
  (ht:∀ k,Af pA k = if k ∈ bG then some (.int r) else Af tv k) (GY:∀ kv ∈ pA,∃ n:Int,kv.2 = .int n /\ 1 <= n /\ n < r + 1)
  (hl:∀ k who,GX k who ↔ (Lf k who /\ ∀ later ∈ bG,some later ∉ Au ws k.1 cm k.2 who)) (GZ:∀ k,k ∈ beta ↔ ((∃ who,Lf k who) /\ ∀ who,¬ GX k who)):F0 ws cm pA beta (r + 1) GX:=by
 obtain ⟨h0,hv,cY,dW,hb,hc,KW,hd2⟩ := h
 have jW:∀ k,Af pA k = none ↔ (k ∉ bG /\ Af tv k = none):=fun k=>by
  rw [ht]
  by_cases z:k ∈ bG
  ·rw [if_pos z]
   exact ⟨fun y=>(nomatch y),fun y=>absurd z y.1⟩
  ·rw [if_neg z]
   exact ⟨fun y=>⟨z,y⟩,fun y=>y.2⟩
 have old:∀ later m',Af tv later = some (.int m') -> Af pA later = some (.int m'):=fun later m' e=>by
  rw [ht,if_neg (fun z=>by rw [(cY later z).2] at e; cases e)]
  exact e
 have back:∀ later m',Af pA later = some (.int m') -> (later ∈ bG /\ m' = r) \/ Af tv later = some (.int m'):=fun later m' e=>by
  rw [ht] at e
  by_cases z:later ∈ bG
  ·rw [if_pos z] at e
   cases e
   exact .inl ⟨z,rfl⟩
  ·rw [if_neg z] at e
   exact .inr e
 have more:∀ k m,m <= r -> Q6 ws cm tv k m -> Q6 ws cm pA k m:=fun k m hm ⟨p1,p2⟩=>by
  refine ⟨fun who hw=>?_,?_⟩
  ·rcases p1 who hw with y | ⟨later,m',y1,y2,y3⟩
   ·exact .inl y
   ·exact .inr ⟨later,m',y1,old _ _ y2,y3⟩
  ·rcases p2 with y | ⟨who,y1,y2,y3⟩
   ·exact .inl y
   ·refine .inr ⟨who,y1,y2,fun later m' z1 z2=>?_⟩
    rcases back later m' z2 with ⟨_,e⟩ | e
    ·omega
    ·exact y3 later m' z1 e
 have oV:∀ k who,GX k who ↔ (k ∈ B0 ws (qv cm) /\ who < ws.length /\ none ∉ Au ws k.1 cm k.2 who /\ ∀ later,some later ∈ Au ws k.1 cm k.2 who -> Af pA later = none):=fun k who=>by
  rw [hl,hb]
  constructor
  ·rintro ⟨⟨g1,g2,g3,g4⟩,g5⟩
   exact ⟨g1,g2,g3,fun later z=>(jW later).mpr ⟨fun y=>g5 later y z,g4 later z⟩⟩
  ·rintro ⟨g1,g2,g3,g4⟩
   exact ⟨⟨g1,g2,g3,fun later z=>((jW later).mp (g4 later z)).2⟩,fun later y z=>((jW later).mp (g4 later z)).1 y⟩
 refine ⟨by omega,GY,fun k hk=>?_,fun k v e=>?_,oV,fun k hk=>?_,fun k m e=>?_,fun k hk=>?_⟩
 ·obtain ⟨⟨who,hw⟩,hn⟩ := (GZ k).mp hk
  have hs:=((hb k who).mp hw).1
  refine ⟨hs,(jW k).mpr ⟨fun z=>?_,?_⟩⟩
  ·exact (hc k hs).mpr (.inl z) who hw
  ·cases hvk:Af tv k with
   | none=>rfl
   | some v=>exact absurd hw ((hc k hs).mpr (.inr (by rw [hvk]; rfl)) who)
 ·rw [ht] at e
  by_cases z:k ∈ bG
  ·exact (cY k z).1
  ·rw [if_neg z] at e
   exact dW k v e
 ·constructor
  ·intro z
   by_cases y:∃ who,Lf k who
   ·exact .inl ((GZ k).mpr ⟨y,z⟩)
   ·right
    rcases (hc k hk).mp (fun who w=>y ⟨who,w⟩) with x | x
    ·rw [ht,if_pos x]
     rfl
    ·obtain ⟨v,AQ⟩ := Option.isSome_iff_exists.mp x
     obtain ⟨n,e1,_⟩ := hv _ (B7 AQ)
     have lL:v = .int n:=e1
     rw [lL] at AQ
     rw [old k n AQ]
     rfl
  ·rintro (z | z) who w
   ·exact ((GZ k).mp z).2 who w
   ·have w1:=((hl k who).mp w).1
    rw [ht] at z
    by_cases y:k ∈ bG
    ·exact (hc k hk).mpr (.inl y) who w1
    ·rw [if_neg y] at z
     exact (hc k hk).mpr (.inr z) who w1
 ·rcases back k m e with ⟨y1,y2⟩ | y
  ·subst y2
   exact more k m (Int.le_refl _) (hd2 k y1)
  ·obtain ⟨n,e1,e2,e3⟩ := hv _ (B7 y)
   cases e1
   exact more k m (by omega) (KW k m y)
 ·obtain ⟨⟨AR,uZ⟩,hn⟩ := (GZ k).mp hk
  obtain ⟨g1,g2,g3,g4⟩ := (hb k AR).mp uZ
  refine ⟨fun who hw=>?_,.inr ⟨AR,g2,g3,fun later m' z1 z2=>?_⟩⟩
  ·by_cases y:none ∈ Au ws k.1 cm k.2 who
   ·exact .inl y
   ·right
    have hnn:¬ ∀ later,some later ∈ Au ws k.1 cm k.2 who -> Af pA later = none:=fun z=>hn who ((oV k who).mpr ⟨g1,hw,y,z⟩)
    obtain ⟨later,hx⟩ := Classical.not_forall.mp hnn
    obtain ⟨x1,x2⟩ := Classical.not_imp.mp hx
    cases KY:Af pA later with
    | none=>exact absurd KY x2
    | some v =>
     obtain ⟨n,e1,e2,e3⟩ := GY _ (B7 KY)
     have lL:v = .int n:=e1
     exact ⟨later,n,x1,by rw [KY,lL],by omega⟩
  ·rcases back later m' z2 with ⟨_,e⟩ | e
   ·omega
   ·rw [g4 later z1] at e
    cases e
theorem ez {κ:Type} [DecidableEq κ] {kvs:List (κ × V)} {k:κ} {v:V} (hn:(kvs.map (·.1)).Nodup):((Bc kvs k v).map (·.1)).Nodup:=by
 cases e:Af kvs k with
 | none =>
  rw [De v e,List.map_append]
  exact Dl hn (Jz e)
 | some w =>
  have hk:(kvs.any fun kv=>decide (kv.1 = k)) = true:=by
   rw [D6,e]
   rfl
  unfold Bc
  rw [if_pos hk,List.map_map]
  have:(kvs.map ((fun x=>x.1) ∘ fun kv=>if kv.1 = k then (kv.1,v) else kv)) = kvs.map (·.1):=by
   apply List.map_congr_left
   intro x _
   show (if x.1 = k then (x.1,v) else x).1 = x.1
   split <;> rfl
  rw [this]
  exact hn
def W0 (H:Hp) (v:V):Prop := ∃ c,v = .ref c /\ H c = some (.dK [])
theorem F0.start {ws:List Int} {cm:Option Int} {H:Hp} {kvs:List ((List Int × Int) × V)} {bG:List (List Int × Int)} (hp:C4 ws cm H kvs) (hk:kvs.map (·.1) = B0 ws (qv cm)) (hf:Kx ws cm H kvs) (hr:∀ k,k ∈ bG ↔ ∃ v,(k,v) ∈ kvs /\ W0 H v):F0 ws cm [] bG 1 (Al H kvs):=by
 have mem:∀ k,k ∈ B0 ws (qv cm) ↔ ∃ v,(k,v) ∈ kvs:=fun k=>by
  rw [<- hk,List.mem_map]
  exact ⟨fun ⟨x,h1,h2⟩=>⟨x.2,by rw [<- h2]; exact h1⟩,fun ⟨v,h1⟩=>⟨_,h1,rfl⟩⟩
 have hb:∀ k who,Al H kvs k who ↔ (k ∈ B0 ws (qv cm) /\ who < ws.length /\ none ∉ Au ws k.1 cm k.2 who):=fun k who=>by
  constructor
  ·rintro ⟨c,cs,h1,h2,h3⟩
   have hm:=B7 h1
   obtain ⟨d,ds,e,f1,_,f2⟩ := hp.1 _ hm
   cases e
   rw [h2] at f1
   cases f1
   obtain ⟨w',KZ⟩ := Option.isSome_iff_exists.mp h3
   obtain ⟨mH,l,us,g1,g2,g3,_⟩ := f2 _ (B7 KZ)
   have g1':(who:Int) = (mH:Int):=Sum.inl.inj g1
   have:who = mH:=by omega
   subst this
   exact ⟨(mem k).mpr ⟨_,hm⟩,g2,g3⟩
  ·rintro ⟨h1,h2,h3⟩
   obtain ⟨v,hm⟩ := (mem k).mp h1
   obtain ⟨c,cs,e,f1,_,f2⟩ := hp.1 _ hm
   have e':v = .ref c:=e
   subst e'
   exact ⟨c,cs,Cf hp.2.1 hm,f1,hf _ hm c cs rfl f1 who h2 h3⟩
 have hc:∀ k,k ∈ B0 ws (qv cm) -> ((∀ who,¬ Al H kvs k who) ↔ k ∈ bG):=fun k lG=>by
  obtain ⟨v,hm⟩ := (mem k).mp lG
  obtain ⟨c,cs,e,f1,_,f2⟩ := hp.1 _ hm
  have e':v = .ref c:=e
  subst e'
  rw [hr]
  constructor
  ·intro z
   refine ⟨_,hm,c,rfl,?_⟩
   cases cs with
   | nil=>exact f1
   | cons x xs =>
    obtain ⟨who,l,us,g1,_⟩ := f2 x (by simp)
    exact absurd ⟨c,_,Cf hp.2.1 hm,f1,by rw [Bn g1]; rfl⟩ (z who)
  ·rintro ⟨v',kK,c',e1,e2⟩ who ⟨c2,cs2,g1,g2,g3⟩
   have h1:=Cf hp.2.1 hm
   rw [Cf hp.2.1 kK,e1] at h1
   cases h1
   rw [Cf hp.2.1 hm] at g1
   cases g1
   rw [e2] at g2
   cases g2
   cases g3
 refine ⟨Int.le_refl _,(fun kv z=>by cases z),fun k eX=>?_,(fun k v z=>by cases z),fun k who=>?_,fun k lG=>?_,(fun k m z=>by cases z),fun k eX=>?_⟩
 ·obtain ⟨v,hm,_⟩ := (hr k).mp eX
  exact ⟨(mem k).mpr ⟨v,hm⟩,rfl⟩
 ·rw [hb]
  exact ⟨fun z=>⟨z.1,z.2.1,z.2.2,fun _ _=>rfl⟩,fun z=>⟨z.1,z.2.1,z.2.2.1⟩⟩
 ·rw [hc k lG]
  exact ⟨fun z=>.inl z,fun z=>z.elim id (fun y=>by cases y)⟩
 ·obtain ⟨v,hm,_⟩ := (hr k).mp eX
  have lG:=(mem k).mpr ⟨v,hm⟩
  refine ⟨fun who hw=>?_,.inl rfl⟩
  left
  apply Classical.byContradiction
  intro y
  exact (hc k lG).mpr eX who ((hb k who).mpr ⟨lG,hw,y⟩)
theorem X5 (ws:List Int) (w:Int):ws.map V.int ++ [V.int w] = (ws ++ [w]).map V.int:=by rw [List.map_append]; rfl
theorem Vk {α:Type} {ls:List α} {x:α} {i:Nat} (h:ls.length = i):(ls ++ [x]).length = i + 1:=by
 rw [List.length_append,h]
 rfl
theorem Wn {ls:List Int} {j:Nat} (h:j < ls.length):ls[j]? = some (ls.getD j 0):=by
 rw [List.getD_eq_getElem?_getD,List.getElem?_eq_getElem h]
 rfl
theorem Ic {ls:List Int} {j:Nat} (h:j < ls.length):ls.getD j 0 ∈ ls:=List.mem_of_getElem? (Wn h)
def Nq (ws:List Int) (cm:Option Int):Prop:=(∀ w ∈ ws,1 <= w /\ w <= 3000) /\ (∀ c,cm = some c -> 1 <= c /\ c < 3000) /\ 0 < ws.length /\ ws.length <= 8 /\ Ad (qv cm) ws <= 300
theorem Fg {w:Int} (h1:0 <= w) (h2:w <= 3000):intBits w <= 256:=Nat.le_trans (Jn (n:=12) (by omega)) (by decide)
theorem Nq.qv {ws:List Int} {cm:Option Int} (h:Nq ws cm):1 <= qv cm /\ qv cm <= 3000:=by
 cases cm with
 | none=>exact ⟨Int.le_refl _,by decide⟩
 | some c =>
  have:=h.2.1 c rfl
  show 1 <= c + 1 /\ c + 1 <= 3000
  omega
theorem Gy {b:Int}:∀ (ws:List Int) (a:Int),0 <= a -> (∀ w ∈ ws,1 <= w /\ w <= b) -> Ad a ws <= a * b ^ ws.length
 | [],a,_,_=>by
  show a <= a * b ^ 0
  rw [Int.pow_zero,Int.mul_one]
  exact Int.le_refl _
 | w :: ws,a,h0,hw=>by
  have h1:=hw w (by simp)
  have ih:=Gy ws (a * w) (Int.mul_nonneg h0 (by omega)) fun x hx=>hw x (List.mem_cons_of_mem _ hx)
  have hb:0 <= b ^ ws.length:=Int.pow_nonneg (by omega)
  have h2:a * w * b ^ ws.length <= a * b * b ^ ws.length:=Int.mul_le_mul_of_nonneg_right (Int.mul_le_mul_of_nonneg_left h1.2 h0) hb
  have e:a * b ^ (w :: ws).length = a * b * b ^ ws.length:=by
   rw [List.length_cons,Int.pow_succ,Int.mul_comm (b ^ ws.length) b,Int.mul_assoc]
  rw [e]
  exact Int.le_trans ih h2
theorem Wf {xs:List Int} {k:Nat} {i:Int} (h:k < xs.length) (e:i = (k:Int)):Ui (xs.map V.int) i = some (.int (xs.getD k 0)):=by
 rw [e]
 exact Tj h
def i8 (ws:List Int) (most:Int):Prop:=(∀ w ∈ ws,1 <= w /\ w <= 3000) /\ 0 < ws.length /\ ws.length <= 8 /\ 1 <= most /\ most <= 4 /\ Ad 1 ws * (most + 1) <= 300
theorem i8.of {ws:List Int} {most b:Int} {n:Nat} (h:∀ w ∈ ws,1 <= w /\ w <= b) (hl:ws.length = n) (h0:0 < n) (h8:n <= 8) (hb:b <= 3000) (hm:1 <= most /\ most <= 4) (hp:b ^ n * (most + 1) <= 300):i8 ws most:=by
 have h1:=Gy ws 1 (by decide) h
 rw [hl,Int.one_mul] at h1
 have h2:Ad 1 ws * (most + 1) <= b ^ n * (most + 1):=Int.mul_le_mul_of_nonneg_right h1 (by omega)
 exact ⟨fun w hw=>by have:=h w hw; omega,by omega,by omega,hm.1,hm.2,by omega⟩
theorem i8.hall {ws:List Int} {most:Int} (h:i8 ws most):Nq ws none /\ ∀ x:Int,Nq ws (some (1 + x % most)):=by
 obtain ⟨h1,h2,h3,h4,h5,h6⟩ := h
 have hp:=Dt ws 1 (by decide) fun w hw=>(h1 w hw).1
 refine ⟨⟨h1,(fun c z=>nomatch z),h2,h3,?_⟩,fun x=>⟨h1,(fun c z=>?_),h2,h3,?_⟩⟩
 ·show Ad 1 ws <= 300
  have:Ad 1 ws * 1 <= Ad 1 ws * (most + 1):=Int.mul_le_mul_of_nonneg_left (by omega) (by omega)
  omega
 ·cases z
  have:=Bv x (m:=most) (by omega)
  omega
 ·have hx:=Bv x (m:=most) (by omega)
  show Ad (1 + x % most + 1) ws <= 300
  have e:Ad (1 + x % most + 1) ws = (1 + x % most + 1) * Ad 1 ws:=by rw [<- Ii,Int.mul_one]
  rw [e,Int.mul_comm]
  have:Ad 1 ws * (1 + x % most + 1) <= Ad 1 ws * (most + 1):=Int.mul_le_mul_of_nonneg_left (by omega) (by omega)
  omega
theorem U6 {ws ls:List Int} {who i:Nat} {lost:Bool} (hi:i < ls.length):(Bp ws ls who lost)[i]? = some (if i = who /\ lost = false then ws.getD who 0 else ls.getD i 0 - 1):=by
 have e:(ls.map fun x=>x - 1)[i]? = some (ls.getD i 0 - 1):=by
  rw [List.getElem?_map,List.getElem?_eq_getElem hi,List.getD_eq_getElem?_getD,List.getElem?_eq_getElem hi]
  rfl
 unfold Bp
 cases lost with
 | true =>
  rw [if_pos rfl,if_neg (fun z=>nomatch z.2)]
  exact e
 | false =>
  rw [if_neg Bool.false_ne_true,List.getElem?_set]
  by_cases z:i = who
  ·subst z
   rw [if_pos rfl,if_pos (by rw [List.length_map]; exact hi),if_pos ⟨rfl,rfl⟩]
  ·rw [if_neg (fun y=>z y.symm),if_neg (fun y=>z y.1)]
   exact e
def Pl (cm:Option Int) (q:Int):List Bool:=if Hd cm q = true then [false,true] else [false]
theorem P2 (ws ls:List Int) (cm:Option Int) (q:Int) (who:Nat):Au ws ls cm q who = (Pl cm q).map fun lost=>Co ws ls cm q who lost:=by
 unfold Au Pl
 split <;> rfl
def uc (tv:List ((List Int × Int) × V)):Option (List Int × Int) -> Bool
 | none=>false
 | some k=>(Af tv k).isNone
def ny (z k:List Int × Int):Prop:=z.1.length = k.1.length /\ (∀ i,i < k.1.length -> 1 <= z.1.getD i 0 /\ z.1.getD i 0 <= k.1.getD i 0) /\ 0 <= z.2 /\ z.2 <= k.2
theorem Kt {xs:List Int} {i:Nat} (h:i < xs.length):xs[i]? = some (xs.getD i 0):=by
 rw [List.getD_eq_getElem?_getD,List.getElem?_eq_getElem h]
 rfl
theorem S6:∀ (ws:List Int) (rows:List (List Int)) (r0 ext:List Int),r0 ∈ rows -> ext.length = ws.length -> (∀ i,i < ws.length -> 1 <= ext.getD i 0 /\ ext.getD i 0 <= ws.getD i 0) -> r0 ++ ext ∈ ws.foldl Bq rows
 | [],rows,r0,ext,h,hl,_=>by
  have e:ext = []:=List.length_eq_zero_iff.mp hl
  rw [e,List.append_nil]
  exact h
 | w :: ws,rows,r0,[],h,hl,_=>by simp at hl
 | w :: ws,rows,r0,x :: ext,h,hl,hb=>by
  have h0:=hb 0 (by simp)
  have hx:1 <= x /\ x <= w:=h0
  have bV:r0 ++ [x] ∈ Bq rows w:=by
   refine List.mem_flatMap.mpr ⟨r0,h,List.mem_map.mpr ⟨(x - 1).toNat,List.mem_range.mpr (by omega),?_⟩⟩
   have e:1 + (((x - 1).toNat:Nat):Int) = x:=by omega
   rw [e]
  have ih:=S6 ws (Bq rows w) (r0 ++ [x]) ext bV (by simpa using hl) fun i hi=>hb (i + 1) (by simp; omega)
  rw [List.append_assoc] at ih
  exact ih
theorem Q7 {ws:List Int} {q:Int} {z:List Int × Int} (h1:z.1.length = ws.length) (h2:∀ i,i < ws.length -> 1 <= z.1.getD i 0 /\ z.1.getD i 0 <= ws.getD i 0) (h3:0 <= z.2) (h4:z.2 < q):z ∈ B0 ws q:=by
 refine List.mem_flatMap.mpr ⟨z.1,?_,List.mem_map.mpr ⟨z.2.toNat,List.mem_range.mpr (by omega),?_⟩⟩
 ·have:=S6 ws [[]] [] z.1 (by simp) h1 h2
  exact this
 ·have e:0 + ((z.2.toNat:Nat):Int) = z.2:=by omega
  rw [e]
theorem Fq {ws:List Int} {q:Int} {z:List Int × Int} (h:z ∈ B0 ws q):z.1.length = ws.length /\ (∀ i,i < ws.length -> 1 <= z.1.getD i 0 /\ z.1.getD i 0 <= ws.getD i 0) /\ 0 <= z.2 /\ z.2 < q:=by
 obtain ⟨m1,m2,m3,m4⟩ := N3 h
 exact ⟨m1,fun i hi=>m2 i _ _ (Kt (by omega)) (Kt hi),m3,m4⟩
theorem Xo {ws ls:List Int} {who i:Nat} {lost:Bool} (hi:i < ls.length):(Bp ws ls who lost).getD i 0 = if i = who /\ lost = false then ws.getD who 0 else ls.getD i 0 - 1:=by
 rw [List.getD_eq_getElem?_getD,U6 hi]
 rfl
theorem d9 {ws ls:List Int} {cm:Option Int} {q:Int} {who:Nat} {o:Option (List Int × Int)}:o ∈ Au ws ls cm q who ↔ ∃ lost,lost ∈ Pl cm q /\ Co ws ls cm q who lost = o:=by
 rw [P2,List.mem_map]
theorem Vx {ws ls:List Int} {cm:Option Int} {q:Int} {who:Nat} {lost:Bool} {k:List Int × Int} (h:Co ws ls cm q who lost = some k):(0:Int) ∉ Bp ws ls who lost /\ k = (Bp ws ls who lost,Cz cm q lost):=by
 unfold Co at h
 by_cases z:(0:Int) ∈ Bp ws ls who lost
 ·rw [if_pos z] at h
  cases h
 ·rw [if_neg z] at h
  exact ⟨z,(Option.some.inj h).symm⟩
theorem b6 {ws:List Int} {cm:Option Int} {k l:List Int × Int} {who:Nat} {lost:Bool} (dH:∀ w ∈ ws,1 <= w) (hk:k ∈ B0 ws (qv cm)) (v8:who < ws.length) (hlo:lost ∈ Pl cm k.2) (h:Co ws k.1 cm k.2 who lost = some l):l ∈ B0 ws (qv cm):=by
 obtain ⟨g1,g2,g3,g4⟩ := Fq hk
 obtain ⟨hz,rfl⟩ := Vx h
 have hwp:1 <= ws.getD who 0:=dH _ (Ic v8)
 have hlen:(Bp ws k.1 who lost).length = k.1.length:=Of _ _ _ _
 refine Q7 (by rw [hlen]; exact g1) (fun i hi=>?_) ?_ ?_
 ·have b:=g2 i hi
  have dX:(Bp ws k.1 who lost).getD i 0 ≠ 0:=fun e=>by
   have:=Kt (xs:=Bp ws k.1 who lost) (i:=i) (by omega)
   rw [e] at this
   exact hz (List.mem_of_getElem? this)
  show 1 <= (Bp ws k.1 who lost).getD i 0 /\ (Bp ws k.1 who lost).getD i 0 <= ws.getD i 0
  rw [Xo (by omega)] at dX ⊢
  by_cases y:i = who /\ lost = false
  ·rw [if_pos y,y.1]
   omega
  ·rw [if_neg y] at dX
   rw [if_neg y]
   omega
 ·show 0 <= Cz cm k.2 lost
  unfold Cz
  cases lost with
  | true =>
   rw [if_pos rfl]
   cases cm with
   | none=>exact Int.le_refl _
   | some c =>
    show 0 <= c
    have:k.2 < c + 1:=g4
    omega
  | false =>
   rw [if_neg Bool.false_ne_true]
   omega
 ·show Cz cm k.2 lost < qv cm
  unfold Cz
  cases lost with
  | true =>
   rw [if_pos rfl]
   cases cm with
   | none=>decide
   | some c =>
    show c < c + 1
    omega
  | false =>
   rw [if_neg Bool.false_ne_true]
   have:0 < qv cm:=by omega
   omega
theorem ny.set {ls:List Int} {n:Int} {i:Nat} (hp:∀ i,i < ls.length -> 1 <= ls.getD i 0) (hn:0 <= n) (h:i < ls.length) (h1:1 < ls.getD i 0):ny (ls.take i ++ [ls.getD i 0 - 1] ++ ls.drop (i + 1),n) (ls,n):=by
 have e:ls.take i ++ [ls.getD i 0 - 1] ++ ls.drop (i + 1) = ls.set i (ls.getD i 0 - 1):=by
  rw [List.set_eq_take_append_cons_drop,if_pos h,List.append_assoc]
  rfl
 rw [e]
 refine ⟨List.length_set,fun j hj=>?_,hn,Int.le_refl _⟩
 show 1 <= (ls.set i (ls.getD i 0 - 1)).getD j 0 /\ (ls.set i (ls.getD i 0 - 1)).getD j 0 <= ls.getD j 0
 have LA:j < ls.length:=hj
 have b:=hp j LA
 rw [List.getD_eq_getElem?_getD,List.getElem?_set]
 by_cases z:i = j
 ·subst z
  rw [if_pos rfl,if_pos h]
  show 1 <= ls.getD i 0 - 1 /\ ls.getD i 0 - 1 <= ls.getD i 0
  omega
 ·rw [if_neg z,<- List.getD_eq_getElem?_getD]
  omega
def wd (x:Int × Int):PyData:=dP (.int x.1) (.int x.2)
def Gb (x y:Int × Int):Bool:=decide (y.1 < x.1 \/ (x.1 = y.1 /\ y.2 < x.2))
theorem Ig (a b:Int):PyData.eqv (.int a) (.int b) = decide (a = b):=rfl
theorem dh (x y:Int × Int):Tn (wd x) (wd y) = Gb x y:=by
 obtain ⟨a,b⟩ := x
 obtain ⟨c,d⟩ := y
 show (if PyData.eqv (.int a) (.int c) = true then (if PyData.eqv (.int b) (.int d) = true then bB [] [] else Tn (.int b) (.int d)) else Tn (.int a) (.int c)) = decide (c < a \/ (a = c /\ d < b))
 rw [Ig,Ig]
 show (if decide (a = c) = true then (if decide (b = d) = true then false else decide (b > d)) else decide (a > c)) = decide (c < a \/ (a = c /\ d < b))
 by_cases h1:a = c
 ·rw [if_pos (decide_eq_true h1)]
  by_cases h2:b = d
  ·rw [if_pos (decide_eq_true h2)]
   exact (decide_eq_false (by omega)).symm
  ·rw [if_neg (by simpa using h2)]
   exact decide_eq_decide.mpr (by omega)
 ·rw [if_neg (by simpa using h1)]
  exact decide_eq_decide.mpr (by omega)
theorem dq (x y:Int × Int):Gc (wd x) (wd y) = Gb y x:=by
 obtain ⟨a,b⟩ := x
 obtain ⟨c,d⟩ := y
 show (if PyData.eqv (.int a) (.int c) = true then (if PyData.eqv (.int b) (.int d) = true then aN [] [] else Gc (.int b) (.int d)) else Gc (.int a) (.int c)) = decide (a < c \/ (c = a /\ b < d))
 rw [Ig,Ig]
 show (if decide (a = c) = true then (if decide (b = d) = true then false else decide (b < d)) else decide (a < c)) = decide (a < c \/ (c = a /\ b < d))
 by_cases h1:a = c
 ·rw [if_pos (decide_eq_true h1)]
  by_cases h2:b = d
  ·rw [if_pos (decide_eq_true h2)]
   exact (decide_eq_false (by omega)).symm
  ·rw [if_neg (by simpa using h2)]
   exact decide_eq_decide.mpr (by omega)
 ·rw [if_neg (by simpa using h1)]
  exact decide_eq_decide.mpr (by omega)
theorem dc (x y:Int × Int):Gd (wd x) (wd y):=by
 show Gd (.tuple [.int x.1,.int x.2]) (.tuple [.int y.1,.int y.2])
 simp [Gd,bE]
theorem P5 (x:Int × Int):(wd x).depth <= 50:=by
 show (dP _ _).depth <= 50
 rw [Oj]
 show max 0 0 + 1 <= 50
 decide
theorem Zi {H:Hp} {p:Addr} {x:Int × Int} (h:H p = some (.tup [.int x.1,.int x.2])):Rp H (wd x) (.ref p):=Zd h (Kk _) (Kk _)
theorem Wo (x y:Int × Int):PyData.eqv (wd x) (wd y) = decide (x = y):=by
 obtain ⟨a,b⟩ := x
 obtain ⟨c,d⟩ := y
 show PyData.eqv (dP _ _) (dP _ _) = _
 rw [cq,Ig,Ig]
 by_cases h1:a = c <;> by_cases h2:b = d <;> simp [h1,h2]
theorem Od (f:Nat -> Int × Int):∀ k,argBest (fun i j=>Gb (f i) (f j)) k <= k /\ ∀ j,j <= k -> Gb (f j) (f (argBest (fun i j=>Gb (f i) (f j)) k)) = false
 | 0=>⟨Nat.le_refl _,fun j hj=>by
  have e:j = 0:=by omega
  subst e
  show Gb (f 0) (f 0) = false
  unfold Gb
  exact decide_eq_false (by omega)⟩
 | k + 1=>by
  obtain ⟨h1,h2⟩ := Od f k
  rw [Db]
  generalize argBest (fun i j=>Gb (f i) (f j)) k = b at h1 h2 ⊢
  by_cases z:Gb (f (k + 1)) (f b) = true
  ·rw [if_pos z]
   refine ⟨Nat.le_refl _,fun j hj=>?_⟩
   unfold Gb at z h2 ⊢
   have z':=of_decide_eq_true z
   refine decide_eq_false ?_
   rcases Nat.lt_or_ge k j with y | y
   ·have e:j = k + 1:=by omega
    subst e
    omega
   ·have:=of_decide_eq_false (h2 j y)
    omega
  ·rw [if_neg z]
   refine ⟨by omega,fun j hj=>?_⟩
   rcases Nat.lt_or_ge k j with y | y
   ·have e:j = k + 1:=by omega
    subst e
    simpa using z
   ·exact h2 j y
def Mt:Option V -> Int × Int
 | some (.int m)=>(0,m)
 | _=>(1,0)
def told (tv:List ((List Int × Int) × V)):Option (List Int × Int) -> Int × Int
 | none=>(0,0)
 | some k=>Mt (Af tv k)
def Zv (x y:Int × Int):Int × Int:=if Gb x y = true then y else x
def Hs (tv:List ((List Int × Int) × V)) (ws ls:List Int) (cm:Option Int) (q:Int) (who:Nat):Int × Int :=
 if Hd cm q = true then Zv (told tv (Co ws ls cm q who false)) (told tv (Co ws ls cm q who true)) else told tv (Co ws ls cm q who false)
def Y6 (tv:List ((List Int × Int) × V)):Prop := ∀ k v,Af tv k = some v -> ∃ m:Int,v = .int m
theorem Np {tv:List ((List Int × Int) × V)} {ws ls:List Int} {cm:Option Int} {q:Int} {who:Nat}:(∀ o ∈ Au ws ls cm q who,Gb (Hs tv ws ls cm q who) (told tv o) = false) /\ ∃ o,o ∈ Au ws ls cm q who /\ Hs tv ws ls cm q who = told tv o:=by
 rw [P2]
 unfold Pl Hs
 by_cases z:Hd cm q = true
 ·rw [if_pos z,if_pos z]
  show (∀ o ∈ [Co ws ls cm q who false,Co ws ls cm q who true],_) /\ ∃ o,o ∈ [Co ws ls cm q who false,Co ws ls cm q who true] /\ _
  unfold Zv
  by_cases y:Gb (told tv (Co ws ls cm q who false)) (told tv (Co ws ls cm q who true)) = true
  ·rw [if_pos y]
   refine ⟨fun o ho=>?_,_,by simp,rfl⟩
   have hX:o = Co ws ls cm q who false \/ o = Co ws ls cm q who true:=by simpa using ho
   unfold Gb at y ⊢
   have y':=of_decide_eq_true y
   refine decide_eq_false ?_
   rcases hX with e | e <;> subst e <;> omega
  ·rw [if_neg y]
   refine ⟨fun o ho=>?_,_,by simp,rfl⟩
   have hX:o = Co ws ls cm q who false \/ o = Co ws ls cm q who true:=by simpa using ho
   unfold Gb at y ⊢
   refine decide_eq_false ?_
   have y':=fun h=>y (decide_eq_true h)
   rcases hX with e | e <;> subst e <;> omega
 ·rw [if_neg z,if_neg z]
  refine ⟨fun o ho=>?_,Co ws ls cm q who false,by simp,rfl⟩
  have e:o = Co ws ls cm q who false:=by simpa using ho
  subst e
  unfold Gb
  exact decide_eq_false (by omega)
theorem P0 {H:Hp}:∀ {ds:List PyData} {us:List V},us.length = ds.length -> (∀ (i:Nat) (d:PyData) (u:V),ds[i]? = some d -> us[i]? = some u -> Rp H d u) -> aM H ds us
 | [],us,hl,_=>by
  unfold aM
  exact List.length_eq_zero_iff.mp hl
 | d :: ds,[],hl,_=>by simp at hl
 | d :: ds,u :: us,hl,h=>by
  unfold aM
  exact ⟨u,us,rfl,h 0 d u rfl rfl,P0 (by simpa using hl) fun i d' u' h1 h2=>h (i + 1) d' u' (by simpa using h1) (by simpa using h2)⟩
theorem Xt {f:Nat -> Int × Int} {n:Nat} (hn:0 < n):D2 ((List.range n).map fun i=>wd (f i)) < n /\ ∀ j,j < n -> Gb (f j) (f (D2 ((List.range n).map fun i=>wd (f i)))) = false:=by
 have e:D2 ((List.range n).map fun i=>wd (f i)) = argBest (fun i j=>Gb (f i) (f j)) (n - 1):=by
  unfold D2
  rw [List.length_map,List.length_range]
  have key:∀ k,k <= n - 1 -> argBest (fun i j=>Tn (((List.range n).map fun i=>wd (f i)).getD i .none) (((List.range n).map fun i=>wd (f i)).getD j .none)) k = argBest (fun i j=>Gb (f i) (f j)) k:=fun k=>by
   induction k with
   | zero=>exact fun _=>rfl
   | succ k ih =>
    intro hk
    have b:=(Od f k).1
    rw [Db,Db,ih (by omega)]
    generalize argBest (fun i j=>Gb (f i) (f j)) k = b0 at b ⊢
    have g:∀ i,i < n -> ((List.range n).map fun i=>wd (f i)).getD i .none = wd (f i):=fun i hi=>by
     rw [List.getD_eq_getElem?_getD,List.getElem?_map,List.getElem?_range hi]
     rfl
    show (if Tn (((List.range n).map fun i=>wd (f i)).getD (k + 1) .none) (((List.range n).map fun i=>wd (f i)).getD b0 .none) = true then _ else _) = _
    rw [g _ (by omega),g _ (by omega),dh]
  exact key (n - 1) (Nat.le_refl _)
 rw [e]
 obtain ⟨h1,h2⟩ := Od f (n - 1)
 exact ⟨by omega,fun j hj=>h2 j (by omega)⟩
def pk (ws:List Int) (cm:Option Int):Prop:=(ws.length <= 4 /\ Ad (qv cm) ws <= 150) \/ (ws.length = 4 /\ (∀ w ∈ ws,w <= 4) /\ cm = none) \/ (4 <= ws.length /\ ws.length <= 8 /\ (∀ w ∈ ws,w <= 3) /\ Ad 1 ws <= 27 /\ qv cm <= 2)
def kn (ws:List Int) (most:Int):Prop:=(ws.length <= 4 /\ Ad 1 ws * (most + 1) <= 150) \/ (4 <= ws.length /\ ws.length <= 8 /\ (∀ w ∈ ws,w <= 3) /\ Ad 1 ws <= 27 /\ most = 1)
theorem kn.of {ws:List Int} {most b:Int} {n:Nat} (h:∀ w ∈ ws,1 <= w /\ w <= b) (hl:ws.length = n) (h4:n <= 4) (hm:1 <= most) (hp:b ^ n * (most + 1) <= 150):kn ws most:=by
 have h1:=Gy ws 1 (by decide) h
 rw [hl,Int.one_mul] at h1
 have h2:Ad 1 ws * (most + 1) <= b ^ n * (most + 1):=Int.mul_le_mul_of_nonneg_right h1 (by omega)
 exact .inl ⟨by omega,by omega⟩
theorem kn.hall {ws:List Int} {most:Int} (h:i8 ws most) (f:kn ws most):pk ws none /\ ∀ x:Int,pk ws (some (1 + x % most)):=by
 obtain ⟨h1,h2,h3,h4,h5,h6⟩ := h
 have hp:=Dt ws 1 (by decide) fun w hw=>(h1 w hw).1
 rcases f with ⟨f1,f2⟩ | ⟨f1,f2,f3,f4,f5⟩
 ·refine ⟨.inl ⟨f1,?_⟩,fun x=>.inl ⟨f1,?_⟩⟩
  ·show Ad 1 ws <= 150
   have:Ad 1 ws * 1 <= Ad 1 ws * (most + 1):=Int.mul_le_mul_of_nonneg_left (by omega) (by omega)
   omega
  ·have hx:=Bv x (m:=most) (by omega)
   show Ad (1 + x % most + 1) ws <= 150
   have e:Ad (1 + x % most + 1) ws = (1 + x % most + 1) * Ad 1 ws:=by rw [<- Ii,Int.mul_one]
   rw [e,Int.mul_comm]
   have:Ad 1 ws * (1 + x % most + 1) <= Ad 1 ws * (most + 1):=Int.mul_le_mul_of_nonneg_left (by omega) (by omega)
   omega
 ·refine ⟨.inr (.inr ⟨f1,f2,f3,f4,by show (1:Int) <= 2; decide⟩),fun x=>.inr (.inr ⟨f1,f2,f3,f4,?_⟩)⟩
  have hx:=Bv x (m:=most) (by omega)
  show 1 + x % most + 1 <= 2
  omega
def so (k:List Int × Int):List Nat × Nat:=(k.1.map Int.toNat,k.2.toNat)
def Dk (f:Nat -> Int × Int) (n j:Nat):Prop:=j < n /\ (∀ i,i < n -> Gb (f i) (f j) = false) /\ ∀ m,m < j -> f m ≠ f j
theorem ja {Pr:Nat -> Prop}:∀ (b:Nat),Pr b -> ∃ j,j <= b /\ Pr j /\ ∀ m,m < j -> ¬ Pr m:=fun b=>by
 induction b using Nat.strongRecOn with
 | ind b ih =>
  intro hb
  by_cases z:∃ m,m < b /\ Pr m
  ·obtain ⟨m,h1,h2⟩ := z
   obtain ⟨j,j1,j2,j3⟩ := ih m h1 h2
   exact ⟨j,by omega,j2,j3⟩
  ·exact ⟨b,Nat.le_refl _,hb,fun m hm hp=>z ⟨m,hm,hp⟩⟩
theorem V6 {x y:Int × Int} (h1:Gb x y = false) (h2:Gb y x = false):x = y:=by
 obtain ⟨a,b⟩ := x
 obtain ⟨c,d⟩ := y
 unfold Gb at h1 h2
 have g1:=of_decide_eq_false h1
 have g2:=of_decide_eq_false h2
 have e1:a = c:=by
  simp only at g1 g2
  omega
 have e2:b = d:=by
  simp only at g1 g2
  omega
 rw [e1,e2]
theorem Dk.uniq {f:Nat -> Int × Int} {n j k:Nat} (h:Dk f n j) (g:Dk f n k):j = k:=by
 have e:f j = f k:=V6 (g.2.1 j h.1) (h.2.1 k g.1)
 rcases Nat.lt_trichotomy j k with z | z | z
 ·exact absurd e (g.2.2 j z)
 ·exact z
 ·exact absurd e.symm (h.2.2 k z)
theorem Dk.of {f:Nat -> Int × Int} {n j:Nat} (hn:0 < n) (hj:j <= D2 ((List.range n).map fun i=>wd (f i))) (e:f j = f (D2 ((List.range n).map fun i=>wd (f i)))) (h:∀ m,m < j -> ¬ f m = f (D2 ((List.range n).map fun i=>wd (f i)))):Dk f n j:=by
 obtain ⟨b1,b2⟩ := Xt (f:=f) hn
 refine ⟨by omega,fun i hi=>by rw [e]; exact b2 i hi,fun m hm=>by rw [e]; exact h m hm⟩
def Qw (H:Hp) (f:Nat -> Int × Int) (ys:List V):Prop := ∀ (i:Nat) (u:V),ys[i]? = some u -> ∃ p,u = .ref p /\ H p = some (.tup [.int (f i).1,.int (f i).2])
theorem Qw.snoc {H H':Hp} {f:Nat -> Int × Int} {ys:List V} {p:Addr} {n:Nat} (h:Qw H f ys) (t:Am H H') (hn:ys.length = n) (e:H' p = some (.tup [.int (f n).1,.int (f n).2])):Qw H' f (ys ++ [.ref p]):=fun i u hu=>by
 rcases Nat.lt_or_ge i ys.length with y | y
 ·rw [List.getElem?_append_left y] at hu
  obtain ⟨p3,e1,e2⟩ := h i u hu
  exact ⟨p3,e1,t _ _ e2⟩
 ·rw [List.getElem?_append_right y] at hu
  have hi0:i - ys.length = 0:=by
   have:=(List.getElem?_eq_some_iff.mp hu).1
   rw [List.length_singleton] at this
   omega
  rw [hi0] at hu
  cases hu
  have ei:i = n:=by omega
  subst ei
  exact ⟨p,rfl,e⟩
theorem Qw.rp {H:Hp} {f:Nat -> Int × Int} {ys:List V} {n:Nat} (h:Qw H f ys) (hn:ys.length = n):aM H ((List.range n).map fun i=>wd (f i)) ys:=by
 refine P0 (by rw [List.length_map,List.length_range]; exact hn) fun i d u h1 h2=>?_
 obtain ⟨p3,e1,e2⟩ := h i u h2
 subst e1
 rw [List.getElem?_map] at h1
 obtain ⟨i',qQ,rfl⟩ := Option.map_eq_some_iff.mp h1
 have LB:i < n:=by
  have:=(List.getElem?_eq_some_iff.mp h2).1
  omega
 rw [List.getElem?_range LB] at qQ
 cases qQ
 exact Zi e2
theorem Sx (f:Nat -> Int × Int) (n:Nat):∀ d ∈ (List.range n).map fun i=>wd (f i),∀ e ∈ (List.range n).map fun i=>wd (f i),Gd d e:=fun d hd e he=>by
 obtain ⟨i1,_,rfl⟩ := List.mem_map.mp hd
 obtain ⟨i2,_,rfl⟩ := List.mem_map.mp he
 exact dc _ _
theorem Sm (f:Nat -> Int × Int) (n:Nat):∀ d ∈ (List.range n).map fun i=>wd (f i),d.depth <= 50:=fun d hd=>by
 obtain ⟨i1,_,rfl⟩ := List.mem_map.mp hd
 exact P5 _
theorem Y0 (f:Nat -> Int × Int) {n i:Nat} (h:i < n):((List.range n).map fun i=>wd (f i))[i]? = some (wd (f i)):=by
 rw [List.getElem?_map,List.getElem?_range h]
 rfl
theorem X9 {f:Nat -> Int × Int} {n i:Nat} {e:PyData} (h:((List.range n).map fun i=>wd (f i))[i]? = some e):e = wd (f i):=by
 rw [List.getElem?_map] at h
 obtain ⟨i',qQ,rfl⟩ := Option.map_eq_some_iff.mp h
 have LB:i < n:=by
  have:=(List.getElem?_eq_some_iff.mp qQ).1
  rwa [List.length_range] at this
 rw [List.getElem?_range LB] at qQ
 cases qQ
 rfl
def qj (tv:List ((List Int × Int) × V)) (ws ls:List Int) (cm:Option Int) (q:Int) (who:Nat):Bool:=Hd cm q && Gb (told tv (Co ws ls cm q who false)) (told tv (Co ws ls cm q who true))
theorem G9 {tv:List ((List Int × Int) × V)} {k:List Int × Int} {m:Int} (h:Af tv k = some (.int m)):told tv (some k) = (0,m):=by
 show Mt (Af tv k) = _
 rw [h]
 rfl
theorem Gj {ws:List Int} {cm:Option Int} {tv:List ((List Int × Int) × V)} (h:Cv ws cm tv) (o:Option (List Int × Int)):(o = none /\ told tv o = (0,0)) \/ (∃ k m,o = some k /\ Af tv k = some (.int m) /\ 1 <= m /\ told tv o = (0,m)) \/ told tv o = (1,0):=by
 cases o with
 | none=>exact .inl ⟨rfl,rfl⟩
 | some k =>
  cases hv:Af tv k with
  | none =>
   refine .inr (.inr ?_)
   show Mt (Af tv k) = _
   rw [hv]
   rfl
  | some v =>
   obtain ⟨m,e1,h1,_⟩ := h.1 k v hv
   subst e1
   exact .inr (.inl ⟨k,m,rfl,hv,h1,G9 hv⟩)
theorem Ur {ws : List Int} {cm : Option Int} {tv : List ((List Int × Int) × V)} {k : List Int × Int} {m : Int} {b : Nat} (h : Cv ws cm tv) (hv : Af tv k = some (.int m)) (hn : 0 < ws.length) (hb : b < ws.length)
  (cT:∀ j,j < ws.length -> Gb (Hs tv ws k.1 cm k.2 j) (Hs tv ws k.1 cm k.2 b) = false):Hs tv ws k.1 cm k.2 b = (0,m - 1):=by
 obtain ⟨m0,e0,h1,_,p1,p2⟩ := h.1 k _ hv
 cases e0
 have up:∀ j,j < ws.length -> (Hs tv ws k.1 cm k.2 j).1 = 0 /\ 0 <= (Hs tv ws k.1 cm k.2 j).2 /\ (Hs tv ws k.1 cm k.2 j).2 <= m - 1:=fun j hj=>by
  obtain ⟨w1,o,w2,w3⟩ := Np (tv:=tv) (ws:=ws) (ls:=k.1) (cm:=cm) (q:=k.2) (who:=j)
  rw [w3] at w1 ⊢
  have key:∃ c:Int,Gb (told tv o) (0,c) = false /\ c <= m - 1:=by
   rcases p1 j hj with z | ⟨later,m',z1,z2,z3⟩
   ·exact ⟨0,w1 none z,by omega⟩
   ·have:=w1 _ z1
    rw [G9 z2] at this
    exact ⟨m',this,z3⟩
  obtain ⟨c,c1,c2⟩ := key
  unfold Gb at c1
  have c3:=of_decide_eq_false c1
  rcases Gj h o with ⟨_,e⟩ | ⟨_,m',_,_,e1,e⟩ | e
  ·rw [e]
   exact ⟨rfl,Int.le_refl _,by show (0:Int) <= m - 1; omega⟩
  ·rw [e] at c3 ⊢
   have c4:¬ ((0:Int) < 0 \/ ((0:Int) = 0 /\ c < m')):=c3
   exact ⟨rfl,by show (0:Int) <= m'; omega,by show m' <= m - 1; omega⟩
  ·rw [e] at c3
   have c4:¬ ((0:Int) < 1 \/ ((1:Int) = 0 /\ c < 0)):=c3
   omega
 have low:∃ j,j < ws.length /\ m - 1 <= (Hs tv ws k.1 cm k.2 j).2:=by
  rcases p2 with z | ⟨who,z1,z2,z3⟩
  ·exact ⟨0,hn,by have:=up 0 hn; omega⟩
  ·refine ⟨who,z1,?_⟩
   have u:=up who z1
   obtain ⟨_,o,w2,w3⟩ := Np (tv:=tv) (ws:=ws) (ls:=k.1) (cm:=cm) (q:=k.2) (who:=who)
   rw [w3] at u ⊢
   rcases Gj h o with ⟨e0,e⟩ | ⟨l,m',e0,e2,e1,e⟩ | e
   ·rw [e0] at w2
    exact absurd w2 z2
   ·rw [e0] at w2
    have:=z3 l m' w2 e2
    rw [e]
    exact this
   ·rw [e] at u
    simp only at u
    omega
 obtain ⟨j,j1,j2⟩ := low
 have u:=up j j1
 have ub:=up b hb
 have g:=cT j j1
 unfold Gb at g
 have g':=of_decide_eq_false g
 refine Prod.ext ub.1 ?_
 show (Hs tv ws k.1 cm k.2 b).2 = m - 1
 omega
def cj (tv:List ((List Int × Int) × V)) (k:List Int × Int) (o:Option (List Int × Int)):Prop:=(Af tv k = none -> ∃ b,o = some b /\ Af tv b = none) /\ ∀ m:Int,Af tv k = some (.int m) -> (o = none -> m = 1) /\ ∀ (b:List Int × Int) (m':Int),o = some b -> Af tv b = some (.int m') -> m - 1 <= m'
theorem Wb {ws:List Int} {cm:Option Int} {tv:List ((List Int × Int) × V)} (h:Cv ws cm tv) {o:Option (List Int × Int)} (e:told tv o = (1,0)):∃ b,o = some b /\ Af tv b = none:=by
 cases o with
 | none=>cases e
 | some b =>
  refine ⟨b,rfl,?_⟩
  cases hv:Af tv b with
  | none=>rfl
  | some v =>
   obtain ⟨m,e1,_⟩ := h.1 b v hv
   subst e1
   rw [G9 hv] at e
   cases e
theorem Yh {ws:List Int} {cm:Option Int} {tv:List ((List Int × Int) × V)} {k:List Int × Int} {j:Nat} {o:Option (List Int × Int)} (h:Cv ws cm tv) (hk:k ∈ B0 ws (qv cm)) (hn:0 < ws.length) (hb:Dk (fun i=>Hs tv ws k.1 cm k.2 i) ws.length j) (ho:o ∈ Au ws k.1 cm k.2 j):cj tv k o:=by
 obtain ⟨w1,o1,w2,w3⟩ := Np (tv:=tv) (ws:=ws) (ls:=k.1) (cm:=cm) (q:=k.2) (who:=j)
 have wo:=w1 o ho
 refine ⟨fun hv=>?_,fun m hv=>?_⟩
 ·obtain ⟨who,y1,y2,y3⟩ := h.2 k hk hv
  obtain ⟨v1,o2,v2,v3⟩ := Np (tv:=tv) (ws:=ws) (ls:=k.1) (cm:=cm) (q:=k.2) (who:=who)
  have e2:told tv o2 = (1,0):=by
   cases o2 with
   | none=>exact absurd v2 y2
   | some b =>
    show Mt (Af tv b) = _
    rw [y3 b v2]
    rfl
  have cT:=hb.2.1 who y1
  simp only at cT
  rw [v3,e2] at cT
  refine Wb h ?_
  unfold Gb at cT wo
  have g1:=of_decide_eq_false cT
  have g2:=of_decide_eq_false wo
  rcases Gj h o with ⟨_,e⟩ | ⟨_,m',_,_,e1,e⟩ | e
  ·rw [e] at g2
   simp only at g1 g2
   omega
  ·rw [e] at g2
   simp only at g1 g2
   omega
  ·exact e
 ·obtain ⟨m0,e0,h1,_⟩ := h.1 k _ hv
  cases e0
  have hbr:=Ur h hv hn hb.1 hb.2.1
  rw [hbr] at wo
  unfold Gb at wo
  have g2:=of_decide_eq_false wo
  refine ⟨fun e=>?_,fun b m' e GY=>?_⟩
  ·subst e
   have e3:told tv none = (0,0):=rfl
   rw [e3] at g2
   have g3:¬ ((0:Int) < 0 \/ ((0:Int) = 0 /\ (0:Int) < m - 1)):=g2
   omega
  ·subst e
   rw [G9 GY] at g2
   have g3:¬ ((0:Int) < 0 \/ ((0:Int) = 0 /\ m' < m - 1)):=g2
   omega
theorem dw (a b:List Int × Int):PyData.eqv (dS a) (dS b) = decide (a = b):=by
 show (PyData.eqvAll (a.1.map PyData.int) (b.1.map PyData.int) && (PyData.eqv (.int a.2) (.int b.2) && true)) = _
 rw [Ds]
 have e:PyData.eqv (.int a.2) (.int b.2) = decide (a.2 = b.2):=by
  show (a.2 == b.2) = _
  rw [Bool.eq_iff_iff]
  simp
 rw [e,Bool.and_true,Bool.eq_iff_iff]
 simp [Prod.ext_iff]
def Ts (o:Option HO):Nat:=match o with
 | some (.lst vs)=>vs.length
 | _=>0
def Mr (o:Option HO):Nat:=match o with
 | some (.dT wv)=>wv.length
 | _=>0
theorem Yc {α:Type} {xs:List α} (h:0 < xs.length):∃ y,xs[xs.length - 1]? = some y:=⟨xs[xs.length - 1],List.getElem?_eq_getElem (by omega)⟩
theorem Ah.take {α:Type} {P:α -> V -> Prop} {rs:List α} {vs:List V} (h:Ah P rs vs) (n:Nat):Ah P (rs.take n) (vs.take n):=by
 refine ⟨by rw [List.length_take,List.length_take,h.1],fun i r v e1 e2=>?_⟩
 rcases Nat.lt_or_ge i n with z | z
 ·rw [List.getElem?_take_of_lt z] at e1 e2
  exact h.2 i r v e1 e2
 ·rw [List.getElem?_take_eq_none z] at e1
  cases e1
def Jt (ws:List Int) (cm:Option Int):Prop:=(∀ x ∈ ws,1 <= x /\ x <= 3000) /\ (∀ d,cm = some d -> 1 <= d /\ d < 3000) /\ 0 < ws.length /\ ws.length <= 8 /\ Ad (qv cm) ws <= 3000
theorem Jt.qv {ws:List Int} {cm:Option Int} (h:Jt ws cm):1 <= qv cm /\ qv cm <= 3000:=by
 cases cm with
 | none=>exact ⟨by decide,by decide⟩
 | some d =>
  have:=h.2.1 d rfl
  exact ⟨show 1 <= d + 1 by omega,show d + 1 <= 3000 by omega⟩
inductive cu (ws:List Int) (cm:Option Int) (tv:List ((List Int × Int) × V)):(List Int × Int) -> Prop
 | base:cu ws cm tv (ws,0)
 | step {k k':List Int × Int} {j:Nat}:cu ws cm tv k -> Dk (fun i=>Hs tv ws k.1 cm k.2 i) ws.length j -> some k' ∈ Au ws k.1 cm k.2 j -> cu ws cm tv k'
def Sf (ws:List Int) (cm:Option Int) (tv:List ((List Int × Int) × V)) (k:List Int × Int):Prop:=k ∈ B0 ws (qv cm) /\ Af tv k = none /\ cu ws cm tv k
structure Oh (ws:List Int) (cm:Option Int) (tv cv:List ((List Int × Int) × V)) (E:List (List Int × Int)):Prop where
 nd:(cv.map (·.1)).Nodup
 sf:∀ k ∈ E,Sf ws cm tv k
 ent:∀ kv ∈ cv,Sf ws cm tv kv.1 /\ ∃ j:Nat,kv.2 = .int (j:Int) /\ Dk (fun i=>Hs tv ws kv.1.1 cm kv.1.2 i) ws.length j /\ ∀ o ∈ Au ws kv.1.1 cm kv.1.2 j,∃ k',o = some k' /\ (k' ∈ cv.map (·.1) \/ k' ∈ E)
 HA:(ws,0) ∈ cv.map (·.1) \/ (ws,0) ∈ E
theorem Oh.len {ws:List Int} {cm:Option Int} {tv cv:List ((List Int × Int) × V)} {E:List (List Int × Int)} (h:Oh ws cm tv cv E) (aR:Jt ws cm):cv.length <= 3000:=by
 have h1:=List.Nodup.length_le_of_subset h.nd (show cv.map (·.1) ⊆ B0 ws (qv cm) from fun k hk=>by
  obtain ⟨kv,aS,rfl⟩ := List.mem_map.mp hk
  exact (h.ent kv aS).1.1)
 have h2:=Ip (ws:=ws) (q:=qv cm) (fun w hw=>(aR.1 w hw).1) (by have:=aR.qv.1; omega)
 have h3:=aR.2.2.2.2
 rw [List.length_map] at h1
 omega
theorem Oh.start {ws:List Int} {cm:Option Int} {tv:List ((List Int × Int) × V)} (h:Sf ws cm tv (ws,0)):Oh ws cm tv [] [(ws,0)]:=⟨List.nodup_nil,fun k hk=>by cases List.mem_singleton.mp hk; exact h,(fun kv aS=>by cases aS),.inr (List.mem_singleton.mpr rfl)⟩
theorem Oh.skip {ws:List Int} {cm:Option Int} {tv cv:List ((List Int × Int) × V)} {E:List (List Int × Int)} {k:List Int × Int} (h:Oh ws cm tv cv (E ++ [k])) (hk:k ∈ cv.map (·.1)):Oh ws cm tv cv E:=by
 have key:∀ x,x ∈ cv.map (·.1) \/ x ∈ E ++ [k] -> x ∈ cv.map (·.1) \/ x ∈ E:=fun x hx=>by
  rcases hx with z | z
  ·exact .inl z
  ·rcases List.mem_append.mp z with y | y
   ·exact .inr y
   ·rw [List.mem_singleton.mp y]
    exact .inl hk
 refine ⟨h.nd,fun x hx=>h.sf x (List.mem_append_left _ hx),fun kv aS=>?_,key _ h.HA⟩
 obtain ⟨h1,j,h2,h3,h4⟩ := h.ent kv aS
 refine ⟨h1,j,h2,h3,fun o ho=>?_⟩
 obtain ⟨k',e,z⟩ := h4 o ho
 exact ⟨k',e,key _ z⟩
theorem Oh.put {ws:List Int} {cm:Option Int} {tv cv:List ((List Int × Int) × V)} {E Eb:List (List Int × Int)} {k:List Int × Int} {j:Nat} (h:Oh ws cm tv cv (E ++ [k])) (hk:Af cv k = none) (hb:Dk (fun i=>Hs tv ws k.1 cm k.2 i) ws.length j) (he:Au ws k.1 cm k.2 j = Eb.map some) (hs:∀ x ∈ Eb,Sf ws cm tv x):Oh ws cm tv (Bc cv k (.int (j:Int))) (E ++ Eb):=by
 have ep:=De (kvs:=cv) (k:=k) (.int (j:Int)) hk
 have key:∀ x,x ∈ cv.map (·.1) \/ x ∈ E ++ [k] -> x ∈ (Bc cv k (.int (j:Int))).map (·.1) \/ x ∈ E ++ Eb:=fun x hx=>by
  rw [ep,List.map_append]
  rcases hx with z | z
  ·exact .inl (List.mem_append_left _ z)
  ·rcases List.mem_append.mp z with y | y
   ·exact .inr (List.mem_append_left _ y)
   ·rw [List.mem_singleton.mp y]
    exact .inl (List.mem_append_right _ (by simp))
 refine ⟨Xn _ h.nd hk,fun x hx=>?_,fun kv aS=>?_,key _ h.HA⟩
 ·rcases List.mem_append.mp hx with y | y
  ·exact h.sf x (List.mem_append_left _ y)
  ·exact hs x y
 ·have AS:=aS
  rw [ep] at AS
  rcases List.mem_append.mp AS with z | z
  ·obtain ⟨h1,i,h2,h3,h4⟩ := h.ent kv z
   refine ⟨h1,i,h2,h3,fun o ho=>?_⟩
   obtain ⟨k',e,y⟩ := h4 o ho
   exact ⟨k',e,key _ y⟩
  ·rw [List.mem_singleton.mp z]
   refine ⟨h.sf k (by simp),j,rfl,hb,fun o ho=>?_⟩
   rw [he] at ho
   obtain ⟨x,hx,rfl⟩ := List.mem_map.mp ho
   exact ⟨x,rfl,.inr (List.mem_append_right _ hx)⟩
def Oy (ws:List Int) (cm:Option Int) (tv ps:List ((List Int × Int) × V)):Prop:=Oh ws cm tv ps [] /\ ps.Pairwise fun x y=>Gc (dS x.1) (dS y.1) = true
theorem Oh.perm {ws:List Int} {cm:Option Int} {tv cv ps:List ((List Int × Int) × V)} (h:Oh ws cm tv cv []) (hp:ps.Perm cv):Oh ws cm tv ps []:=by
 have hm:=hp.map (·.1)
 refine ⟨hm.nodup_iff.mpr h.nd,h.sf,fun kv aS=>?_,?_⟩
 ·obtain ⟨h1,j,h2,h3,h4⟩ := h.ent kv (hp.mem_iff.mp aS)
  refine ⟨h1,j,h2,h3,fun o ho=>?_⟩
  obtain ⟨k',e,z⟩ := h4 o ho
  exact ⟨k',e,z.imp (fun y=>hm.mem_iff.mpr y) id⟩
 ·exact h.HA.imp (fun y=>hm.mem_iff.mpr y) id
theorem Xz {ws:List Int} {cm:Option Int} {tv:List ((List Int × Int) × V)} {k:List Int × Int} {j:Nat} (rQ:Cv ws cm tv) (aR:Jt ws cm) (h:Sf ws cm tv k) (hb:Dk (fun i=>Hs tv ws k.1 cm k.2 i) ws.length j):∃ Eb:List (List Int × Int),Au ws k.1 cm k.2 j = Eb.map some /\ (∀ x ∈ Eb,Sf ws cm tv x) /\ Eb.length <= 2:=by
 have all:∀ o ∈ Au ws k.1 cm k.2 j,∃ b,o = some b /\ Sf ws cm tv b:=fun o ho=>by
  obtain ⟨b,e,hv⟩ := (Yh rQ h.1 aR.2.2.1 hb ho).1 h.2.1
  subst e
  obtain ⟨lost,hl,e2⟩ := d9.mp ho
  exact ⟨b,rfl,b6 (fun w hw=>(aR.1 w hw).1) h.1 hb.1 hl e2,hv,.step h.2.2 hb ho⟩
 have key:∀ l:List (Option (List Int × Int)),(∀ o ∈ l,∃ b,o = some b /\ Sf ws cm tv b) -> ∃ Eb:List (List Int × Int),l = Eb.map some /\ (∀ x ∈ Eb,Sf ws cm tv x):=by
  intro l
  induction l with
  | nil=>exact fun _=>⟨[],rfl,fun x hx=>by cases hx⟩
  | cons o l ih =>
   intro hl
   obtain ⟨Eb,e1,e2⟩ := ih fun o ho=>hl o (List.mem_cons_of_mem _ ho)
   obtain ⟨b,e3,e4⟩ := hl o List.mem_cons_self
   refine ⟨b :: Eb,by rw [e3,e1]; rfl,fun x hx=>?_⟩
   rcases List.mem_cons.mp hx with y | y
   ·rw [y]
    exact e4
   ·exact e2 x y
 obtain ⟨Eb,e1,e2⟩ := key _ all
 refine ⟨Eb,e1,e2,?_⟩
 have hl:Eb.length = (Au ws k.1 cm k.2 j).length:=by rw [e1,List.length_map]
 rw [hl]
 unfold Au
 split <;> simp
theorem Wt {H:Hp} {Eb:List (List Int × Int)} {us:List V} (h:Ah (Gu H) (Eb.map some) us):Ah (Ga H) Eb us:=by
 refine ⟨by rw [h.1,List.length_map],fun i r v e1 e2=>?_⟩
 obtain ⟨b,e3,u,e4,e5⟩ := h.2 i (some r) v (by rw [List.getElem?_map,e1]; rfl) e2
 exact ⟨b,u,e3,e4,e5⟩
theorem E5:∀ xs ys:List Int,aN (xs.map PyData.int) (ys.map PyData.int) = true -> aN (ys.map PyData.int) (xs.map PyData.int) = false
 | [],[],_=>rfl
 | [],y :: ys,h=>rfl
 | x :: xs,[],h=>by simp [aN] at h
 | x :: xs,y :: ys,h=>by
  have e:∀ a b:Int,PyData.eqv (.int a) (.int b) = decide (a = b):=fun a b=>by
   show (a == b) = _
   rw [Bool.eq_iff_iff]
   simp
  rw [List.map_cons,List.map_cons,aN,e] at h ⊢
  by_cases z:x = y
  ·subst z
   rw [if_pos (by simp)] at h ⊢
   exact E5 xs ys h
  ·rw [if_neg (by simp; exact z)] at h
   rw [if_neg (by simp; exact fun y=>z y.symm)]
   have h1:x < y:=of_decide_eq_true h
   exact decide_eq_false (by omega)
theorem J6 {a b:List Int × Int} (h:Gc (dS a) (dS b) = true):Gc (dS b) (dS a) = false:=by
 have h':aN [dT a.1,.int a.2] [dT b.1,.int b.2] = true:=h
 show aN [dT b.1,.int b.2] [dT a.1,.int a.2] = false
 rw [aN,O6] at h' ⊢
 by_cases z:a.1 = b.1
 ·rw [if_pos (by simp [z])] at h' ⊢
  exact E5 [a.2] [b.2] h'
 ·rw [if_neg (by simp [z])] at h'
  rw [if_neg (by simp; exact fun y=>z y.symm)]
  exact E5 a.1 b.1 h'
theorem Mc {L:List (List Int × Int)} (hs:L.Pairwise fun a b=>Gc (dS a) (dS b) = true) {a b:List Int × Int} (ha:a ∈ L) (hb:b ∈ L):Gc (dS a) (dS b) = decide (L.idxOf a < L.idxOf b):=by
 have la:=List.idxOf_lt_length_of_mem ha
 have lb:=List.idxOf_lt_length_of_mem hb
 have ea:L[L.idxOf a] = a:=List.getElem_idxOf la
 have eb:L[L.idxOf b] = b:=List.getElem_idxOf lb
 have hp:=List.pairwise_iff_getElem.mp hs
 rcases Nat.lt_trichotomy (L.idxOf a) (L.idxOf b) with z | z | z
 ·have:=hp _ _ la lb z
  rw [ea,eb] at this
  rw [this,decide_eq_true z]
 ·have e : a = b := by
   rw [<- ea,<- eb]
   congr 1
  subst e
  rw [decide_eq_false (Nat.lt_irrefl _)]
  exact O4 a
 ·have:=hp _ _ lb la z
  rw [ea,eb] at this
  rw [J6 this,decide_eq_false (by omega)]
theorem Ny (j:Int):aN [PyData.int j] [PyData.int j] = false:=by
 rw [aN,if_pos (show PyData.eqv (.int j) (.int j) = true from PySem.SeqAt.eqv_refl _ rfl)]
 rfl
def Dx (kv:(List Int × Int) × V):PyData:=match kv.2 with
 | .int i=>.int i
 | _=>.none
theorem Qy {ws:List Int} {cm:Option Int} {tv cv:List ((List Int × Int) × V)} (h:Oh ws cm tv cv []):∀ a ∈ cv,∀ b ∈ cv,Yl (Dh Dx a) (Dh Dx b) /\ Gc (Dh Dx a) (Dh Dx b) = decide ((B0 ws (qv cm)).idxOf a.1 < (B0 ws (qv cm)).idxOf b.1):=fun a ha b hb=>by
 obtain ⟨⟨a1,_⟩,i,ei,_⟩ := h.ent a ha
 obtain ⟨⟨b1,_⟩,j,ej,_⟩ := h.ent b hb
 have wa:Dx a = .int i:=by unfold Dx; rw [ei]
 have wb:Dx b = .int j:=by unfold Dx; rw [ej]
 have cs:∀ x y:List Int,bE (x.map PyData.int) (y.map PyData.int):=by
  intro x
  induction x with
  | nil=>intro y; unfold bE; trivial
  | cons u x ih =>
   intro y
   cases y with
   | nil=>unfold bE; trivial
   | cons v y=>exact ⟨trivial,ih y⟩
 refine ⟨?_,?_⟩
 ·show Lg [dS a.1,Dx a] [dS b.1,Dx b]
  rw [wa,wb]
  exact Sd ⟨⟨cs _ _,trivial,trivial⟩,trivial,trivial⟩
 ·show aN [dS a.1,Dx a] [dS b.1,Dx b] = _
  rw [aN,dw,wa,wb]
  by_cases z:a.1 = b.1
  ·rw [if_pos (by simp [z])]
   have e:a = b:=by
    obtain ⟨ka,va⟩ := a
    obtain ⟨kb,vb⟩ := b
    have z':ka = kb:=z
    subst z'
    have h1:=Cf h.nd ha
    have h2:=Cf h.nd hb
    rw [h1] at h2
    rw [Option.some.inj h2]
   subst e
   have eij:(i:Int) = j:=by
    rw [ei] at ej
    injection ej
   rw [eij,decide_eq_false (Nat.lt_irrefl _)]
   exact Ny j
  ·rw [if_neg (by simp [z])]
   exact Mc (Em ws (qv cm)) a1 b1
theorem Yd {ws:List Int} {cm:Option Int} {tv cv ps:List ((List Int × Int) × V)} (h:Oh ws cm tv cv []) (hp:ps.Perm cv) (hs:ps.Pairwise fun x y=>(B0 ws (qv cm)).idxOf x.1 <= (B0 ws (qv cm)).idxOf y.1):Oy ws cm tv ps:=by
 have h':=h.perm hp
 refine ⟨h',?_⟩
 have hn:=List.pairwise_map.mp h'.nd
 refine List.Pairwise.imp_of_mem (fun {x y} hx hy z=>?_) (hs.and hn)
 have AU:=(h'.ent x hx).1.1
 have hy1:=(h'.ent y hy).1.1
 rw [Mc (Em ws (qv cm)) AU hy1]
 refine decide_eq_true (Nat.lt_of_le_of_ne z.1 fun e=>z.2 ?_)
 have lx:=List.idxOf_lt_length_of_mem AU
 have ly:=List.idxOf_lt_length_of_mem hy1
 rw [<- List.getElem_idxOf lx,<- List.getElem_idxOf ly]
 congr 1
theorem Jy {H:Hp}:∀ {ps:List ((List Int × Int) × V)} {us:List V},Paired (Qk H) ps us -> Ah (Qk H) ps us
 | _,_,.nil=>Ah.nil
 | _,_,.cons r t=>Ah.cons r (Jy t)
theorem nt {i:Nat} {v:V} {σ:L2.St} {H:Hp} {Q:L2.St -> Hp -> Prop} (h:Q (List.set σ i (some v)) H):Fi i v σ H Q:=h
theorem ml {c:TT} {tb u:TS} {D:Go} {σ:L2.St} {H:Hp} (h:Nn c tb { D with nx:=u D } σ H):fz (Nn c tb) u D σ H:=h
theorem Vl (xs:List Int) (m n:Nat):(Us xs (some (m:Int)) (some (n:Int))).length = min n xs.length - min m xs.length:=by
 unfold Us
 rw [List.length_take,List.length_drop,HT.jT,HT.jT]
 omega
theorem Lu {w:Int} {tv:List ((List Int × Int) × V)} (h:Cv [w] none tv):∀ (n:Nat) (k:List Int × Int) (m:Int),m <= n -> Af tv k = some (.int m) -> False
 | 0,k,m,hm,hv=>by
  obtain ⟨m0,e,h1,_⟩ := h.1 k _ hv
  cases e
  omega
 | n + 1,k,m,hm,hv=>by
  obtain ⟨m0,e,h1,lG,p1,_⟩ := h.1 k _ hv
  cases e
  obtain ⟨g1,g2,g3,g4⟩ := Fq lG
  obtain ⟨l,q⟩ := k
  match l,g1 with
  | [x],_ =>
   have hx:1 <= x /\ x <= w:=g2 0 (by simp)
   have eb:Au [w] [x] none q 0 = [some ([w],max (q - 1) 0)]:=by
    have hw:¬ (0:Int) ∈ [w]:=by
     intro z
     have:=List.mem_singleton.mp z
     omega
    show [Co [w] [x] none q 0 false] = _
    unfold Co
    rw [show Bp [w] [x] 0 false = [w] from rfl,if_neg hw]
    rfl
   rcases p1 0 (by simp) with z | ⟨later,m',z1,z2,z3⟩
   ·have z':none ∈ Au [w] [x] none q 0:=z
    rw [eb] at z'
    simp at z'
   ·exact Lu h n later m' (by omega) z2
theorem Q0 {w c:Int} {tv:List ((List Int × Int) × V)} (hw:2 <= w) (hc:1 <= c) (h:Cv [w] (some c) tv):∀ (n:Nat) (k:List Int × Int) (m:Int),m <= n -> Af tv k = some (.int m) -> k = ([1],0)
 | 0,k,m,hm,hv=>by
  obtain ⟨m0,e,h1,_⟩ := h.1 k _ hv
  cases e
  omega
 | n + 1,k,m,hm,hv=>by
  obtain ⟨m0,e,h1,lG,p1,_⟩ := h.1 k _ hv
  cases e
  obtain ⟨g1,g2,g3,g4⟩ := Fq lG
  obtain ⟨l,q⟩ := k
  match l,g1 with
  | [x],_ =>
   have hx:1 <= x /\ x <= w:=g2 0 (by simp)
   have GP:0 <= q:=g3
   have e1:Co [w] [x] (some c) q 0 false = some ([w],max (q - 1) 0):=by
    have uZ:¬ (0:Int) ∈ [w]:=by
     intro z
     have:=List.mem_singleton.mp z
     omega
    unfold Co
    rw [show Bp [w] [x] 0 false = [w] from rfl,if_neg uZ]
    rfl
   have e2:Co [w] [x] (some c) q 0 true = if x = 1 then none else some ([x - 1],c):=by
    unfold Co
    rw [show Bp [w] [x] 0 true = [x - 1] from rfl]
    by_cases z:x = 1
    ·rw [if_pos z,if_pos (by rw [z]; simp)]
    ·rw [if_neg z,if_neg (by intro y; have:=List.mem_singleton.mp y; omega)]
     rfl
   have eb:∀ o,o ∈ Au [w] [x] (some c) q 0 -> o = some ([w],max (q - 1) 0) \/ (q = 0 /\ o = if x = 1 then none else some ([x - 1],c)):=fun o ho=>by
    unfold Au at ho
    rw [e1,e2] at ho
    by_cases z:Hd (some c) q = true
    ·rw [if_pos z] at ho
     have hq:q = 0:=by
      unfold Hd at z
      simp at z
      exact z
     rcases List.mem_cons.mp ho with y | y
     ·exact .inl y
     ·exact .inr ⟨hq,List.mem_singleton.mp y⟩
    ·rw [if_neg z] at ho
     exact .inl (List.mem_singleton.mp ho)
   rcases p1 0 (by simp) with z | ⟨later,m',z1,z2,z3⟩
   ·rcases eb _ z with y | ⟨y1,y2⟩
    ·cases y
    ·by_cases y3:x = 1
     ·rw [y1,y3]
     ·rw [if_neg y3] at y2
      cases y2
   ·have ih:=Q0 hw hc h n later m' (by omega) z2
    rcases eb _ z1 with y | ⟨y1,y2⟩
    ·rw [ih] at y
     injection y with y
     injection y with y4 y5
     injection y4 with y6
     omega
    ·by_cases y3:x = 1
     ·rw [if_pos y3] at y2
      cases y2
     ·rw [if_neg y3,ih] at y2
      injection y2 with y2
      injection y2 with y4 y5
      omega
theorem Eu {f:Int}:∀ (ws:List Int) (q:Int) (j:Nat),j < ws.length -> Ad q (ws.set j (ws.getD j 0 * f)) = Ad q ws * f
 | [],q,j,h=>absurd h (Nat.not_lt_zero _)
 | x :: r,q,0,_=>by
  show Ad (q * (x * f)) r = Ad (q * x) r * f
  rw [show q * (x * f) = f * (q * x) by rw [<- Int.mul_assoc,Int.mul_comm],Ii,Int.mul_comm]
 | x :: r,q,j + 1,h=>by
  show Ad (q * x) (r.set j (r.getD j 0 * f)) = Ad (q * x) r * f
  exact Eu r (q * x) j (by simpa using h)
theorem P4 {Pr:Int -> Prop} {ws:List Int} {j:Nat} {x:Int} (h:∀ w ∈ ws,Pr w) (hx:Pr x):∀ w ∈ ws.set j x,Pr w:=fun w hw=>by
 rcases List.mem_or_eq_of_mem_set hw with y | y
 ·exact h w y
 ·rw [y]
  exact hx
theorem iu {n:Nat} (h:n <= 8):(5:Int) ^ n <= 390625:=by
 rcases (show n = 0 \/ n = 1 \/ n = 2 \/ n = 3 \/ n = 4 \/ n = 5 \/ n = 6 \/ n = 7 \/ n = 8 by omega) with e | e | e | e | e | e | e | e | e <;> subst e <;> decide
theorem Xv:1 <= sizeLine:=by decide
theorem Oy.keys {ws:List Int} {cm:Option Int} {tv ps:List ((List Int × Int) × V)} (h:Oy ws cm tv ps) (k:List Int × Int):k ∈ ps.map (·.1) ↔ cu ws cm tv k:=by
 constructor
 ·intro hk
  obtain ⟨kv,aS,rfl⟩ := List.mem_map.mp hk
  exact (h.1.ent kv aS).1.2.2
 ·intro r
  induction r with
  | base=>exact h.1.HA.resolve_right fun y=>by cases y
  | step _ hb hm ih =>
   obtain ⟨kv,aS,e⟩ := List.mem_map.mp ih
   obtain ⟨_,j,_,kS,hc⟩ := h.1.ent kv aS
   subst e
   have ej:=Dk.uniq hb kS
   subst ej
   obtain ⟨k',e1,z⟩ := hc _ hm
   cases e1
   exact z.resolve_right fun y=>by cases y
theorem J2:∀ {l l':List (List Int × Int)},l.Pairwise (fun a b=>Gc (dS a) (dS b) = true) -> l'.Pairwise (fun a b=>Gc (dS a) (dS b) = true) -> (∀ a,a ∈ l ↔ a ∈ l') -> l = l'
 | [],[],_,_,_=>rfl
 | [],b :: t',_,_,h=>by have:=(h b).mpr List.mem_cons_self; cases this
 | a :: t,[],_,_,h=>by have:=(h a).mp List.mem_cons_self; cases this
 | a :: t,b :: t',h1,h2,h=>by
  obtain ⟨a1,a2⟩ := List.pairwise_cons.mp h1
  obtain ⟨b1,b2⟩ := List.pairwise_cons.mp h2
  have e:a = b:=by
   rcases List.mem_cons.mp ((h a).mp List.mem_cons_self) with z | z
   ·exact z
   ·rcases List.mem_cons.mp ((h b).mpr List.mem_cons_self) with y | y
    ·exact y.symm
    ·have u1:=b1 a z
     have u2:=a1 b y
     rw [J6 u1] at u2
     cases u2
  subst e
  have na:∀ {s:List (List Int × Int)},(∀ x ∈ s,Gc (dS a) (dS x) = true) -> a ∉ s:=fun hs z=>by
   have:=hs a z
   rw [O4] at this
   cases this
  congr 1
  refine J2 a2 b2 fun x=>?_
  constructor
  ·intro hx
   rcases List.mem_cons.mp ((h x).mp (List.mem_cons_of_mem _ hx)) with z | z
   ·rw [z] at hx
    exact absurd hx (na a1)
   ·exact z
  ·intro hx
   rcases List.mem_cons.mp ((h x).mpr (List.mem_cons_of_mem _ hx)) with z | z
   ·rw [z] at hx
    exact absurd hx (na b1)
   ·exact z
theorem Vc {H:Hp} {p:Addr} {us:List V} {ds:List PyData} (e:H p = some (.lst us)) (h:aM H ds us):Rp H (.list ds) (.ref p):=by
 unfold Rp
 exact ⟨p,us,rfl,e,h⟩
theorem Ye {H:Hp} {kv:(List Int × Int) × V} {j:Int} {u:V} (ej:kv.2 = .int j) (h:Qk H kv u):Rp H (Dh Dx kv) u:=by
 obtain ⟨a,b,rfl,h1,h2⟩ := h
 have e:Dx kv = .int j:=by unfold Dx; rw [ej]
 unfold Dh
 rw [e]
 unfold Rp
 refine ⟨a,_,rfl,h1,?_⟩
 unfold aM
 refine ⟨_,_,rfl,X2 h2,?_⟩
 unfold aM
 rw [ej]
 refine ⟨_,_,rfl,Kk j,?_⟩
 unfold aM
 rfl
theorem Iy {n:Nat}:∀ {ds:List PyData},(∀ d ∈ ds,d.depth <= n) -> PyData.depthAll ds <= n
 | [],_=>by simp [PyData.depthAll]
 | d :: ds,h=>by
  have h1:=h d List.mem_cons_self
  have h2:=Iy fun x hx=>h x (List.mem_cons_of_mem d hx)
  simp only [PyData.depthAll]
  omega
theorem Qk.up {H H':Hp} {kv:(List Int × Int) × V} {u:V} (s:Am H H') (h:Qk H kv u):Qk H' kv u:=by
 obtain ⟨a,b,e,h1,h2⟩ := h
 exact ⟨a,b,e,s _ _ h1,h2.up s⟩
theorem So {α:Type} {H:Hp} {P:α -> V -> Prop} {d:α -> PyData}:∀ {rs:List α} {us:List V},(∀ r ∈ rs,∀ v,P r v -> Rp H (d r) v) -> Ah P rs us -> aM H (rs.map d) us
 | [],us,_,h=>by
  have:us = []:=List.length_eq_zero_iff.mp h.1
  rw [this]
  unfold aM
  rfl
 | r :: rs,[],_,h=>by have:=h.1; simp at this
 | r :: rs,u :: us,hd,h=>by
  show aM H (d r :: rs.map d) (u :: us)
  unfold aM
  refine ⟨u,us,rfl,hd r List.mem_cons_self u (h.2 0 r u rfl rfl),So (fun r' h'=>hd r' (List.mem_cons_of_mem _ h')) ⟨by simpa using h.1,fun i r' v' e1 e2=>h.2 (i + 1) r' v' (by simpa using e1) (by simpa using e2)⟩⟩
theorem Ib {w:Int} {cm:Option Int} {tv ps:List ((List Int × Int) × V)} (h:Oy [w] cm tv ps) {k k':List Int × Int} (hk:k ∈ ps.map (·.1)) (hm:some k' ∈ Au [w] k.1 cm k.2 0):k' ∈ ps.map (·.1):=by
 obtain ⟨kv,aS,e⟩ := List.mem_map.mp hk
 subst e
 obtain ⟨_,j,_,hb,hc⟩ := h.1.ent kv aS
 have hj:j < 1:=hb.1
 have ej:j = 0:=by omega
 subst ej
 obtain ⟨k2,e1,z⟩ := hc _ hm
 cases e1
 exact z.resolve_right fun y=>by cases y
theorem Pc {w:Int} {cm:Option Int} {tv ps:List ((List Int × Int) × V)} {L:List (List Int × Int)} (h:Oy [w] cm tv ps) (hs:L.Pairwise fun a b=>Gc (dS a) (dS b) = true) (hm:∀ k,k ∈ ps.map (·.1) ↔ k ∈ L):ps = L.map fun k=>(k,V.int 0):=by
 have hk:ps.map (·.1) = L:=J2 (List.pairwise_map.mpr h.2) hs hm
 have e:ps.map (fun kv=>(kv.1,V.int 0)) = ps.map id:=List.map_congr_left fun kv aS=>by
  obtain ⟨_,j,ej,hb,_⟩ := h.1.ent kv aS
  have hj:j < 1:=hb.1
  have e0:j = 0:=by omega
  subst e0
  exact Prod.ext rfl ej.symm
 rw [List.map_id] at e
 rw [<- hk,List.map_map]
 exact e.symm
theorem Vv {w:Int} (hw:1 <= w) {tv:List ((List Int × Int) × V)} {k:List Int × Int} (r:cu [w] none tv k):k = ([w],0):=by
 induction r with
 | base=>rfl
 | @step k k' j _ hb hm ih =>
  have hj:j < 1:=hb.1
  have ej:j = 0:=by omega
  subst ej
  subst ih
  have e:Au [w] [w] none 0 0 = [some ([w],0)]:=by
   have uZ:¬ (0:Int) ∈ [w]:=by
    intro z
    have:=List.mem_singleton.mp z
    omega
   show [Co [w] [w] none 0 0 false] = _
   unfold Co
   rw [show Bp [w] [w] 0 false = [w] from rfl,if_neg uZ]
   rfl
  have kK:some k' ∈ Au [w] [w] none 0 0:=hm
  rw [e] at kK
  exact Option.some.inj (List.mem_singleton.mp kK)
theorem Ta {w x c q:Int} (hw:1 <= w):Co [w] [x] (some c) q 0 false = some ([w],max (q - 1) 0):=by
 have uZ:¬ (0:Int) ∈ [w]:=by
  intro z
  have:=List.mem_singleton.mp z
  omega
 unfold Co
 rw [show Bp [w] [x] 0 false = [w] from rfl,if_neg uZ]
 rfl
theorem Zf {w x c q:Int} (hx:x ≠ 1):Co [w] [x] (some c) q 0 true = some ([x - 1],c):=by
 unfold Co
 rw [show Bp [w] [x] 0 true = [x - 1] from rfl,if_neg (by intro y; have:=List.mem_singleton.mp y; omega)]
 rfl
theorem Hr {w x c q:Int} {o:Option (List Int × Int)}:o ∈ Au [w] [x] (some c) q 0 ↔ o = Co [w] [x] (some c) q 0 false \/ (q = 0 /\ o = Co [w] [x] (some c) q 0 true):=by
 have hz:Hd (some c) q = true ↔ q = 0:=by
  unfold Hd
  simp
 unfold Au
 by_cases z:q = 0
 ·rw [if_pos (hz.mpr z)]
  subst z
  simp
 ·rw [if_neg (fun y=>z (hz.mp y))]
  simp [z]
theorem Vo {w c:Int} (hw:2 <= w) (hc:1 <= c) {tv:List ((List Int × Int) × V)} {k:List Int × Int} (r:cu [w] (some c) tv k):k = ([w - 1],c) \/ ∃ q:Int,0 <= q /\ q < c /\ k = ([w],q):=by
 induction r with
 | base=>exact .inr ⟨0,by omega,by omega,rfl⟩
 | @step k k' j _ hb hm ih =>
  have hj:j < 1:=hb.1
  have ej:j = 0:=by omega
  subst ej
  rcases ih with e | ⟨q,h0,h1,e⟩
  ·subst e
   rcases Hr.mp hm with y | ⟨y,_⟩
   ·rw [Ta (by omega)] at y
    refine .inr ⟨c - 1,by omega,by omega,?_⟩
    rw [Option.some.inj y,show max (c - 1) 0 = c - 1 by omega]
   ·have y':c = 0:=y
    omega
  ·subst e
   rcases Hr.mp hm with y | ⟨y,y2⟩
   ·rw [Ta (by omega)] at y
    exact .inr ⟨max (q - 1) 0,by omega,by omega,Option.some.inj y⟩
   ·rw [Zf (by omega)] at y2
    exact .inl (Option.some.inj y2)
theorem V0 {w c:Int} (hw:2 <= w) (hc:1 <= c) {tv ps:List ((List Int × Int) × V)} (h:Oy [w] (some c) tv ps) (k:List Int × Int):k ∈ ps.map (·.1) ↔ (k = ([w - 1],c) \/ ∃ q:Int,0 <= q /\ q < c /\ k = ([w],q)):=by
 refine ⟨fun hk=>Vo hw hc ((h.keys k).mp hk),?_⟩
 have k0:([w],(0:Int)) ∈ ps.map (·.1):=(h.keys _).mpr .base
 have k1:([w - 1],c) ∈ ps.map (·.1):=Ib h k0 (Hr.mpr (.inr ⟨rfl,by rw [Zf (by omega)]⟩))
 have kq:∀ n:Nat,(n:Int) < c -> ([w],c - 1 - (n:Int)) ∈ ps.map (·.1):=by
  intro n
  induction n with
  | zero=>exact fun _=>Ib h k1 (Hr.mpr (.inl (by rw [Ta (by omega),show max (c - 1) 0 = c - 1 - ((0:Nat):Int) by omega])))
  | succ n ih =>
   intro hn
   exact Ib h (ih (by omega)) (Hr.mpr (.inl (by rw [Ta (by omega),show max (c - 1 - (n:Int) - 1) 0 = c - 1 - ((n + 1:Nat):Int) by omega])))
 rintro (rfl | ⟨q,h0,h1,rfl⟩)
 ·exact k1
 ·have:=kq (c - 1 - q).toNat (by omega)
  rwa [show c - 1 - (((c - 1 - q).toNat:Nat):Int) = q by omega] at this
theorem Pj (x y:Int):PyData.eqv (.int x) (.int y) = decide (x = y):=by
 show (x == y) = _
 rw [Bool.eq_iff_iff]
 simp
theorem Xd {x y q r:Int} (h:x < y):Gc (dS ([x],q)) (dS ([y],r)) = true:=by
 show aN [dT [x],.int q] [dT [y],.int r] = true
 rw [aN,O6,if_neg (by simp; omega)]
 show aN [PyData.int x] [PyData.int y] = true
 rw [aN,Pj,if_neg (by simp; omega)]
 exact decide_eq_true h
theorem U2 {x q r:Int} (h:q < r):Gc (dS ([x],q)) (dS ([x],r)) = true:=by
 show aN [dT [x],.int q] [dT [x],.int r] = true
 rw [aN,O6,if_pos (by simp),aN,Pj,if_neg (by simp; omega)]
 exact decide_eq_true h
def Lk (w:Int):Option Int -> List (List Int × Int)
 | none=>[([w],0)]
 | some c=>([w - 1],c) :: (List.range c.toNat).map fun (q:Nat)=>([w],(q:Int))
theorem U0 {w:Int} {cm:Option Int} {tv ps:List ((List Int × Int) × V)} (hw:2 <= w) (hc:∀ c,cm = some c -> 1 <= c) (h:Oy [w] cm tv ps):ps = (Lk w cm).map fun k=>(k,V.int 0):=by
 cases cm with
 | none =>
  refine Pc h (by simp [Lk]) fun k=>?_
  rw [show Lk w none = [([w],0)] from rfl,List.mem_singleton,h.keys]
  exact ⟨Vv (by omega),fun e=>e ▸ .base⟩
 | some c =>
  have hc1:=hc c rfl
  refine Pc h ?_ fun k=>?_
  ·unfold Lk
   refine List.pairwise_cons.mpr ⟨fun b hb=>?_,List.pairwise_map.mpr (List.pairwise_lt_range.imp fun {a b} h=>U2 (by omega))⟩
   obtain ⟨n,_,rfl⟩ := List.mem_map.mp hb
   exact Xd (by omega)
  ·rw [V0 hw hc1 h]
   unfold Lk
   simp only [List.mem_cons,List.mem_map,List.mem_range]
   constructor
   ·rintro (e | ⟨q,h0,h1,e⟩)
    ·exact .inl e
    ·exact .inr ⟨q.toNat,by omega,by rw [e,show ((q.toNat:Nat):Int) = q by omega]⟩
   ·rintro (e | ⟨n,hn,e⟩)
    ·exact .inl e
    ·exact .inr ⟨n,by omega,by omega,e.symm⟩
theorem M9 {w:Int} {cm:Option Int} {tv:List ((List Int × Int) × V)} (hw:2 <= w) (hc:∀ c,cm = some c -> 1 <= c) (hr:Cv [w] cm tv):Af tv ([w],0) = none:=by
 cases e:Af tv ([w],0) with
 | none=>rfl
 | some v =>
  obtain ⟨m,e1,_⟩ := hr.1 _ _ e
  subst e1
  cases cm with
  | none=>exact (Lu hr m.toNat _ m (by omega) e).elim
  | some c =>
   have:=Q0 hw (hc c rfl) hr m.toNat _ m (by omega) e
   injection this with t1 t2
   injection t1 with t3
   omega
def t9 (D:Addr) (H H':Hp):Prop := ∀ b ob,b ≠ D -> H b = some ob -> H' b = some ob
def gm (D c:Addr) (H H':Hp):Prop := ∀ b ob,b ≠ D -> b ≠ c -> H b = some ob -> H' b = some ob
def bi (ws:List Int) (cm:Option Int) (H:Hp) (kvs:List ((List Int × Int) × V)) (i:Nat) (H':Hp) (wv:List ((List Int × Int) × V)):Prop := ∀ k who later,(∃ v,(k,v) ∈ kvs.take i) -> Al H kvs k who -> some later ∈ Au ws k.1 cm k.2 who -> C9 H' wv later k who
def gp (ws:List Int) (cm:Option Int) (cs:List (Ct × V)) (j:Nat) (kk:List Int × Int) (H':Hp) (wv:List ((List Int × Int) × V)):Prop := ∀ who later,(∃ e ∈ cs.take j,e.1 = .inl ((who:Nat):Int)) -> some later ∈ Au ws kk.1 cm kk.2 who -> C9 H' wv later kk who
def Xx (kvs:List ((List Int × Int) × V)) (H' H:Hp):Prop := ∀ k who,Al H' kvs k who -> Al H kvs k who
def ba (ws:List Int) (cm:Option Int) (kvs:List ((List Int × Int) × V)) (bG:List (List Int × Int)) (i:Nat) (H H':Hp):Prop := ∀ k who,Al H kvs k who -> (∀ later ∈ bG.take i,some later ∉ Au ws k.1 cm k.2 who) -> Al H' kvs k who
def eg (ws:List Int) (cm:Option Int) (kvs:List ((List Int × Int) × V)) (bG:List (List Int × Int)) (i:Nat) (H':Hp):Prop := ∀ later ∈ bG.take i,∀ k who,some later ∈ Au ws k.1 cm k.2 who -> ¬ Al H' kvs k who
def ix (kvs:List ((List Int × Int) × V)) (H H':Hp) (beta:List (List Int × Int)):Prop := ∀ k,k ∈ beta ↔ ((∃ who,Al H kvs k who) /\ ∀ who,¬ Al H' kvs k who)
def qu (H7:Hp) (fP:List V) (j:Nat) (H8:Hp) (kvs:List ((List Int × Int) × V)):Prop := ∀ t b who k,V.ref t ∈ fP.take j -> H7 t = some (.tup [.ref b,.int ((who:Nat):Int)]) -> F4 H7 b k -> ¬ Al H8 kvs k who
def su (T:Addr) (kvs:List ((List Int × Int) × V)) (H4 H':Hp):Prop := ∀ b ob,b ≠ T -> H4 b = some ob -> (∀ kv ∈ kvs,kv.2 ≠ .ref b) -> H' b = some ob
theorem Hb:An [V.bl false] [Value.bool false] := .cons rfl .nil
theorem n9 {us:List Value} (h:us.length = 0):us = []:=List.length_eq_zero_iff.mp h
theorem Jb {us:List Value} (h:us.length = 1):∃ a0,us = [a0]:=by
 cases us with
 | nil=>cases h
 | cons a us =>
  obtain rfl:=n9 (Nat.succ.inj h)
  exact ⟨a,rfl⟩
theorem Ua {us:List Value} (h:us.length = 2):∃ a0 a1,us = [a0,a1]:=by
 cases us with
 | nil=>cases h
 | cons a us =>
  obtain ⟨a1,rfl⟩ := Jb (Nat.succ.inj h)
  exact ⟨a,a1,rfl⟩
theorem Pf {us:List Value} (h:us.length = 3):∃ a0 a1 a2,us = [a0,a1,a2]:=by
 cases us with
 | nil=>cases h
 | cons a us =>
  obtain ⟨a1,a2,rfl⟩ := Ua (Nat.succ.inj h)
  exact ⟨a,a1,a2,rfl⟩
theorem W1 {us:List Value} (h:us.length = 4):∃ a0 a1 a2 a3,us = [a0,a1,a2,a3]:=by
 cases us with
 | nil=>cases h
 | cons a us =>
  obtain ⟨a1,a2,a3,rfl⟩ := Pf (Nat.succ.inj h)
  exact ⟨a,a1,a2,a3,rfl⟩
section
variable {P:Program} {w:World} {K:PySem.W.Frag} {mg:Str -> Option Value} {base:Heap} {ad:pz} {aA aD aI aB aJ aK aO aE aF aG aL aC:Addr}
def Oc (K:PySem.W.Frag):Sp:=fun vs H Q _=>Mb fun (a:Addr) (ws:List Int) (cm:Option Int)=>Vd (vs = [.ref a]) (B6 H a ws cm) (∀ (p:Addr) (H':Hp),A9 H H' -> Ea H' p ws 0 -> Q (.ref p) H')
theorem d4 {fd  : FuncData} (T:Txt K mg ad aA aD aI aB aJ aK aO aE aF aG aL aC) (F:F8 K "beginning" "beginning" N7 ad.bX fd):Ai P w K mg base (B8 P w) 1 ad.bX fd ["hall"] (Oc K):=by
 refine F.okN d6 (fun vs H Q E h=>?_) (fun aV A outer s H vs Q E hr h=>?_)
 ·rcases h with ⟨a,ws,cm,rfl,⟨t,ha,ht⟩,q⟩ <;> rfl
 ·obtain ⟨a,ws,cm,rfl,⟨t,ha,ht⟩,q⟩ := h
  refine ⟨_,(Ab (Ax (Bl (A0 (Cm (Cn K) (pv 0) Ac (fun _ _=>rfl)) (A0 Ac A7))))),?_⟩
  refine ⟨_,rfl,a,_,_,_,rfl,rfl,.inr (Ci.of ha),rfl,?_⟩
  exact ⟨Bf,fun p hp=>q p _ (A9.upd hp) ⟨t,A5,A9.upd hp _ _ ht⟩⟩
def Kg (K:PySem.W.Frag):Sp:=fun vs H Q _=>iw fun (a b:Addr) (ws ls:List Int) (calm:Option Int) (q:Int)=>Wv (vs = [.ref a,.ref b]) (B6 H a ws calm) (Ea H b ls q) (Q (.bl (!decide (calm = none) && decide (q = 0))) H)
theorem cz {fd  : FuncData} (T:Txt K mg ad aA aD aI aB aJ aK aO aE aF aG aL aC) (F:F8 K "may_lose" "may_lose" Nb ad.bS fd):Ai P w K mg base (B8 P w) 1 ad.bS fd ["hall","standing"] (Kg K):=by
 refine F.okN dl (fun vs H Q E h=>?_) (fun aV A outer s H vs Q E hr h=>?_)
 ·rcases h with ⟨a,b,ws,ls,calm,n,rfl,⟨t,ha,_⟩,⟨u,hb,_⟩,q⟩ <;> rfl
 ·obtain ⟨a,b,ws,ls,calm,n,rfl,⟨t,ha,_⟩,⟨u,hb,_⟩,q⟩ := h
  refine ⟨_,(Ab (Ax (Nu (Du Sz (Cm (Cn K) (pv 0) Ac (fun _ _=>rfl)) Dd (C8 _)) (Ni (Du Wy (Cm (Cn K) (pv 1) Ac (fun _ _=>rfl)) Ac (C8 _)))))),?_⟩
  refine ⟨_,rfl,a,_,_,_,rfl,rfl,.inr (Ci.of ha),rfl,rfl,_,decide (V.int n = V.int 0),rfl,fun _ Q' z=>⟨_,rfl,b,_,_,_,rfl,rfl,.inr (Ci.of hb),rfl,rfl,z⟩,?_⟩
  have e2:decide (V.int n = V.int 0) = decide (n = 0):=by simp
  rw [di,e2]
  exact q
def Xf (K:PySem.W.Frag):Sp:=fun vs H Q _=>Xh fun (a:Addr) (ws:List Int) (calm:Option Int) (who:Int)=>Vd (vs = [.ref a,.int who]) (B6 H a ws calm) (Q (.bl (decide (0 <= who /\ who < ws.length))) H)
theorem jc {fd  : FuncData} (T:Txt K mg ad aA aD aI aB aJ aK aO aE aF aG aL aC) (F:F8 K "is_listener" "is_listener" Uz ad.fT fd):Ai P w K mg base (B8 P w) 1 ad.fT fd ["hall","who"] (Xf K):=by
 refine F.okN ii (fun vs H Q E h=>?_) (fun aV A outer s H vs Q E hr h=>?_)
 ·rcases h with ⟨a,ws,calm,who,rfl,⟨t,cY,dW⟩,q⟩ <;> rfl
 ·obtain ⟨a,ws,calm,who,rfl,⟨t,cY,dW⟩,q⟩ := h
  refine ⟨_,(Ab (Ax (Nu (Du gr (pv 1) Ac (C8 _)) (Ni (Du Sg (pv 1) (Bt (Cy K) (by rfl) T.fF PySem.boot_len (A0 (Cm (Cn K) (pv 0) Ac (fun _ _=>rfl)) A7)) (C8 _)))))),?_⟩
  refine ⟨_,rfl,_,_,rfl,rfl,_,decide (who < (ws.length:Int)),rfl,fun _ Q' z=>⟨_,rfl,_,rfl,a,_,_,_,rfl,rfl,.inr (Ci.of cY),rfl,t,_,rfl,.inr (Ci.of dW),_,_,rfl,rfl,?_⟩,?_⟩
  ·rw [List.length_map]
   exact z
  ·rw [show (decide (who >= 0) && decide (who < (ws.length:Int))) = decide (0 <= who /\ who < (ws.length:Int)) by rw [Bool.decide_and]]
   exact q
def Wp (K:PySem.W.Frag):Sp:=fun vs H Q _=>fm fun (a b:Addr) (ws ls:List Int) (calm:Option Int) (q:Int) (who:Nat) (lost:Bool)=>P9 (vs = [.ref a,.ref b,.int who,.bl lost]) (B6 H a ws calm) (Ea H b ls q) (who < ws.length) (V1 calm q lost) (Q .aW H)
theorem ir {fd rR cD:FuncData} (T:Txt K mg ad aA aD aI aB aJ aK aO aE aF aG aL aC) (F:F8 K "refuse_wrong_turn" "refuse_wrong_turn" Uv ad.fU fd) (v9:Ai P w K mg base (B8 P w) 1 ad.fT rR ["hall","who"] (Xf K)) (vc:Aw K rR ["hall","who"] []) (dJ:Ai P w K mg base (B8 P w) 1 ad.bS cD ["hall","standing"] (Kg K)) (dM:Aw K cD ["hall","standing"] []):Ai P w K mg base (B8 P w) 2 ad.fU fd ["hall","standing","who","lost"] (Wp K):=by
 refine F.okN ik (fun vs H Q E h=>?_) (fun aV A outer s H vs Q E hr h=>?_)
 ·rcases h with ⟨a,b,ws,ls,calm,n,who,lost,rfl,ha,hb,hw,hm,q⟩ <;> rfl
 ·obtain ⟨a,b,ws,ls,calm,n,who,lost,rfl,ha,hb,hw,hm,q⟩ := h
  refine ⟨_,(A8 (Eh (Ih (Fn (Ag v9 (hr.mono (by decide)) rfl T.KL T.k_x8 vc .nil Az (A0 (pv 0) (A0 (pv 2) A7))))) (Ab P7) B9) (Ab (Eh (PW.pt (Za (Fn (pv 3)) (Y3 (Ih (Fn (Ag dJ (hr.mono (by decide)) rfl T.lZ T.k_x19 dM .nil Az (A0 (pv 0) (A0 (pv 1) A7)))))))) (Ab P7) B9))),?_⟩
  obtain ⟨t,cY,dW⟩ := id ha
  refine ⟨_,rfl,_,rfl,a,ws,calm,(who:Int),rfl,ha,_,rfl,Mg ?_ ?_⟩
  ·rw [decide_eq_true (show (0:Int) <= (who:Int) /\ (who:Int) < (ws.length:Int) by omega)]
   rfl
  refine ⟨_,rfl,_,rfl,!(!decide (calm = none) && decide (n = 0)),fun _ Q' z=>⟨_,rfl,_,rfl,a,b,ws,ls,calm,n,rfl,ha,hb,_,rfl,z⟩,Mg ?_ q⟩
  cases lost with
  | false=>rfl
  | true =>
   obtain ⟨h1,h2⟩ := hm rfl
   simp [h1,h2]
def Vs (K:PySem.W.Frag):Sp:=fun vs H Q _=>fm fun (a b:Addr) (ws ls:List Int) (calm:Option Int) (q:Int) (who:Nat) (lost:Bool)=>Z6 (vs = [.ref a,.ref b,.int who,.bl lost]) (B6 H a ws calm) (Ea H b ls q) (who < ws.length) (ls.length = ws.length) (ws.length <= 8) (V1 calm q lost) (∀ (l:Addr) (H':Hp),H l = none -> A9 H H' -> H' l = some (.lst ((Bp ws ls who lost).map V.int)) -> Q (.ref l) H')
theorem jq {fd rS:FuncData} (T:Txt K mg ad aA aD aI aB aJ aK aO aE aF aG aL aC) (F:F8 K "left_behind" "left_behind" Qz ad.fV fd) (vd:Ai P w K mg base (B8 P w) 2 ad.fU rS ["hall","standing","who","lost"] (Wp K)) (vf:Aw K rS ["hall","standing","who","lost"] []):Ai P w K mg base (B8 P w) 3 ad.fV fd ["hall","standing","who","lost"] (Vs K):=by
 refine F.okN Zg (fun vs H Q E h=>?_) (fun aV A outer s H vs Q E hr h=>?_)
 ·rcases h with ⟨a,b,ws,ls,calm,n,who,lost,rfl,ha,hb,hw,hl,h8,hm,q⟩ <;> rfl
 ·obtain ⟨a,b,ws,ls,calm,n,who,lost,rfl,ha,hb,hw,hl,h8,hm,q⟩ := h
  refine ⟨_,(A8 (Cq (Ag vd (hr.mono (by decide)) rfl T.KN T.k_x1 vf .nil Az (A0 (pv 0) (A0 (pv 1) (A0 (pv 2) (A0 (pv 3) A7)))))) (A8 (Ep (i:=4) Zg.nd rfl (Dp (w':=Qo K _) (Dq (Cm (Cn K) (pv 1) Ac (fun _ _=>rfl)))) _ rfl Ik rfl rfl (fun _ _ _ _=>(Av (i:=0) Hx rfl (Or.inl rfl))) (fun _ _ _ _=>D3) (fun _ _ _ _=>(Be Rg (pv 0) Ac)) rfl rfl) (A8 (Df (Ih (Fn (pv 3))) (Ab (R9 (Cm (Cn K) (Cm (Cn K) (pv 0) Ac (fun _ _=>rfl)) (pv 2) (fun _ _=>rfl)) (S4 (pv 4) (pv 2) Ka))) B9) (Ab (Ax (pv 4)))))),?_⟩
  obtain ⟨t,cY,dW⟩ := id ha
  obtain ⟨u,kT,kS⟩ := id hb
  refine ⟨_,rfl,_,rfl,_,rfl,_,rfl,a,b,ws,ls,calm,n,who,lost,rfl,ha,hb,hw,hm,?_⟩
  refine ⟨_,rfl,b,_,_,_,rfl,rfl,.inr (Ci.of kT),rfl,u,rfl,.inr ⟨⟨_,Ci.of kS⟩,fun D hD=>?_⟩⟩
  refine X8 (K:=K) (a:=u) (xs:=ls.map V.int) (fun i ys H'=>ys = ((ls.take i).map (fun x=>x - 1)).map V.int /\ H' D = some (.lst ys) /\ A9 H H') ⟨rfl,A5,A9.upd hD⟩ (by rintro i ys H' _ ⟨_,_,s⟩; exact Ci.of (s _ _ kS)) ?_ ?_
  ·rintro i x ys H' hx ⟨rfl,kU,s'⟩ Qe hQ
   rw [List.getElem?_map] at hx
   obtain ⟨y,hy,rfl⟩ := Option.map_eq_some_iff.mp hx
   have hi:=(List.getElem?_eq_some_iff.mp hy).1
   refine ⟨_,rfl,_,_,rfl,rfl,hQ _ _ kU (C6 (by simp; omega)) ⟨?_,A5,s'.new hD⟩⟩
   rw [List.take_add_one,hy]
   simp
  rintro ys H2 ⟨rfl,LC,s2⟩
  rw [List.length_map,List.take_length] at LC
  refine ⟨_,rfl,_,rfl,(fun σ' H'=>σ' = [some (.ref a),some (.ref b),some (.int (who:Nat)),some (.bl lost),some (.ref D)] /\ A9 H H' /\ H' D = some (.lst ((Bp ws ls who lost).map V.int))),fun e=>?_,fun e=>?_,?_⟩
  ·have e':lost = false:=by simpa using e
   subst e'
   refine ⟨_,rfl,a,_,_,_,rfl,rfl,.inr (Ci.of (s2 _ _ cY)),rfl,_,rfl,t,_,_,_,rfl,rfl,.inr (Ci.of (s2 _ _ dW)),Tj hw,?_⟩
   refine ⟨_,rfl,_,rfl,D,_,_,_,rfl,rfl,LC,Sy (by simp; omega),rfl,s2.new hD,?_⟩
   rw [A5]
   unfold Bp
   simp
  ·have e':lost = true:=by simpa using e
   subst e'
   exact ⟨rfl,s2,LC⟩
  ·rintro σ' H' ⟨rfl,s3,e3⟩
   exact ⟨_,rfl,q D H' hD s3 e3⟩
def X7 (K:PySem.W.Frag):Sp:=fun vs H Q _=>pj fun (a b:Addr) (ws ls:List Int) (calm:Option Int) (q:Int) (lost:Bool)=>Kc (vs = [.ref a,.ref b,.bl lost]) (B6 H a ws calm) (Ea H b ls q) (V1 calm q lost) (Q (.int (Cz calm q lost)) H)
theorem jj {fd  : FuncData} (T:Txt K mg ad aA aD aI aB aJ aK aO aE aF aG aL aC) (F:F8 K "quiet_behind" "quiet_behind" To ad.fW fd):Ai P w K mg base (B8 P w) 1 ad.fW fd ["hall","standing","lost"] (X7 K):=by
 refine F.okN gy (fun vs H Q E h=>?_) (fun aV A outer s H vs Q E hr h=>?_)
 ·rcases h with ⟨a,b,ws,ls,calm,n,lost,rfl,⟨t,ha,_⟩,⟨u,hb,_⟩,hm,q⟩ <;> rfl
 ·obtain ⟨a,b,ws,ls,calm,n,lost,rfl,⟨t,ha,_⟩,⟨u,hb,_⟩,hm,q⟩ := h
  refine ⟨_,(A8 (Eh (Fn (pv 2)) (Ab (Ax (Cm (Cn K) (pv 0) Ac (fun _ _=>rfl)))) B9) (Ab (Ax (Bt (Tu rfl) (by rfl) T.rN boot_max (A0 (Be Rg (Cm (Cn K) (pv 1) Ac (fun _ _=>rfl)) Ac) (A0 Ac A7)))))),?_⟩
  refine ⟨_,rfl,_,rfl,?_⟩
  cases lost with
  | true =>
   refine Ps rfl ?_
   refine ⟨_,rfl,a,_,_,_,rfl,rfl,.inr (Ci.of ha),rfl,?_⟩
   cases calm with
   | none=>exact absurd rfl (hm rfl).1
   | some c=>exact q
  | false =>
   refine Mg rfl ?_
   refine ⟨_,rfl,b,_,_,_,rfl,rfl,.inr (Ci.of hb),rfl,_,_,rfl,rfl,_,_,rfl,?_⟩
   have e:(if (0:Int) > n - 1 then (0:Int) else n - 1) = Cz calm n false:=by
    unfold Cz
    rw [if_neg Bool.false_ne_true]
    omega
   show Q (.int (if (0:Int) > n - 1 then (0:Int) else n - 1)) H
   rw [e]
   exact q
def Kl (K:PySem.W.Frag):Sp:=fun vs H Q _=>fm fun (a b:Addr) (ws ls:List Int) (calm:Option Int) (q:Int) (who:Nat) (lost:Bool)=>Ux (vs = [.ref a,.ref b,.int who,.bl lost]) (B6 H a ws calm) (Ea H b ls q) (who < ws.length) (ls.length = ws.length) (ws.length <= 8) (V1 calm q lost) (((0:Int) ∈ Bp ws ls who lost -> ∀ H',A9 H H' -> Q .aW H')) (((0:Int) ∉ Bp ws ls who lost -> ∀ (p:Addr) (H':Hp),A9 H H' -> Ea H' p (Bp ws ls who lost) (Cz calm q lost) -> Q (.ref p) H'))
theorem b9 {fd rT rV:FuncData} (T:Txt K mg ad aA aD aI aB aJ aK aO aE aF aG aL aC) (F:Pd K "after" "after" Ez ad.bO fd) (vg:Ai P w K mg base (B8 P w) 3 ad.fV rT ["hall","standing","who","lost"] (Vs K)) (vh:Aw K rT ["hall","standing","who","lost"] []) (vk:Ai P w K mg base (B8 P w) 1 ad.fW rV ["hall","standing","lost"] (X7 K)) (vn:Aw K rV ["hall","standing","lost"] []):Ai P w K mg base (B8 P w) 4 ad.bO fd ["hall","standing","who","lost"] (Kl K):=by
 refine F.okN Wg (fun vs H Q E h=>?_) (fun aV A outer s H vs Q E hr h=>?_)
 ·rcases h with ⟨a,b,ws,ls,calm,n,who,lost,rfl,ha,hb,hw,hl,h8,hm,q1,q2⟩ <;> rfl
 ·obtain ⟨a,b,ws,ls,calm,n,who,lost,rfl,ha,hb,hw,hl,h8,hm,q1,q2⟩ := h
  refine ⟨_,(A8 (Ar (i:=4) Wg.nd rfl (Or.inl rfl) (Ag vg (hr.mono (by decide)) rfl T.KO T.k_x9 vh .nil Az (A0 (pv 0) (A0 (pv 1) (A0 (pv 2) (A0 (pv 3) A7)))))) (A8 (Eh (Ck (ee K) Ac (pv 4) rfl) (Ab (Ax Dd)) B9) (Ab (Ax (Bl (A0 (G8 (Ij K) (by rfl) T.gR boot_tuple (A0 (pv 4) A7)) (A0 (Ag vk (hr.mono (by decide)) rfl T.KP T.k_x4 vn .nil Az (A0 (pv 0) (A0 (pv 1) (A0 (pv 3) A7)))) A7))))))),?_⟩
  refine ⟨_,rfl,_,rfl,_,rfl,_,rfl,a,b,ws,ls,calm,n,who,lost,rfl,ha,hb,hw,hl,h8,hm,fun l H1 hl0 s1 zV=>?_⟩
  refine ⟨_,rfl,l,_,rfl,.inl (Bj.of zV),rfl,Mz _,_,rfl,?_⟩
  rw [Pb]
  refine Oe (fun h0=>?_) (fun h0=>?_)
  ·exact q1 (by simpa using h0) H1 s1
  ·refine ⟨_,rfl,l,_,rfl,.inl ⟨Bj.of zV,fun t ht=>?_⟩⟩
   have s2:A9 H (upd H1 t (.tup ((Bp ws ls who lost).map V.int))):=s1.new (s1.free ht)
   refine ⟨_,rfl,_,rfl,_,rfl,a,b,ws,ls,calm,n,lost,rfl,ha.same s2,hb.same s2,hm,Bf,fun p hp=>?_⟩
   refine q2 (by simpa using h0) p _ (s2.new (s2.free hp)) ⟨t,A5,?_⟩
   rw [Aa (fun e=>by rw [<- e,A5] at hp; cases hp),A5]
def Ki (K:PySem.W.Frag):Sp:=fun vs H Q _=>fm fun (a b:Addr) (ws ls:List Int) (cm:Option Int) (q w:Int) (who:Nat)=>Z6 (vs = [.ref a,.ref b,.int w]) (w = (who:Int)) (B6 H a ws cm) (Ea H b ls q) (who < ws.length) (ls.length = ws.length) (ws.length <= 8) (∀ (l:Addr) (us:List V) (H':Hp),H l = none -> A9 H H' -> H' l = some (.lst us) -> Ah (Gu H') (Au ws ls cm q who) us -> Q (.ref l) H')
theorem cg {fd cD bH:FuncData} (T:Txt K mg ad aA aD aI aB aJ aK aO aE aF aG aL aC) (F:F8 K "all_behind" "all_behind" Mi ad.bT fd) (dJ:Ai P w K mg base (B8 P w) 1 ad.bS cD ["hall","standing"] (Kg K)) (dM:Aw K cD ["hall","standing"] []) (cE:Ai P w K mg base (B8 P w) 4 ad.bO bH ["hall","standing","who","lost"] (Kl K)) (dN:Aw K bH ["hall","standing","who","lost"] []) (aZ:Aw K bH ["hall","standing","who","lost"] [Value.bool false]):Ai P w K mg base (B8 P w) 5 ad.bT fd ["hall","standing","who"] (Ki K):=by
 refine F.okN X3 (fun vs H Q E h=>?_) (fun aV A outer s H vs Q E hr h=>?_)
 ·rcases h with ⟨a,b,ws,ls,cm,n,w0,who,rfl,rfl,ha,hb,hw,hl,h8,q⟩ <;> rfl
 ·obtain ⟨a,b,ws,ls,cm,n,w0,who,rfl,rfl,ha,hb,hw,hl,h8,q⟩ := h
  refine ⟨_,(A8 (Ar (i:=3) X3.nd rfl (Or.inl rfl) (D9 (A0 (Um (Ag cE (hr.mono (by decide)) rfl T.iH T.k_x24 aZ (Hb) Az (A0 (pv 0) (A0 (pv 1) (A0 (pv 2) A7))))) A7))) (A8 (Df (Fn (Ag dJ (hr.mono (by decide)) rfl T.lZ T.k_x19 dM .nil Az (A0 (pv 0) (A0 (pv 1) A7)))) (Ab (Cq (Gg (u':=Yf K _ _ _ _) (J5 PySem.F.plainAttrs_list PySem.F.slot_list_append PySem.F.type_list_append Fx (pv 3) (A0 (Um (Ag cE (hr.mono (by decide)) rfl T.iH T.k_x24 dN .nil Az (A0 (pv 0) (A0 (pv 1) (A0 (pv 2) (A0 Mv A7)))))) A7))))) B9) (Ab (Ax (pv 3))))),?_⟩
  refine ⟨(fun v H9=>Gu H9 (Co ws ls cm n who false) v /\ A9 H H9),⟨_,rfl,_,rfl,_,rfl,a,b,ws,ls,cm,n,who,false,rfl,ha,hb,hw,hl,h8,(fun z=>nomatch z),(fun hz H2 s2=>⟨by unfold Co; rw [if_pos hz]; rfl,s2⟩),fun hz p H2 s2 fO=>⟨by unfold Co; rw [if_neg hz]; exact ⟨p,rfl,fO⟩,s2⟩⟩,?_⟩
  rintro v H1 ⟨hv,s1⟩
  refine ⟨Bf,fun L hL=>?_⟩
  have s2:A9 H1 (upd H1 L (.lst [v])):=A9.upd hL
  have e2:(upd H1 L (.lst [v])) L = some (.lst [v]):=A5
  generalize upd H1 L (.lst [v]) = H2 at s2 e2 ⊢
  have eM:=s1.trans s2
  refine ⟨_,rfl,_,rfl,a,b,ws,ls,cm,n,rfl,ha.same eM,hb.same eM,_,rfl,(fun σ' H'=>∃ (us:List V),Wv (σ' = [some (.ref a),some (.ref b),some (.int who),some (.ref L)]) (H' L = some (.lst us)) (Ah (Gu H') (Au ws ls cm n who) us) (A9 H H')),fun hm=>?_,fun hm=>?_,?_⟩
  ·have kK:Hd cm n = true:=hm
   have LD:V1 cm n true:=fun _=>by
    unfold Hd at kK
    simp only [Bool.and_eq_true,Bool.not_eq_true',decide_eq_false_iff_not,decide_eq_true_eq] at kK
    exact kK
   refine ⟨_,rfl,.inl ⟨rfl,_,Bj.of e2⟩,(fun v H9=>Gu H9 (Co ws ls cm n who true) v /\ A9 H2 H9),⟨_,rfl,_,rfl,_,rfl,a,b,ws,ls,cm,n,who,true,rfl,ha.same eM,hb.same eM,hw,hl,h8,LD,(fun hz H2 s2=>⟨by unfold Co; rw [if_pos hz]; rfl,s2⟩),fun hz p H2 s2 fO=>⟨by unfold Co; rw [if_neg hz]; exact ⟨p,rfl,fO⟩,s2⟩⟩,?_⟩
   rintro v2 H3 ⟨AQ,s3⟩
   have e3:=s3 _ _ e2
   have tt:Am H3 (upd H3 L (.lst ([v] ++ [v2]))):=Am.lst e3
   refine ⟨L,_,_,rfl,rfl,e3,C6 (by simp),[v] ++ [v2],rfl,A5,?_,(eM.trans s3).new (s1.free hL)⟩
   unfold Au
   rw [if_pos kK]
   exact Ah.cons (hv.up (((Am.of s2).trans (Am.of s3)).trans tt)) (Ah.one (AQ.up tt))
  ·have kK : ¬ Hd cm n = true := by
    rw [show Hd cm n = false from hm]
    exact Bool.false_ne_true
   refine ⟨[v],rfl,e2,?_,eM⟩
   unfold Au
   rw [if_neg kK]
   exact Ah.one (hv.up (Am.of s2))
  rintro σ' H' ⟨us,rfl,eL,hall,s'⟩
  exact ⟨_,rfl,q L us H' (s1.free hL) s' eL hall⟩
def Sk (K:PySem.W.Frag):Sp:=fun vs H Q _=>Mb fun (a:Addr) (ws:List Int) (cm:Option Int)=>Vd (vs = [.ref a]) (B6 H a ws cm) (Q (.int (qv cm)) H)
theorem jb {fd  : FuncData} (T:Txt K mg ad aA aD aI aB aJ aK aO aE aF aG aL aC) (F:F8 K "quiet_values" "quiet_values" Tv ad.fD fd):Ai P w K mg base (B8 P w) 1 ad.fD fd ["hall"] (Sk K):=by
 refine F.okN gk (fun vs H Q E h=>?_) (fun aV A outer s H vs Q E hr h=>?_)
 ·rcases h with ⟨a,ws,cm,rfl,⟨t,cY,dW⟩,q⟩ <;> rfl
 ·obtain ⟨a,ws,cm,rfl,⟨t,cY,dW⟩,q⟩ := h
  refine ⟨_,(Ab (Ax (W7 (Ck Q9 (Cm (Cn K) (pv 0) Ac (fun _ _=>rfl)) Dd (C8 _)) Ac (Be Ew (Cm (Cn K) (pv 0) Ac (fun _ _=>rfl)) Ac)))),?_⟩
  cases cm with
  | none=>exact ⟨_,rfl,a,_,_,_,rfl,rfl,.inr (Ci.of cY),rfl,rfl,_,rfl,Ps rfl q⟩
  | some c=>exact ⟨_,rfl,a,_,_,_,rfl,rfl,.inr (Ci.of cY),rfl,rfl,_,rfl,Mg rfl ⟨_,rfl,a,_,_,_,rfl,rfl,.inr (Ci.of cY),rfl,_,_,rfl,rfl,q⟩⟩
def Qt (K:PySem.W.Frag):Sp:=fun vs H Q _=>Mb fun (a:Addr) (ws:List Int) (cm:Option Int)=>P9 (vs = [.ref a]) (B6 H a ws cm) ((∀ w ∈ ws,intBits w <= 256)) (intBits (qv cm) <= 256) (ws.length <= 8) (Q (.int (Ad (qv cm) ws)) H)
theorem b7 {fd iK:FuncData} (T:Txt K mg ad aA aD aI aB aJ aK aO aE aF aG aL aC) (F:F8 K "how_many" "how_many" Lr ad.cK fd) (kW:Ai P w K mg base (B8 P w) 1 ad.fD iK ["hall"] (Sk K)) (kX:Aw K iK ["hall"] []):Ai P w K mg base (B8 P w) 2 ad.cK fd ["hall"] (Qt K):=by
 refine F.okN Nx (fun vs H Q E h=>?_) (fun aV A outer s H vs Q E hr h=>?_)
 ·rcases h with ⟨a,ws,cm,rfl,⟨t,cY,dW⟩,hb,eV,hl,q⟩ <;> rfl
 ·obtain ⟨a,ws,cm,rfl,⟨t,cY,dW⟩,hb,eV,hl,q⟩ := h
  refine ⟨_,(A8 (Ar (i:=1) Nx.nd rfl (Or.inl rfl) (Ag kW (hr.mono (by decide)) rfl T.zX T.k_x5 kX .nil Az (A0 (pv 0) A7))) (A8 (Cw PassesOwn.never rfl (Dp (w':=Qo K _) (Dq (Cm (Cn K) (pv 0) Ac (fun _ _=>rfl)))) (Av (i:=2) Nx.nd rfl (Or.inl rfl)) (Ab (Ar (i:=1) Nx.nd rfl (Or.inl rfl) (Be Jg (pv 1) (pv 2))))) (Ab (Ax (pv 1))))),?_⟩
  refine ⟨_,rfl,a,ws,cm,rfl,⟨t,cY,dW⟩,?_⟩
  refine ⟨_,rfl,a,_,_,_,rfl,rfl,.inr (Ci.of cY),rfl,t,rfl,.inr ⟨⟨_,Ci.of dW⟩,?_⟩⟩
  refine Su (K:=K) (a:=t) (xs:=ws.map V.int) (fun i σ H'=>∃ (v2:Option V),σ = [some (.ref a),some (.int (Ad (qv cm) (ws.take i))),v2] /\ H' = H) ⟨none,rfl,rfl⟩ (by rintro i σ H' _ ⟨_,_,e⟩; exact (by rw [e]; exact Ci.of dW)) ?_ ?_
  ·rintro i y σ H' hy ⟨v2,rfl,eH⟩
   subst eH
   rw [List.getElem?_map] at hy
   obtain ⟨x,hx,rfl⟩ := Option.map_eq_some_iff.mp hy
   have hi:=(List.getElem?_eq_some_iff.mp hx).1
   have b1:=Mo eV hb i (by omega)
   refine ⟨_,rfl,_,rfl,_,_,rfl,rfl,iy b1 (hb x (List.mem_of_getElem? hx)) (by omega),?_⟩
   refine ⟨some (.int x),?_,rfl⟩
   have e:Ad (qv cm) (ws.take (i + 1)) = Ad (qv cm) (ws.take i) * x:=Ee _ _ _ hx
   rw [e]
   rfl
  ·rintro σ H' ⟨v2,rfl,eH⟩
   subst eH
   rw [List.length_map,List.take_length]
   exact ⟨_,rfl,q⟩
def Qv (K:PySem.W.Frag):Sp:=fun vs H Q _=>Yy fun (t:Addr) (ws:List Int)=>P9 (vs = [.ref t]) (H t = some (.tup (ws.map V.int))) ((∀ w ∈ ws,1 <= w)) (Ad 1 ws <= 3000) (ws.length <= 8) (∀ (l:Addr) (us:List V) (H':Hp),H l = none -> A9 H H' -> H' l = some (.lst us) -> Ah (Dm H') (Br ws) us -> Q (.ref l) H')
theorem c8 {fd  : FuncData} (T:Txt K mg ad aA aD aI aB aJ aK aO aE aF aG aL aC) (F:F8 K "all_left" "all_left" Kq ad.cL fd):Ai P w K mg base (B8 P w) 1 ad.cL fd ["waits"] (Qv K):=by
 refine F.okN Iu (fun vs H Q E h=>?_) (fun aV A outer s H vs Q E hr h=>?_)
 ·rcases h with ⟨t,ws,rfl,ht,dH,hp,cX,q⟩ <;> rfl
 ·obtain ⟨t,ws,rfl,ht,dH,hp,cX,q⟩ := h
  refine ⟨_,(A8 (Ar (i:=1) Iu.nd rfl (Or.inl rfl) (D9 (A0 (Bl A7) A7))) (A8 (Cw PassesOwn.never rfl (Dp (w':=Qo K _) (Dq (pv 0))) (Av (i:=2) Iu.nd rfl (Or.inl rfl)) (A8 (Ar (i:=3) Iu.nd rfl (Or.inl rfl) (D9 A7)) (A8 (Cw PassesOwn.never rfl (Dp (w':=Qo K _) (Dq (pv 1))) (Av (i:=4) Iu.nd rfl (Or.inr rfl)) (Ab (Cq (Gg (u':=Yf K _ _ _ _) (J5 PySem.F.plainAttrs_list PySem.F.slot_list_extend PySem.F.type_list_extend Fw (pv 3) (A0 (Dr (U9 (by rfl) T.cJ (A0 Ac (A0 (Be Ew (pv 2) Ac) A7))) _ rfl Le rfl rfl (fun _ _ _ _=>(Av (i:=0) Lj rfl (Or.inl rfl))) (fun _ _ _ _=>D3) (fun _ _ _ _=>(Be (Yb K) (pv 1) (Bl (A0 (pv 0) A7))))) A7)))))) (Ab (Ar (i:=1) Iu.nd rfl (Or.inl rfl) (pv 3)))))) (Ab (Ax (pv 1))))),?_⟩
  refine ⟨Bf,fun E0 hE0=>⟨Bf,fun L0 LF=>?_⟩⟩
  have s0:A9 H (upd H E0 (.tup [])):=A9.upd hE0
  have e0:(upd H E0 (.tup [])) E0 = some (.tup (([]:List Int).map V.int)):=A5
  generalize upd H E0 (.tup []) = H0 at s0 e0 LF ⊢
  have s1:A9 H0 (upd H0 L0 (.lst [.ref E0])):=A9.upd LF
  have e1:(upd H0 L0 (.lst [.ref E0])) L0 = some (.lst [.ref E0]):=A5
  have r1:Ah (Dm (upd H0 L0 (.lst [.ref E0]))) (Br (ws.take 0)) [.ref E0]:=Ah.one ⟨E0,rfl,s1 _ _ e0⟩
  generalize upd H0 L0 (.lst [.ref E0]) = H1 at s1 e1 r1 ⊢
  have s01:=s0.trans s1
  refine ⟨_,rfl,t,rfl,.inr ⟨⟨_,Ci.of (s01 _ _ ht)⟩,?_⟩⟩
  refine Su (K:=K) (a:=t) (xs:=ws.map V.int) (fun i σ H'=>kj fun (L:Addr) (us:List V) (v2 v3 v4:Option V)=>Kc (σ = [some (.ref t),some (.ref L),v2,v3,v4]) (H' L = some (.lst us)) (A9 H H') (Ah (Dm H') (Br (ws.take i)) us) (H L = none))
   ⟨L0,_,none,none,none,rfl,e1,s01,r1,s0.free LF⟩ (by rintro i σ H' _ ⟨_,_,_,_,_,_,_,s,_,_⟩; exact Ci.of (s _ _ ht)) ?_ ?_
  ·rintro i y σ H2 hy ⟨L,us,v2,v3,v4,rfl,f1,s2,f2,hL⟩
   rw [List.getElem?_map] at hy
   obtain ⟨w,hw,rfl⟩ := Option.map_eq_some_iff.mp hy
   have hwi:=dH w (List.mem_of_getElem? hw)
   have AV:=Ly dH hp i
   have jX:=Ly dH hp (i + 1)
   have vo:Br (ws.take (i + 1)) = Bq (Br (ws.take i)) w:=Ee _ _ _ hw
   rw [vo,L3] at jX
   have hiw:=(List.getElem?_eq_some_iff.mp hw).1
   have hrl:∀ r ∈ Br (ws.take i),r.length <= 8:=fun r hr=>by
    have:=(Gv ws i (by omega) r hr).1
    omega
   generalize Br (ws.take i) = rows at f2 AV jX vo hrl
   refine ⟨Bf,fun D hD=>?_⟩
   have s3:A9 H2 (upd H2 D (.lst [])):=A9.upd hD
   have e3:(upd H2 D (.lst [])) D = some (.lst []):=A5
   have f3:=s3 _ _ f1
   have g3:=f2.imp fun r v z=>Dm.up (Am.of s3) z
   have LG:L ≠ D:=Aj f1 hD
   generalize upd H2 D (.lst []) = H3 at s3 e3 f3 g3 ⊢
   refine ⟨_,rfl,L,rfl,.inl ⟨⟨_,Bj.of f3⟩,?_⟩⟩
   refine D4 (K:=K) (a:=L) (xs:=us) (fun j σ H'=>Yy fun (zs:List V) (v4:Option V)=>Kc (σ = [some (.ref t),some (.ref L),some (.int w),some (.ref D),v4]) (H' D = some (.lst zs)) (H' L = some (.lst us)) (A9 H2 H') (Ah (Dm H') (Bq (rows.take j) w) zs))
    ⟨[],v4,rfl,e3,f3,s3,Ah.nil⟩ (by rintro j σ H' _ ⟨_,_,_,_,e,_⟩; exact Bj.of e) ?_ ?_
   ·rintro j y σ H4 hy ⟨zs,v4',rfl,h1,h2,s4,h3⟩
    have g4:=f2.imp fun r v z=>Dm.up (Am.of s4) z
    obtain ⟨r,oZ,p,rfl,LH⟩ := g4.get hy
    have hj:=(List.getElem?_eq_some_iff.mp oZ).1
    have hr8:=hrl r (List.mem_of_getElem? oZ)
    have ezl:zs.length = (rows.take j).length * w.toNat:=by rw [h3.1,L3]
    have ze:zs.length <= 3000:=by
     rw [ezl]
     refine Nat.le_trans (Nat.mul_le_mul_right _ ?_) jX
     rw [List.length_take]
     omega
    have hw3:w.toNat <= 3000:=Nat.le_trans (Nat.le_mul_of_pos_left _ (by omega)) jX
    refine ⟨_,rfl,.inl ⟨rfl,_,Bj.of h1⟩,_,rfl,_,_,rfl,rfl,1,w + 1,rfl,by omega,fun B hB=>?_⟩
    refine Et (fun m ys H'=>H' B = some (.lst ys) /\ A9 H4 H' /\ Ah (Dm H') ((List.range m).map fun t=>r ++ [1 + ((t:Nat):Int)]) ys) ⟨A5,A9.upd hB,Ah.nil⟩ ?_ ?_
    ·rintro m ys H5 hm ⟨k1,s5,k2⟩ Qe hQ
     refine ⟨_,rfl,_,rfl,Bf,fun P hP=>?_⟩
     have s6:A9 H5 (upd H5 P (.tup [.int (1 + (m:Int))])):=A9.upd hP
     refine ⟨p,P,_,_,rfl,rfl,Ci.of (s6 _ _ (s5 _ _ LH)),A5,by simp,Nat.le_of_lt (Eg (by simp; omega)),fun p' H6 s7 e7=>?_⟩
     generalize upd H5 P (.tup [.int (1 + (m:Int))]) = H5' at s6 s7
     have LI:=s6.trans s7
     have rX:=LI _ _ k1
     have kl:ys.length = m:=by rw [k2.1]; simp
     refine hQ _ _ rX (Eg (by omega)) ⟨A5,(s5.trans LI).new hB,?_⟩
     have tu:Am H5 (upd H6 B (.lst (ys ++ [.ref p']))):=(Am.of LI).trans (Am.lst rX)
     rw [List.range_succ,List.map_append]
     refine (k2.imp fun r v z=>Dm.up tu z).append (Ah.one ⟨p',rfl,?_⟩)
     refine Am.lst rX _ _ ?_
     rw [e7,List.map_append]
     rfl
    ·rintro ys H5 ⟨k1,s5,k2⟩
     have eB:((List.range (w + 1 - 1).toNat).map fun t=>r ++ [1 + ((t:Nat):Int)]) = Nv r w:=by
      rw [show w + 1 - 1 = w by omega]
      rfl
     rw [eB] at k2
     have eJ:=s5 _ _ h1
     have kl:ys.length = w.toNat:=by rw [k2.1,P3]
     refine ⟨D,B,_,_,rfl,rfl,eJ,k1,Nat.le_of_lt (Eg (by omega)),?_⟩
     have tu:Am H5 (upd H5 D (.lst (zs ++ ys))):=Am.lst eJ
     refine ⟨zs ++ ys,_,rfl,A5,by rw [Aa LG]; exact s5 _ _ h2,(s4.trans s5).new hD,?_⟩
     have e:Bq (rows.take (j + 1)) w = Bq (rows.take j) w ++ Nv r w:=Mw _ _ oZ
     rw [e]
     exact (h3.imp fun r v z=>Dm.up ((Am.of s5).trans tu) z).append (k2.imp fun r v z=>Dm.up tu z)
   ·rintro σ H4 ⟨zs,v4',rfl,h1,h2,s4,h3⟩
    rw [f2.1,List.take_length] at h3
    refine ⟨_,rfl,D,zs,_,_,_,rfl,h1,s2.trans s4,?_,s2.free hD⟩
    rw [vo]
    exact h3
  ·rintro σ H2 ⟨L,us,v2,v3,v4,rfl,f1,s2,f2,hL⟩
   rw [List.length_map,List.take_length] at f2
   exact ⟨_,rfl,q L us H2 hL s2 f1 f2⟩
def Qh (K:PySem.W.Frag) (aA:Addr):Sp:=fun vs H Q E=>(Mb fun (a:Addr) (ws:List Int) (cm:Option Int)=>Ux (vs = [.ref a]) (B6 H a ws cm) ((∀ w ∈ ws,1 <= w)) (1 <= qv cm) ((∀ w ∈ ws,intBits w <= 256)) (intBits (qv cm) <= 256) (ws.length <= 8) (Ad (qv cm) ws <= 3000) (∀ (l:Addr) (us:List V) (H':Hp),H l = none -> A9 H H' -> H' l = some (.lst us) -> Ah (Ga H') (B0 ws (qv cm)) us -> Q (.ref l) H')) \/ (Mb fun (a:Addr) (ws:List Int) (cm:Option Int)=>K7 (vs = [.ref a]) (B6 H a ws cm) ((∀ w ∈ ws,intBits w <= 256)) (intBits (qv cm) <= 256) (ws.length <= 8) (3000 < Ad (qv cm) ws) (∀ H2,A9 H H2 -> E (.ref aA) none H2))
theorem bj {fd mI mJ iK:FuncData} (T:Txt K mg ad aA aD aI aB aJ aK aO aE aF aG aL aC) (F:F8 K "standings" "standings" L4 ad.cM fd) (mK:Ai P w K mg base (B8 P w) 1 ad.cL mI ["waits"] (Qv K)) (mL:Aw K mI ["waits"] []) (mM:Ai P w K mg base (B8 P w) 2 ad.cK mJ ["hall"] (Qt K)) (mO:Aw K mJ ["hall"] []) (kW:Ai P w K mg base (B8 P w) 1 ad.fD iK ["hall"] (Sk K)) (kX:Aw K iK ["hall"] []):Ai P w K mg base (B8 P w) 3 ad.cM fd ["hall"] (Qh K aA):=by
 refine F.qY S3 (fun vs H Q E h=>?_) (fun aV A outer s H vs Q E hr h=>?_)
 ·rcases h with ⟨a,ws,cm,rfl,⟨t,cY,dW⟩,dH,mP,hb,eV,cX,hp,q⟩ | ⟨a,ws,cm,rfl,_,_,_,_,_,_⟩ <;> rfl
 ·obtain h:=h
  refine ⟨_,(A8 (Eh (Ck Wr (Ag mM (hr.mono (by decide)) rfl T.zY T.k_x20 mO .nil Az (A0 (pv 0) A7)) (S8 (v := .int 3000) (by rfl) T.eA.choose_spec ⟨_,rfl⟩) (C8 _)) (Ab (Wu ef rfl (by rfl) T.gI T.e_TooMany (A0 dn A7))) B9) (A8 (Ar (i:=1) S3.nd rfl (Or.inl rfl) (D9 A7)) (A8 (Cw Qp rfl (Dp (w':=Qo K _) (Dq (Ag mK (hr.mono (by decide)) rfl T.zZ T.k_x21 mL .nil Az (A0 (Cm (Cn K) (pv 0) Ac (fun _ _=>rfl)) A7)))) (Av (i:=2) S3.nd rfl (Or.inr rfl)) (Ab (Cq (Gg (u':=Yf K _ _ _ _) (J5 PySem.F.plainAttrs_list PySem.F.slot_list_extend PySem.F.type_list_extend Fw (pv 1) (A0 (Dr (E8 (by rfl) T.cJ (A0 (Ag kW (hr.mono (by decide)) rfl T.zX T.k_x5 kX .nil Az (A0 (pv 0) A7)) A7)) _ rfl Lc rfl rfl (fun _ _ _ _=>(Av (i:=0) L8 rfl (Or.inl rfl))) (fun _ _ _ _=>D3) (fun _ _ _ _=>(Bl (A0 (pv 1) (A0 (pv 0) A7))))) A7)))))) (Ab (Ax (pv 1)))))),?_⟩
  rcases h with ⟨a,ws,cm,rfl,⟨t,cY,dW⟩,dH,mP,hb,eV,cX,hp,q⟩ | ⟨a,ws,cm,rfl,⟨t,cY,dW⟩,hb,eV,cX,hp,he⟩
  ·have hp1 : Ad 1 ws <= 3000 := by
    have e:=Ii (qv cm) ws 1
    rw [Int.mul_one] at e
    have h1:1 <= Ad 1 ws:=Dt ws 1 (by decide) dH
    have h2:=Int.mul_le_mul_of_nonneg_right mP (show 0 <= Ad 1 ws by omega)
    rw [Int.one_mul] at h2
    omega
   have hq3:qv cm <= 3000:=Int.le_trans (Dt ws _ (by omega) dH) hp
   refine ⟨_,rfl,a,ws,cm,rfl,⟨t,cY,dW⟩,hb,eV,cX,_,_,rfl,rfl,_,rfl,Mg (decide_eq_false (by omega)) ?_⟩
   refine ⟨Bf,fun D hD=>?_⟩
   have s1:A9 H (upd H D (.lst [])):=A9.upd hD
   have e1:(upd H D (.lst [])) D = some (.lst []):=A5
   generalize upd H D (.lst []) = H1 at s1 e1 ⊢
   refine ⟨_,rfl,a,_,_,_,rfl,rfl,.inr (Ci.of (s1 _ _ cY)),rfl,t,ws,rfl,s1 _ _ dW,dH,hp1,cX,fun L us H2 hL s2 f1 f2=>⟨L,rfl,.inl ⟨⟨_,Bj.of f1⟩,?_⟩⟩⟩
   have s02:=s1.trans s2
   have e2:=s2 _ _ e1
   have LG:L ≠ D:=(Aj e1 hL).symm
   refine D4 (K:=K) (a:=L) (xs:=us) (fun j σ H'=>Yy fun (zs:List V) (v2:Option V)=>P9 (σ = [some (.ref a),some (.ref D),v2]) (H' D = some (.lst zs)) (H' L = some (.lst us)) (A9 H H') (Am H2 H') (Ah (Ga H') (((Br ws).take j).flatMap fun r=>Ei r (qv cm)) zs))
    ⟨[],none,rfl,e2,f1,s02,Am.of (A9.refl _),Ah.nil⟩ (by rintro j σ H' _ ⟨_,_,_,_,e,_⟩; exact Bj.of e) ?_ ?_
   ·rintro j y σ H4 hy ⟨zs,v2,rfl,h1,h2,s4,t4,h3⟩
    have g4:=f2.imp fun r v z=>Dm.up t4 z
    obtain ⟨r,oZ,p,rfl,LH⟩ := g4.get hy
    have hj:=(List.getElem?_eq_some_iff.mp oZ).1
    have ze:zs.length <= 3000:=by
     have e:=Ip (ws:=ws) (q:=qv cm) dH (by omega)
     rw [h3.1]
     have e2:B0 ws (qv cm) = (((Br ws).take j).flatMap fun r=>Ei r (qv cm)) ++ (((Br ws).drop j).flatMap fun r=>Ei r (qv cm)):=by
      rw [<- List.flatMap_append,List.take_append_drop]
      rfl
     rw [e2,List.length_append] at e
     omega
    refine ⟨_,rfl,.inl ⟨rfl,_,Bj.of h1⟩,_,rfl,a,ws,cm,rfl,⟨t,s4 _ _ cY,s4 _ _ dW⟩,qv cm,rfl,by omega,by omega,fun B hB=>?_⟩
    refine Et (fun m ys H'=>H' B = some (.lst ys) /\ A9 H4 H' /\ Ah (Ga H') ((List.range m).map fun k=>(r,0 + ((k:Nat):Int))) ys) ⟨A5,A9.upd hB,Ah.nil⟩ ?_ ?_
    ·rintro m ys H5 hm ⟨k1,s5,k2⟩ Qe hQ
     refine ⟨_,rfl,_,rfl,Bf,fun P hP=>?_⟩
     have s6:A9 H5 (upd H5 P (.tup [.ref p,.int (0 + (m:Int))])):=A9.upd hP
     have e6:(upd H5 P (.tup [.ref p,.int (0 + (m:Int))])) P = some (.tup [.ref p,.int (0 + (m:Int))]):=A5
     generalize upd H5 P (.tup [.ref p,.int (0 + (m:Int))]) = H6 at s6 e6
     have rX:=s6 _ _ k1
     have kl:ys.length = m:=by rw [k2.1]; simp
     refine hQ _ _ rX (Eg (by omega)) ⟨A5,(s5.trans s6).new hB,?_⟩
     have tu:Am H5 (upd H6 B (.lst (ys ++ [.ref P]))):=(Am.of s6).trans (Am.lst rX)
     rw [List.range_succ,List.map_append]
     refine (k2.imp fun r v z=>Ga.up tu z).append (Ah.one ⟨P,p,rfl,?_,?_⟩)
     ·exact Am.lst rX _ _ e6
     ·exact Am.lst rX _ _ (s6 _ _ (s5 _ _ LH))
    ·rintro ys H5 ⟨k1,s5,k2⟩
     have eJ:=s5 _ _ h1
     have k3:Ah (Ga H5) (Ei r (qv cm)) ys:=k2
     have kl:ys.length = (qv cm).toNat:=by rw [k3.1,Md]
     refine ⟨D,B,_,_,rfl,rfl,eJ,k1,Nat.le_of_lt (Eg (by omega)),?_⟩
     have tu:Am H5 (upd H5 D (.lst (zs ++ ys))):=Am.lst eJ
     refine ⟨zs ++ ys,_,rfl,A5,by rw [Aa LG]; exact s5 _ _ h2,(s4.trans s5).new hD,(t4.trans (Am.of s5)).trans tu,?_⟩
     have e:(((Br ws).take (j + 1)).flatMap fun r=>Ei r (qv cm)) = (((Br ws).take j).flatMap fun r=>Ei r (qv cm)) ++ Ei r (qv cm):=Mw _ _ oZ
     rw [e]
     exact (h3.imp fun r v z=>Ga.up ((Am.of s5).trans tu) z).append (k3.imp fun r v z=>Ga.up tu z)
   ·rintro σ H4 ⟨zs,v2,rfl,h1,h2,s4,t4,h3⟩
    rw [f2.1,List.take_length] at h3
    exact ⟨_,rfl,q D zs H4 hD s4 h1 h3⟩
  ·refine ⟨_,rfl,a,ws,cm,rfl,⟨t,cY,dW⟩,hb,eV,cX,_,_,rfl,rfl,_,rfl,Ps (decide_eq_true (by omega)) ⟨Xv,he⟩⟩
def Ww (K:PySem.W.Frag) (aA:Addr):Sp:=fun vs H Q E=>(Mb fun (a:Addr) (ws:List Int) (cm:Option Int)=>Ux (vs = [.ref a]) (B6 H a ws cm) ((∀ w ∈ ws,1 <= w)) (1 <= qv cm) ((∀ w ∈ ws,intBits w <= 256)) (intBits (qv cm) <= 256) (ws.length <= 8) (Ad (qv cm) ws <= 3000) (∀ (D:Addr) (kvs:List ((List Int × Int) × V)) (H':Hp),H D = none -> A9 H H' -> H' D = some (.dT kvs) -> C4 ws cm H' kvs -> kvs.map (·.1) = B0 ws (qv cm) -> Kx ws cm H' kvs -> (∀ kv ∈ kvs,∀ c,kv.2 = .ref c -> H c = none) -> kvs.length <= 3000 -> Q (.ref D) H')) \/ (Mb fun (a:Addr) (ws:List Int) (cm:Option Int)=>K7 (vs = [.ref a]) (B6 H a ws cm) ((∀ w ∈ ws,intBits w <= 256)) (intBits (qv cm) <= 256) (ws.length <= 8) (3000 < Ad (qv cm) ws) (∀ H2,A9 H H2 -> E (.ref aA) none H2))
theorem ji {fd mQ cF:FuncData} (T:Txt K mg ad aA aD aI aB aJ aK aO aE aF aG aL aC) (F:F8 K "calls_by_standing" "calls_by_standing" Tk ad.fX fd) (mR:Ai P w K mg base (B8 P w) 3 ad.cM mQ ["hall"] (Qh K aA)) (mS:Aw K mQ ["hall"] []) (dQ:Ai P w K mg base (B8 P w) 5 ad.bT cF ["hall","standing","who"] (Ki K)) (dR:Aw K cF ["hall","standing","who"] []):Ai P w K mg base (B8 P w) 6 ad.fX fd ["hall"] (Ww K aA):=by
 refine F.qY Mm (fun vs H Q E h=>?_) (fun aV A outer s H vs Q E hr h=>?_)
 ·rcases h with ⟨a,ws,cm,rfl,ha,dH,mP,kT,kS,zf,hp,q⟩ | ⟨a,ws,cm,rfl,_,_,_,_,_,_⟩ <;> rfl
 ·obtain h:=h
  refine ⟨_,(A8 (Ar (i:=1) Mm.nd rfl (Or.inl rfl) Fc) (A8 (Cw Qp rfl (Dp (w':=Qo K _) (Dq (Ej mR (hr.mono (by decide)) rfl T.AA T.k_x16 mS .nil Te (A0 (pv 0) A7)))) (Av (i:=2) Mm.nd rfl (Or.inl rfl)) (A8 (Ar (i:=3) Mm.nd rfl (Or.inl rfl) We) (A8 (Cw Qp rfl (E8 (by rfl) T.cJ (A0 (Bt (Cy K) (by rfl) T.fF PySem.boot_len (A0 (Cm (Cn K) (pv 0) Ac (fun _ _=>rfl)) A7)) A7)) (Av (i:=4) Mm.nd rfl (Or.inl rfl)) (A8 (Ar (i:=5) Mm.nd rfl (Or.inl rfl) (Ag dQ (hr.mono (by decide)) rfl T.mB T.k_x12 dR .nil Az (A0 (pv 0) (A0 (pv 2) (A0 (pv 4) A7))))) (Ab (Df (Ck (Tm K hr) Dd (pv 5) rfl) (Ab (Ho (F7 hr) (pv 3) (pv 4) (pv 5) rfl)) B9)))) (Ab (Ho (F7 hr) (pv 1) (pv 2) (pv 3) rfl))))) (Ab (Ax (pv 1))))),?_⟩
  rcases h with ⟨a,ws,cm,rfl,ha,dH,mP,kT,kS,zf,hp,q⟩ | ⟨a,ws,cm,rfl,ha,hb,eV,cX,hp,he⟩
  ·refine fun D hD=>?_
   have s1:A9 H (upd H D (.dT [])):=A9.upd hD
   have e1:(upd H D (.dT [])) D = some (.dT []):=A5
   generalize upd H D (.dT []) = H1 at s1 e1 ⊢
   refine ⟨_,rfl,E,fun _ _ _ z=>z,.inl ⟨a,ws,cm,rfl,ha.same s1,dH,mP,kT,kS,zf,hp,fun l us H2 hl s2 el iO=>⟨l,rfl,.inl ⟨⟨_,Bj.of el⟩,?_⟩⟩⟩⟩
   have hlen:us.length <= 3000:=by
    have h1:=iO.1
    have h2:=Ip dH (show 0 <= qv cm by omega)
    omega
   have eM:=s1.trans s2
   have eD2:=s2 _ _ e1
   refine D4 (K:=K) (a:=l) (xs:=us) (fun i σ H'=>kj fun (kvs:List ((List Int × Int) × V)) (v2 v3 v4 v5:Option V)=>Ux (σ = [some (.ref a),some (.ref D),v2,v3,v4,v5]) (A9 H H') (LT H2 H') (H' D = some (.dT kvs)) (C4 ws cm H' kvs) ((∀ kv ∈ kvs,∀ c,kv.2 = .ref c -> H c = none)) (kvs.length <= i) (kvs.map (·.1) = (B0 ws (qv cm)).take i) (Kx ws cm H' kvs))
    ⟨[],_,_,_,_,rfl,eM,⟨fun _ _ z=>z,fun _ _ z=>z⟩,eD2,⟨(fun kv z=>by cases z),List.Pairwise.nil,List.Pairwise.nil⟩,(fun kv z=>by cases z),Nat.le_refl _,rfl,(fun kv z=>by cases z)⟩ (by rintro i σ H' _ ⟨_,_,_,_,_,_,_,t,_⟩; exact Bj.of (t.1 _ _ el)) ?_ ?_
   ·rintro i u σ H' hu ⟨kvs,v2,v3,v4,v5,rfl,s',t',kU,iQ,eU,lH,eO,mT⟩
    have hi:=(List.getElem?_eq_some_iff.mp hu).1
    obtain ⟨z,hz,p,w,rfl,hz1,hz2⟩ := iO.get hu
    obtain ⟨m1,m2,m3,m4⟩ := N3 (List.mem_of_getElem? hz)
    have AW:Ea H' p z.1 z.2:=⟨w,t'.2 _ _ hz1,t'.2 _ _ hz2⟩
    refine fun c hc=>?_
    have s3:A9 H' (upd H' c (.dK [])):=A9.upd hc
    have e3:(upd H' c (.dK [])) c = some (.dK []):=A5
    generalize upd H' c (.dK []) = H3 at s3 e3 ⊢
    have s03:=s'.trans s3
    obtain ⟨wt,cY,dW⟩ := id (ha.same s03)
    refine ⟨_,rfl,a,_,_,_,rfl,rfl,.inr (Ci.of cY),rfl,wt,_,rfl,.inr (Ci.of dW),_,rfl,by omega,by rw [List.length_map]; omega,?_⟩
    refine U3 (n:=(ws.map V.int).length) (fun j σ H4=>Mb fun (cs:List (Ct × V)) (v4 v5:Option V)=>P9 (σ = [some (.ref a),some (.ref D),some (.ref p),some (.ref c),v4,v5]) (A9 H' H4) (H4 c = some (.dK cs)) (Fd ws cm z H4 cs) (cs.length <= j) (∀ who:Nat,who < j -> none ∉ Au ws z.1 cm z.2 who -> (Af cs (.inl (who:Int))).isSome = true))
     ⟨[],_,_,rfl,s3,e3,(fun e z=>by cases z),Nat.le_refl _,(fun who z=>absurd z (Nat.not_lt_zero _))⟩ ?_ ?_
    ·rintro j σ H4 hj ⟨cs,v4,v5,rfl,s4,HB,qB,rY,HC⟩
     rw [List.length_map] at hj
     have s04:=s'.trans s4
     refine ⟨_,rfl,_,rfl,_,rfl,a,p,ws,z.1,cm,z.2,_,j,rfl,by omega,ha.same s04,AW.same s4,hj,m1,zf,fun L fP H5 hL s5 eL kB=>?_⟩
     refine ⟨_,rfl,L,fP,.none,(Au ws z.1 cm z.2 j).map c0,rfl,Bj.of eL,Vm,M8 kB,by decide,_,rfl,_,fun hb=>?_,fun hb=>?_,fun _ _ z=>z⟩
     ·rw [if_pos rfl,Nh] at hb
      have lQ:none ∉ Au ws z.1 cm z.2 j:=by simpa using hb
      have kY:=s5 _ _ HB
      refine ⟨_,rfl,_,rfl,_,rfl,c,_,rfl,.inl ⟨cs,.inl (j:Int),kY,congrArg V.int (Int.zero_add _),C6 (by omega),rfl⟩,?_⟩
      have t6:LT H5 (upd H5 c (.dK (Bc cs (.inl (j:Int)) (.ref L)))):=LT.dK kY
      refine ⟨Bc cs (.inl (j:Int)) (.ref L),_,_,rfl,(s4.trans s5).new hc,A5,?_,Nat.le_trans (D5 _ _ _) (by omega),fun who v8 hn=>Qj ?_⟩
      ·have hold:Fd ws cm z (upd H5 c (.dK (Bc cs (.inl (j:Int)) (.ref L)))) cs:=qB.up ((LT.of s5).trans t6)
       intro e he
       rcases Wh he with y | y
       ·exact hold e y
       ·subst y
        exact ⟨j,L,fP,rfl,hj,lQ,rfl,t6.1 _ _ eL,kB.imp fun _ _ y=>Gu.up t6.2 y⟩
      ·rcases Nat.lt_or_ge who j with y | y
       ·exact .inl (HC who y hn)
       ·have e:who = j:=by omega
        rw [e]
        exact .inr rfl
     ·rw [if_pos rfl,Nh] at hb
      have LJ:none ∈ Au ws z.1 cm z.2 j:=by simpa using hb
      refine ⟨cs,_,_,rfl,s4.trans s5,s5 _ _ HB,qB.up (LT.of s5),by omega,fun who v8 hn=>?_⟩
      rcases Nat.lt_or_ge who j with y | y
      ·exact HC who y hn
      ·have e:who = j:=by omega
       rw [e] at hn
       exact absurd LJ hn
    rintro σ H4 ⟨cs,v4,v5,rfl,s4,HB,qB,rY,HC⟩
    rw [List.length_map] at rY
    have LK:=s4 _ _ kU
    refine ⟨_,rfl,_,rfl,_,rfl,D,_,rfl,Ll.t LK (show F4 H4 p z from AW.same s4) (Cb (by omega)),?_⟩
    have t5:LT H4 (upd H4 D (.dT (Bc kvs z (.ref c)))):=LT.dT LK
    have k5:∀ c' gW,H4 c' = some (.dK gW) -> (upd H4 D (.dT (Bc kvs z (.ref c)))) c' = some (.dK gW):=fun c' gW e=>by
     rw [Aa (Bh e LK (by intro z; cases z))]
     exact e
    have zg:=s'.trans s4
    have hnz:Af kvs z = none:=by
     cases hv:Af kvs z with
     | none=>rfl
     | some v =>
      have:=List.mem_map_of_mem (f:=(·.1)) (B7 hv)
      rw [eO] at this
      exact absurd this (N0 (Iw _ _) hz)
    have ep:Bc kvs z (.ref c) = kvs ++ [(z,.ref c)]:=De _ hnz
    have jE:C4 ws cm (upd H4 D (.dT (Bc kvs z (.ref c)))) kvs:=(iQ.keep (LT.of s4) (fun c cs e=>s4 _ _ e)).keep t5 k5
    have vp:Kx ws cm (upd H4 D (.dT (Bc kvs z (.ref c)))) kvs:=(mT.keep iQ (fun c cs e=>s4 _ _ e)).keep (iQ.keep (LT.of s4) (fun c cs e=>s4 _ _ e)) k5
    have kY:=k5 _ _ HB
    have vq:=qB.up t5
    have sN:A9 H (upd H4 D (.dT (Bc kvs z (.ref c)))):=zg.new hD
    have tN:LT H2 (upd H4 D (.dT (Bc kvs z (.ref c)))):=(t'.trans (LT.of s4)).trans t5
    have eN:(upd H4 D (.dT (Bc kvs z (.ref c)))) D = some (.dT (Bc kvs z (.ref c))):=A5
    rw [ep] at jE vp kY vq sN tN eN ⊢
    generalize upd H4 D (.dT (kvs ++ [(z,.ref c)])) = H6 at jE vp kY vq sN tN eN ⊢
    have uD:∀ kv ∈ kvs,kv.2 ≠ .ref c:=fun kv aS e=>by
     obtain ⟨d,ds,e1,e2,_⟩ := iQ.1 kv aS
     rw [e] at e1
     cases e1
     rw [hc] at e2
     cases e2
    refine ⟨kvs ++ [(z,.ref c)],_,_,_,_,rfl,sN,tN,eN,⟨Hn jE.1 ⟨c,cs,rfl,kY,by omega,vq⟩,?_,?_⟩,Hn eU (fun c' e=>by cases e; exact s'.free hc),by rw [List.length_append,List.length_singleton]; omega,?_,?_⟩
    ·rw [List.map_append]
     refine Dl jE.2.1 (fun y=>?_)
     rw [eO] at y
     exact N0 (Iw _ _) hz y
    ·rw [List.map_append]
     refine Dl jE.2.2 (fun y=>?_)
     obtain ⟨kv,aS,e⟩ := List.mem_map.mp y
     exact uD kv aS e
    ·rw [List.map_append,eO,List.take_add_one,hz]
     rfl
    ·intro kv aS c' gW e1 e2
     rcases List.mem_append.mp aS with y | y
     ·exact vp kv y c' gW e1 e2
     ·cases List.mem_singleton.mp y
      cases e1
      rw [kY] at e2
      cases e2
      exact fun who hw hn=>HC who (by rw [List.length_map]; exact hw) hn
   rintro σ H' ⟨kvs,v2,v3,v4,v5,rfl,s',t',kU,iQ,eU,lH,eO,mT⟩
   rw [iO.1,List.take_length] at eO
   exact ⟨_,rfl,q D kvs H' hD s' kU iQ eO mT eU (by omega)⟩
  ·refine fun D hD=>?_
   have s1:A9 H (upd H D (.dT [])):=A9.upd hD
   generalize upd H D (.dT []) = H1 at s1 ⊢
   exact ⟨_,rfl,E,fun _ _ _ z=>z,.inr ⟨a,ws,cm,rfl,ha.same s1,hb,eV,cX,hp,fun H2 s2=>he H2 (s1.trans s2)⟩⟩
def R0 (K:PySem.W.Frag):Sp:=fun vs H Q _=>Xh fun (D:Addr) (kvs:List ((List Int × Int) × V)) (ws:List Int) (cm:Option Int)=>Kc (vs = [.ref D]) (H D = some (.dT kvs)) (C4 ws cm H kvs) (kvs.length <= 3000) (∀ (W:Addr) (wv:List ((List Int × Int) × V)) (H':Hp),H W = none -> A9 H H' -> H' W = some (.dT wv) -> Ek ws cm H kvs 48000 H' wv -> (∀ k who later,Al H kvs k who -> some later ∈ Au ws k.1 cm k.2 who -> C9 H' wv later k who) -> wv.length <= 48000 -> Q (.ref W) H')
theorem Zz {fd  : FuncData} (T:Txt K mg ad aA aD aI aB aJ aK aO aE aF aG aL aC) (F:F8 K "ways_to" "ways_to" Mn ad.cN fd):Ai P w K mg base (B8 P w) 1 ad.cN fd ["pending"] (R0 K):=by
 refine F.okN Gi (fun vs H Q E h=>?_) (fun aV A outer s H vs Q E hr h=>?_)
 ·rcases h with ⟨D,kvs,ws,cm,rfl,hD,iL,lH,q⟩ <;> rfl
 ·obtain ⟨D,kvs,ws,cm,rfl,hD,iL,lH,q⟩ := h
  refine ⟨_,(A8 (Ar (i:=1) Gi.nd rfl (Or.inl rfl) Fc) (A8 (Ng (Cw PassesOwn.never rfl (Hh (pv 0)) (G7 K (n:=2) rfl (C5 (Av (i:=2) Gi.nd rfl (Or.inl rfl)) (C5 (Av (i:=3) Gi.nd rfl (Or.inl rfl)) Fz))) (Ab (Ng (Cw PassesOwn.never rfl (Hh (pv 3)) (G7 K (n:=2) rfl (C5 (Av (i:=4) Gi.nd rfl (Or.inl rfl)) (C5 (Av (i:=5) Gi.nd rfl (Or.inl rfl)) Fz))) (Ab (Cw PassesOwn.never rfl (Dp (w':=Qo K _) (Dq (pv 5))) (Av (i:=6) Gi.nd rfl (Or.inl rfl)) (Ab (Cq (Gg (u':=Yf K _ _ _ _) (J5 PySem.F.plainAttrs_list PySem.F.slot_list_append PySem.F.type_list_append Fx (Um (Xp (F7 hr) (pv 1) (pv 6) (D9 A7) ⟨rfl,rfl,rfl,rfl⟩)) (A0 (Bl (A0 (pv 2) (A0 (pv 4) A7))) A7)))))))))))) (Ab (Ax (pv 1))))),?_⟩
  have iQ:=iL.ok
  refine fun W hW=>?_
  have s1:A9 H (upd H W (.dT [])):=A9.upd hW
  have e1:(upd H W (.dT [])) W = some (.dT []):=A5
  generalize upd H W (.dT []) = H1 at s1 e1 ⊢
  have HD:=s1 _ _ hD
  have LL:W ≠ D:=(Aj hD hW).symm
  refine ⟨D,.dT kvs,trivial,HD,_,rfl,D,.dT kvs,rfl,trivial,HD,fun o=>?_⟩
  refine N8 (d:=D) (o:=o) (u := .dT kvs) (fun i σ H'=>iw fun (wv:List ((List Int × Int) × V)) (v2 v3 v4 v5 v6:Option V)=>K7 (σ = [some (.ref D),some (.ref W),v2,v3,v4,v5,v6]) (H' D = some (.bK o (.dT kvs))) ((t9 D H H')) (H' W = some (.dT wv)) (Ek ws cm H kvs (16 * i) H' wv) (wv.length <= 16 * i) (bi ws cm H kvs i H' wv))
   ⟨[],_,_,_,_,_,rfl,A5,(fun b ob n e=>(Aa n).trans (s1 _ _ e)),(Aa LL).trans e1,⟨(fun kv z=>by cases z),List.Pairwise.nil⟩,Nat.zero_le _,(fun k who later z=>by obtain ⟨v,z⟩ := z; rw [List.take_zero] at z; cases z)⟩ (by rintro i σ H' _ ⟨_,_,_,_,_,_,_,e,_⟩; exact e) ?_ ?_
  ·rintro i x y T σ H' hi hit ⟨wv,v2,v3,v4,v5,v6,rfl,kU,k',pB,qC,qU,rJ⟩ hT
   have hi3:i < 3000:=Nat.lt_of_lt_of_le hi lH
   obtain ⟨kk,bb,aS,rfl,pX⟩ := hit
   have bV:(kk,y) ∈ kvs:=List.mem_of_getElem? aS
   obtain ⟨kw,hkw⟩ := J0 bV
   obtain ⟨c,cs,ey,hc,rY,qB⟩ := iL.1 _ bV
   have LM:y = .ref c:=ey
   subst LM
   have s2:A9 H' (upd H' T (.tup [.ref bb,.ref c])):=A9.upd hT
   have e2:(upd H' T (.tup [.ref bb,.ref c])) T = some (.tup [.ref bb,.ref c]):=A5
   generalize upd H' T (.tup [.ref bb,.ref c]) = H2 at s2 e2 ⊢
   refine ⟨T,_,rfl,Ci.of e2,rfl,_,_,rfl,_,_,rfl,rfl,?_⟩
   have LN:c ≠ D:=Bh hc hD (by intro z; cases z)
   have LO:c ≠ W:=Aj hc hW
   have iW:=s2 _ _ (k' c _ LN hc)
   refine ⟨c,.dK cs,trivial,iW,_,rfl,c,.dK cs,rfl,trivial,iW,fun o2=>?_⟩
   have LP:LT H2 (upd H2 c (.bK o2 (.dK cs))):=LT.dK iW
   refine N8 (d:=c) (o:=o2) (u := .dK cs) (fun j σ H3=>Xh fun (wv:List ((List Int × Int) × V)) (v4 v5 v6:Option V)=>P8 (σ = [some (.ref D),some (.ref W),some (.ref bb),some (.ref c),v4,v5,v6]) (H3 c = some (.bK o2 (.dK cs))) (H3 D = some (.bK o (.dT kvs))) ((gm D c H H3)) (Am H2 H3) (H3 W = some (.dT wv)) (Ek ws cm H kvs (16 * i + 2 * j) H3 wv) (wv.length <= 16 * i + 2 * j) ((bi ws cm H kvs i H3 wv)) (gp ws cm cs j kk H3 wv))
    ⟨wv,_,_,_,rfl,A5,(Aa LN.symm).trans (s2 _ _ kU),(fun b ob n1 n2 e=>(Aa n2).trans (s2 _ _ (k' b ob n1 e))),LP.2,(Aa LO.symm).trans (s2 _ _ pB),qC.up ((LT.of s2).trans LP) (by omega),by omega,(fun k who later z1 z2 z3=>(rJ k who later z1 z2 z3).up ((LT.of s2).trans LP)),(fun who later z=>by obtain ⟨e,z,_⟩ := z; rw [List.take_zero] at z; cases z)⟩ (by rintro j σ H3 _ ⟨_,_,_,_,_,e,_⟩; exact e) ?_ ?_
   ·rintro j x2 y2 T2 σ H3 hj LQ ⟨LR,v4,v5,v6,rfl,AX,LS,k3,t3,LU,vt,AY,LV,vv⟩ LW
    have hj8:j < 8:=Nat.lt_of_lt_of_le hj rY
    obtain ⟨kk2,AZ,rfl⟩ := LQ
    obtain ⟨w2,l,fP,ei,HE,LX,el,hl,vx⟩ := qB _ (List.mem_of_getElem? AZ)
    have lE:fP.length <= 2:=by
     rw [vx.1]
     unfold Au
     split <;> simp
    have ei':kk2 = .inl (w2:Int):=ei
    subst ei'
    have el':y2 = .ref l:=el
    subst el'
    have s4:A9 H3 (upd H3 T2 (.tup [kV (.inl (w2:Int)),.ref l])):=A9.upd LW
    have e4:(upd H3 T2 (.tup [kV (.inl (w2:Int)),.ref l])) T2 = some (.tup [kV (.inl (w2:Int)),.ref l]):=A5
    generalize upd H3 T2 (.tup [kV (.inl (w2:Int)),.ref l]) = H4 at s4 e4 ⊢
    refine ⟨T2,_,rfl,Ci.of e4,rfl,_,_,rfl,_,_,rfl,rfl,?_⟩
    have hlD:l ≠ D:=Bh hl hD (by intro z; cases z)
    have hlc:l ≠ c:=Bh hl hc (by intro z; cases z)
    refine ⟨_,rfl,l,rfl,.inl ⟨⟨_,Bj.of (s4 _ _ (k3 l _ hlD hlc hl))⟩,?_⟩⟩
    refine D4 (K:=K) (a:=l) (xs:=fP) (fun m σ H5=>Yy fun (wv:List ((List Int × Int) × V)) (v6:Option V)=>Sl (σ = [some (.ref D),some (.ref W),some (.ref bb),some (.ref c),some (kV (.inl (w2:Int))),some (.ref l),v6]) (H5 c = some (.bK o2 (.dK cs))) (H5 D = some (.bK o (.dT kvs))) ((gm D c H H5)) (Am H2 H5) (H5 W = some (.dT wv)) (Ek ws cm H kvs (16 * i + 2 * j + m) H5 wv) (wv.length <= 16 * i + 2 * j + m) ((bi ws cm H kvs i H5 wv)) ((gp ws cm cs j kk H5 wv)) (∀ later,some later ∈ (Au ws kk.1 cm kk.2 w2).take m -> C9 H5 wv later kk w2))
     ⟨LR,_,rfl,s4 _ _ AX,s4 _ _ LS,(fun b ob n1 n2 e=>s4 _ _ (k3 b ob n1 n2 e)),t3.trans (Am.of s4),s4 _ _ LU,vt.up (LT.of s4) (Nat.le_refl _),AY,(fun k who later z1 z2 z3=>(LV k who later z1 z2 z3).up (LT.of s4)),(fun who later z1 z2=>(vv who later z1 z2).up (LT.of s4)),(fun later z=>by rw [List.take_zero] at z; cases z)⟩ (by rintro m σ H5 _ ⟨_,_,_,_,_,k5,_⟩; exact Bj.of (k5 l _ hlD hlc hl)) ?_ ?_
    ·rintro m u σ H5 hu ⟨vy,v6,rfl,kY,mU,k5,t5,HH,jF,LY,HI,qD,qE⟩
     have GQ:m < 2:=Nat.lt_of_lt_of_le (List.getElem?_eq_some_iff.mp hu).1 lE
     obtain ⟨r0,LZ,oZ⟩ := vx.get hu
     obtain ⟨lk,er⟩ : ∃ lk,r0 = some lk:=by
      cases r0 with
      | none=>exact absurd (List.mem_of_getElem? LZ) LX
      | some r=>exact ⟨r,rfl⟩
     subst er
     obtain ⟨lb,rfl,qF⟩ := oZ
     have MA:F4 H lb lk:=qF
     have tH5:Am H H5:=fun b xs e=>k5 b _ (Bh e hD (by intro z; cases z)) (Bh e hc (by intro z; cases z)) e
     have MB:=MA.up tH5
     have BA:∀ E,H5 E = none -> H E = none:=fun E hE=>by
      cases hHE:H E with
      | none=>rfl
      | some ob =>
       by_cases z1:E = D
       ·rw [z1,mU] at hE
        cases hE
       by_cases z2:E = c
       ·rw [z2,kY] at hE
        cases hE
       rw [k5 E ob z1 z2 hHE] at hE
       cases hE
     refine ⟨(fun v H7=>Mb fun (qG:List ((List Int × Int) × V)) (l7:Addr) (vz:List V)=>Zt (v = .ref l7) (Af qG lk = some (.ref l7)) (H l7 = none) (H7 l7 = some (.lst vz)) (vz.length <= 16 * i + 2 * j + m) ((∀ u ∈ vz,Oa ws cm kvs H7 lk u)) (H7 c = some (.bK o2 (.dK cs))) (H7 D = some (.bK o (.dT kvs))) ((∀ b ob,b ≠ D -> b ≠ c -> H b = some ob -> H7 b = some ob)) (Am H5 H7) (H7 W = some (.dT qG)) (Ek ws cm H kvs (16 * i + 2 * j + m) H7 qG) (qG.length <= 16 * i + 2 * j + m + 1) ((∀ k who later,(∃ v,(k,v) ∈ kvs.take i) -> Al H kvs k who -> some later ∈ Au ws k.1 cm k.2 who -> C9 H7 qG later k who)) ((∀ who later,(∃ e ∈ cs.take j,e.1 = .inl ((who:Nat):Int)) -> some later ∈ Au ws kk.1 cm kk.2 who -> C9 H7 qG later kk who)) ((∀ later,some later ∈ (Au ws kk.1 cm kk.2 w2).take m -> C9 H7 qG later kk w2))),⟨_,rfl,W,rfl,.inr ⟨vy,.inl HH⟩,_,rfl,Bf,fun E hE=>?_⟩,?_⟩
     ·have s6:A9 H5 (upd H5 E (.lst [])):=A9.upd hE
      have e6:(upd H5 E (.lst [])) E = some (.lst []):=A5
      generalize upd H5 E (.lst []) = H6 at s6 e6 ⊢
      have MC:=s6 _ _ HH
      refine ⟨vy,lk,lb,rfl,MB.up (Am.of s6),MC,Cb (by omega),fun v hv=>?_,fun hv=>?_⟩
      ·obtain ⟨l7,vz,e7,h0,h1,h2,h3⟩ := jF.1 _ (B7 hv)
       have e7':v = .ref l7:=e7
       exact ⟨vy,l7,vz,e7,by rw [hv,e7'],h0,s6 _ _ h1,h2,(fun u hu=>(h3 u hu).up (Am.of s6)),s6 _ _ kY,s6 _ _ mU,(fun b ob n1 n2 e=>s6 _ _ (k5 b ob n1 n2 e)),Am.of s6,MC,jF.up (LT.of s6) (Nat.le_refl _),by omega,(fun k who later z1 z2 z3=>(HI k who later z1 z2 z3).up (LT.of s6)),(fun who later z1 z2=>(qD who later z1 z2).up (LT.of s6)),(fun later z=>(qE later z).up (LT.of s6))⟩
      ·have t7:LT H6 (upd H6 W (.dT (Bc vy lk (.ref E)))):=LT.dT MC
       have nE:=BA E hE
       have HJ:=(LT.of s6).trans t7
       refine ⟨Bc vy lk (.ref E),E,[],rfl,by rw [Fm,if_pos rfl],nE,t7.1 _ _ e6,Nat.zero_le _,(fun u hu=>by cases hu),(Aa LO).trans (s6 _ _ kY),(Aa LL.symm).trans (s6 _ _ mU),(fun b ob n1 n2 e=>(Aa (Aj e hW)).trans (s6 _ _ (k5 b ob n1 n2 e))),(Am.of s6).trans t7.2,A5,?_,Nat.le_trans (D5 _ _ _) (by omega),(fun k who later z1 z2 z3=>((HI k who later z1 z2 z3).up HJ).put hv),(fun who later z1 z2=>((qD who later z1 z2).up HJ).put hv),(fun later z=>((qE later z).up HJ).put hv)⟩
       refine ⟨fun kv aS=>?_,?_⟩
       ·rcases Wh aS with y | y
        ·exact (jF.up HJ (Nat.le_refl _)).1 kv y
        ·subst y
         exact ⟨E,[],rfl,nE,t7.1 _ _ e6,Nat.zero_le _,fun u hu=>by cases hu⟩
       ·rw [De _ hv,List.map_append]
        refine Dl jF.2 (fun y=>?_)
        obtain ⟨kv,aS,e⟩ := List.mem_map.mp y
        obtain ⟨l9,us9,e9,_,h9,_⟩ := jF.1 kv aS
        have e':kv.2 = .ref E:=e
        rw [e'] at e9
        cases e9
        rw [hE] at h9
        cases h9
     rintro v H7 ⟨qG,l7,vz,rfl,hv7,n7,MD,ME,BB,hc7,hD7,k7,t7,hW7,MF,hwl7,hs7,MG,MJ⟩
     refine ⟨.inl ⟨rfl,_,Bj.of MD⟩,_,rfl,_,rfl,Bf,fun T3 hT3=>?_⟩
     have s8:A9 H7 (upd H7 T3 (.tup [.ref bb,kV (.inl (w2:Int))])):=A9.upd hT3
     have e8:(upd H7 T3 (.tup [.ref bb,kV (.inl (w2:Int))])) T3 = some (.tup [.ref bb,kV (.inl (w2:Int))]):=A5
     generalize upd H7 T3 (.tup [.ref bb,kV (.inl (w2:Int))]) = H8 at s8 e8 ⊢
     have cX:=s8 _ _ MD
     refine ⟨l7,_,_,rfl,rfl,cX,Cb (by omega),?_⟩
     have MK:l7 ≠ D:=(Aj hD n7).symm
     have ML:l7 ≠ c:=(Aj hc n7).symm
     have MM:l7 ≠ W:=Bh MD hW7 (by intro z; cases z)
     have BC:F4 H8 bb kk:=(((pX.up (Am.of s2)).up t5).up t7).up (Am.of s8)
     have MN:Oa ws cm kvs H8 lk (.ref T3):=⟨T3,bb,w2,kk,rfl,e8,BC,⟨kw,hkw⟩,List.mem_of_getElem? LZ⟩
     refine ⟨qG,_,rfl,(Aa ML.symm).trans (s8 _ _ hc7),(Aa MK.symm).trans (s8 _ _ hD7),(fun b ob n1 n2 e=>(Aa (Aj e n7)).trans (s8 _ _ (k7 b ob n1 n2 e))),((t5.trans t7).trans (Am.of s8)).trans (Am.lst cX),(Aa MM.symm).trans (s8 _ _ hW7),?_,by omega,(fun k who later z1 z2 z3=>((hs7 k who later z1 z2 z3).up (LT.of s8)).app cX),(fun who later z1 z2=>((MG who later z1 z2).up (LT.of s8)).app cX),(fun later z=>?_)⟩
     ·exact Ek.app (MF.up (LT.of s8) (Nat.le_refl _)) (B7 hv7) cX ME (fun u hu=>(BB u hu).up (Am.of s8)) MN
     ·rw [List.take_add_one,LZ] at z
      rcases List.mem_append.mp z with y | y
      ·exact ((MJ later y).up (LT.of s8)).app cX
      ·have ey:later = lk:=by simpa using y
       subst ey
       have tt:Am H8 (upd H8 l7 (.lst (vz ++ [.ref T3]))):=Am.lst cX
       exact ⟨l7,_,T3,bb,hv7,A5,by simp,tt _ _ e8,BC.up tt⟩
    rintro σ H5 ⟨vy,v6,rfl,kY,mU,k5,t5,HH,jF,LY,HI,qD,qE⟩
    refine ⟨vy,_,_,_,rfl,kY,mU,k5,t5,HH,jF.up ⟨fun _ _ z=>z,fun _ _ z=>z⟩ (by omega),by omega,HI,fun who later z1 z2=>?_⟩
    obtain ⟨e,he,ew⟩ := z1
    rw [List.take_add_one,AZ] at he
    rcases List.mem_append.mp he with y | y
    ·exact qD who later ⟨e,y,ew⟩ z2
    ·have ey:e = (.inl (w2:Int),.ref l):=by simpa using y
     subst ey
     have ew2:(w2:Int) = (who:Int):=Sum.inl.inj ew
     have ew3:w2 = who:=by omega
     subst ew3
     refine qE later ?_
     rw [vx.1,List.take_length]
     exact z2
   rintro σ H3 ⟨LR,v4,v5,v6,rfl,AX,LS,k3,t3,LU,vt,AY,LV,vv⟩
   have hll:Cr (.dK cs) <= 8:=rY
   have tz:LT H3 (upd H3 c (.dK cs)):=⟨fun b xs e=>by rw [Aa (Bh e AX (by intro z; cases z))]; exact e,fun b xs e=>by rw [Aa (Bh e AX (by intro z; cases z))]; exact e⟩
   refine ⟨o2,AX,LR,_,_,_,_,_,rfl,(Aa LN.symm).trans LS,(fun b ob n1 e=>?_),(Aa LO.symm).trans LU,vt.up tz (show 16 * i + 2 * Cr (.dK cs) <= 16 * (i + 1) by omega),by omega,fun k who later z1 z2 z3=>?_⟩
   ·by_cases z:b = c
    ·subst z
     rw [hc] at e
     cases e
     exact A5
    ·exact (Aa z).trans (k3 b ob n1 z e)
   ·obtain ⟨v,hv⟩ := z1
    rw [List.take_add_one,aS] at hv
    rcases List.mem_append.mp hv with y | y
    ·exact (LV k who later ⟨v,y⟩ z2 z3).up tz
    ·have ey:(k,v) = (kk,.ref c):=by simpa using y
     cases ey
     obtain ⟨c',gW,g1,g2,g3⟩ := z2
     rw [Cf iL.2.1 bV] at g1
     cases g1
     rw [hc] at g2
     cases g2
     obtain ⟨w',KZ⟩ := Option.isSome_iff_exists.mp g3
     refine (vv who later ⟨(.inl (who:Int),w'),?_,rfl⟩ z3).up tz
     show _ ∈ cs.take cs.length
     rw [List.take_length]
     exact B7 KZ
  rintro σ H' ⟨wv,v2,v3,v4,v5,v6,rfl,kU,k',pB,qC,qU,rJ⟩
  have MO:Cr (.dT kvs) <= 3000:=lH
  have tD:LT H' (upd H' D (.dT kvs)):=⟨fun b xs e=>by rw [Aa (Bh e kU (by intro z; cases z))]; exact e,fun b xs e=>by rw [Aa (Bh e kU (by intro z; cases z))]; exact e⟩
  refine ⟨o,kU,_,rfl,q W wv _ hW (fun b ob e=>?_) ((Aa LL).trans pB) (qC.up tD (show 16 * Cr (.dT kvs) <= 48000 by omega)) (fun k who later z2 z3=>?_) (by omega)⟩
  ·by_cases z:b = D
   ·subst z
    rw [hD] at e
    cases e
    exact A5
   ·exact (Aa z).trans (k' b ob z e)
  ·obtain ⟨c',gW,g1,g2,g3⟩ := id z2
   refine (rJ k who later ⟨.ref c',?_⟩ z2 z3).up tD
   show _ ∈ kvs.take kvs.length
   rw [List.take_length]
   exact B7 g1
def Vb (K : PySem.W.Frag) : Sp := fun vs H Q _ => Zy fun (D W R : Addr) (kvs wv : List ((List Int × Int) × V)) (rs : List V) (bG : List (List Int × Int)) (H0 : Hp) (ws : List Int) (cm : Option Int) => P8 (vs = [.ref D, .ref W, .ref R]) (H D = some (.dT kvs)) (C4 ws cm H kvs) (H W = some (.dT wv)) (Ek ws cm H0 kvs 48000 H wv) ((∀ k who later, Al H kvs k who -> some later ∈ Au ws k.1 cm k.2 who -> C9 H wv later k who)) (H R = some (.lst rs)) (Ah (Ga H) bG rs) (Bx H kvs <= 24000) (∀ (B : Addr) (bs : List V) (beta : List (List Int × Int)) (H' : Hp), H B = none -> Dj kvs H H' -> C4 ws cm H' kvs -> H' B = some (.lst bs) -> Ah (Ga H') beta bs -> Bx H' kvs + bs.length <= Bx H kvs ->
  (∀ k who,Al H' kvs k who ↔ (Al H kvs k who /\ ∀ later ∈ bG,some later ∉ Au ws k.1 cm k.2 who)) -> (∀ k,k ∈ beta ↔ ((∃ who,Al H kvs k who) /\ ∀ who,¬ Al H' kvs k who)) -> Q (.ref B) H')
theorem j5 {fd  : FuncData} (T:Txt K mg ad aA aD aI aB aJ aK aO aE aF aG aL aC) (F:F8 K "without_calls_left" "without_calls_left" Uf ad.fY fd):Ai P w K mg base (B8 P w) 1 ad.fY fd ["pending","ways","ranked"] (Vb K):=by
 refine F.okN N4 (fun vs H Q E h=>?_) (fun aV A outer s H vs Q E hr h=>?_)
 ·rcases h with ⟨D,W,R,kvs,wv,rs,bG,H0,ws,cm,rfl,hD,iL,hW,qC,iP,hR,rZ,hle,q⟩ <;> rfl
 ·obtain ⟨D,W,R,kvs,wv,rs,bG,H0,ws,cm,rfl,hD,iL,hW,qC,iP,hR,rZ,hle,q⟩ := h
  refine ⟨_,(A8 (Ar (i:=3) N4.nd rfl (Or.inl rfl) (D9 A7)) (A8 (Cw PassesOwn.never rfl (Dp (w':=Qo K _) (Dq (pv 2))) (Av (i:=4) N4.nd rfl (Or.inl rfl)) (Ab (Cw PassesOwn.never rfl (Dp (w':=Qo K _) (Dq (Um (Wm (F7 hr) (pv 1) (pv 4) (D9 A7) ⟨rfl,rfl,rfl,rfl⟩)))) (G7 K (n:=2) rfl (C5 (Av (i:=5) N4.nd rfl (Or.inl rfl)) (C5 (Av (i:=6) N4.nd rfl (Or.inl rfl)) Fz))) (A8 (Ar (i:=7) N4.nd rfl (Or.inl rfl) (Hj (F7 hr) (pv 0) (pv 5) (fun _ _=>rfl))) (Ab (Df (Hy (Qu (F7 hr) (pv 6) (pv 7)) rfl) (A8 (Cq (X4 (pv 7) (pv 6) ⟨rfl,rfl,rfl,rfl⟩)) (Ab (Df (Ih (Sh (pv 7))) (Ab (Cq (Gg (u':=Yf K _ _ _ _) (J5 PySem.F.plainAttrs_list PySem.F.slot_list_append PySem.F.type_list_append Fx (pv 3) (A0 (pv 5) A7))))) B9))) B9)))))) (Ab (Ax (pv 3))))),?_⟩
  have iQ:=iL.ok
  refine ⟨Bf,fun B hB=>?_⟩
  have s1:A9 H (upd H B (.lst [])):=A9.upd hB
  have e1:(upd H B (.lst [])) B = some (.lst []):=A5
  generalize upd H B (.lst []) = H1 at s1 e1 ⊢
  have c1:∀ c cs,H c = some (.dK cs) -> H1 c = some (.dK cs):=fun c cs e=>s1 _ _ e
  refine ⟨_,rfl,R,rfl,.inl ⟨⟨_,Bj.of (s1 _ _ hR)⟩,?_⟩⟩
  refine D4 (K:=K) (a:=R) (xs:=rs) (fun i σ H'=>iw fun (bs:List V) (beta:List (List Int × Int)) (v4 v5 v6 v7:Option V)=>Sl (σ = [some (.ref D),some (.ref W),some (.ref R),some (.ref B),v4,v5,v6,v7]) (Dj kvs H H') (C4 ws cm H' kvs) (H' B = some (.lst bs)) (Ah (Ga H') beta bs) (Bx H' kvs + bs.length <= Bx H kvs) (Sb B H' kvs) ((Xx kvs H' H)) ((ba ws cm kvs bG i H H')) ((eg ws cm kvs bG i H')) ((ix kvs H H' beta)))
   ⟨[],[],_,_,_,_,rfl,Dj.of s1,iL.keep (LT.of s1) c1,e1,Ah.nil,by rw [Di iQ c1]; exact Nat.le_refl _,(Sb.start iQ hB).keep iQ c1,(fun k who z=>(Al.keep iL c1).mp z),(fun k who z _=>(Al.keep iL c1).mpr z),(fun later z=>by rw [List.take_zero] at z; cases z),fun k=>⟨(fun z=>by cases z),fun z=>?_⟩⟩ (by rintro i σ H' _ ⟨_,_,_,_,_,_,_,ch,_⟩; exact Bj.of (ch.keep iQ hR (fun cs z=>nomatch z))) ?_ ?_
  ·obtain ⟨⟨who,z1⟩,z2⟩ := z
   exact absurd ((Al.keep iL c1).mpr z1) (z2 who)
  ·rintro i u σ H' hu ⟨bs,beta,v4,v5,v6,v7,rfl,ch,eC,HK,MP,MQ,nb,l1,l2,l3,l4⟩
   obtain ⟨lk,qF,lb,lu,rfl,MR,MS⟩ := rZ.get hu
   have MA:F4 H lb lk:=⟨lu,MR,MS⟩
   have qH:=eC.ok
   have lt':=ch.lt iQ
   have pB:=ch.keep iQ hW (fun cs z=>nomatch z)
   have MT:=qC.up lt' (Nat.le_refl _)
   refine ⟨(fun v H7=>Yy fun (la:Addr) (fP:List V)=>P9 (v = .ref la) (H7 la = some (.lst fP)) (la ≠ B) ((∀ u ∈ fP,Oa ws cm kvs H7 lk u)) ((∀ lx,Af wv lk = some (.ref lx) -> lx = la)) (A9 H' H7)),⟨_,rfl,W,rfl,.inr ⟨wv,.inl pB⟩,_,rfl,Bf,fun E hE=>?_⟩,?_⟩
   ·have s6:A9 H' (upd H' E (.lst [])):=A9.upd hE
    refine ⟨_,D8.t (s6 _ _ pB) ((MA.up lt'.2).up (Am.of s6)),?_⟩
    cases hv:Af wv lk with
    | none=>exact ⟨E,[],rfl,A5,(Aj HK hE).symm,(fun u hu=>by cases hu),(fun lx z=>by cases z),s6⟩
    | some v =>
     obtain ⟨la,fP,e2,h0,h1,h2,h3⟩ := qC.1 _ (B7 hv)
     obtain ⟨lc,us3,e3,_,g1,_,g3⟩ := MT.1 _ (B7 hv)
     have e23:V.ref la = V.ref lc:=e2.symm.trans e3
     cases e23
     have e3':v = .ref la:=e3
     exact ⟨la,us3,e3,s6 _ _ g1,Aj h1 hB,(fun u hu=>(g3 u hu).up (Am.of s6)),(fun lx z=>by rw [e3'] at z; cases z; rfl),s6⟩
   rintro v H7 ⟨la,fP,rfl,MU,MV,MW,hlx,s7⟩
   refine ⟨la,rfl,.inl ⟨⟨_,Bj.of MU⟩,?_⟩⟩
   have c7:∀ c cs,H' c = some (.dK cs) -> H7 c = some (.dK cs):=fun c cs e=>s7 _ _ e
   have MX:=eC.keep (LT.of s7) c7
   have lt7:LT H H7:=lt'.trans (LT.of s7)
   refine D4 (K:=K) (a:=la) (xs:=fP) (fun j σ H8=>kj fun (bs:List V) (beta:List (List Int × Int)) (v5 v6 v7:Option V)=>Zu (σ = [some (.ref D),some (.ref W),some (.ref R),some (.ref B),some (.ref lb),v5,v6,v7]) (Dj kvs H H8) (C4 ws cm H8 kvs) (H8 B = some (.lst bs)) (Ah (Ga H8) beta bs) (Bx H8 kvs + bs.length <= Bx H kvs) (Sb B H8 kvs) ((Xx kvs H8 H)) ((ba ws cm kvs bG (i + 1) H H8)) ((eg ws cm kvs bG i H8)) ((ix kvs H H8 beta)) (Am H7 H8) (H8 la = some (.lst fP)) ((Xx kvs H8 H7)) (qu H7 fP j H8 kvs))
    ⟨bs,beta,_,_,_,rfl,ch.trans (Dj.of s7),MX,s7 _ _ HK,MP.imp (fun _ _ z=>Ga.up (Am.of s7) z),by rw [Di qH c7]; exact MQ,nb.keep qH c7,(fun k who z=>l1 k who ((Al.keep eC c7).mp z)),(fun k who z1 z2=>(Al.keep eC c7).mpr (l2 k who z1 fun later hl=>z2 later (List.take_subset_take_left _ (Nat.le_succ i) hl))),(fun later hl k who z1 z2=>l3 later hl k who z1 ((Al.keep eC c7).mp z2)),(fun k=>(l4 k).trans ⟨fun z=>⟨z.1,fun who y=>z.2 who ((Al.keep eC c7).mp y)⟩,fun z=>⟨z.1,fun who y=>z.2 who ((Al.keep eC c7).mpr y)⟩⟩),(fun _ _ z=>z),MU,(fun k who z=>z),(fun t b who k z=>by rw [List.take_zero] at z; cases z)⟩ (by rintro j σ H8 _ ⟨_,_,_,_,_,_,_,_,_,_,_,_,_,_,_,_,_,e,_⟩; exact Bj.of e) ?_ ?_
   ·rintro j u σ H8 hu2 ⟨pC,gJ,v5,v6,v7,rfl,zh,jG,HL,mV,vA,HM,m1,m2,m3,m4,zi,qI,m5,m6⟩
    have hpo8:=jG.ok
    obtain ⟨t,b,who,k,rfl,ht7,hb7,⟨v,aS⟩,MY⟩ := MW u (List.mem_of_getElem? hu2)
    have ht:=zi _ _ ht7
    have hb:=hb7.up zi
    refine ⟨t,_,rfl,Ci.of ht,rfl,_,_,rfl,_,_,rfl,rfl,?_⟩
    have hD8:=zh.keep iQ hD (fun cs z=>nomatch z)
    have bV:=B7 aS
    obtain ⟨c,cs,ev,hc,rY,qB⟩ := jG.1 _ bV
    have ev':v = .ref c:=ev
    subst ev'
    have taken:∀ (HX:Hp),(∀ k' aQ,Al HX kvs k' aQ -> Al H8 kvs k' aQ) -> ¬ Al HX kvs k who -> ∀ t' b' aQ k',V.ref t' ∈ fP.take (j + 1) -> H7 t' = some (.tup [.ref b',.int ((aQ:Nat):Int)]) -> F4 H7 b' k' -> ¬ Al HX kvs k' aQ:=fun HX AU MZ t' b' aQ k' z1 z2 z3 z4=>by
     rw [List.take_add_one,hu2] at z1
     rcases List.mem_append.mp z1 with y | y
     ·exact m6 t' b' aQ k' y z2 z3 (AU _ _ z4)
     ·have e1:t' = t:=by simpa using y
      subst e1
      rw [ht7] at z2
      cases z2
      obtain ⟨u1,f1,f2⟩ := hb7
      obtain ⟨u2,g1,g2⟩ := z3
      rw [f1] at g1
      injection g1 with g1
      injection g1 with g1
      injection g1 with NA BD
      injection BD with BD
      injection NA with NA
      injection BD with BD
      subst NA
      rw [f2] at g2
      have ek:k = k':=by
       have h1:k.1 = k'.1:=by
        have:=Option.some.inj g2
        injection this with this
        exact J1 this
       exact Prod.ext h1 BD
      subst ek
      exact MZ z4
    refine ⟨_,rfl,_,rfl,D,.ref c,rfl,(by rw [<- aS]; exact D8.t hD8 hb),?_⟩
    refine ⟨_,rfl,_,rfl,c,_,rfl,D8.k (k := .inl (who:Int)) hc,_,rfl,_,fun tZ=>?_,fun tZ=>?_,fun _ _ z=>z⟩
    ·obtain ⟨w',hw⟩ := Option.isSome_iff_exists.mp tZ
     have sA:Al H8 kvs k who:=⟨c,cs,aS,hc,by rw [hw]; rfl⟩
     refine ⟨_,rfl,c,rfl,.inl ⟨cs,.inl hc⟩,_,rfl,cs,.inl (who:Int),w',hc,rfl,hw,?_⟩
     have NB:Dj kvs H8 (upd H8 c (.dK (Ba cs (.inl (who:Int))))):=Dj.pop bV rfl
     have mW:C4 ws cm (upd H8 c (.dK (Ba cs (.inl (who:Int))))) kvs:=jG.pop hc
     have qJ:LT H8 (upd H8 c (.dK (Ba cs (.inl (who:Int))))):=LT.dK hc
     have HN:(upd H8 c (.dK (Ba cs (.inl (who:Int))))) c = some (.dK (Ba cs (.inl (who:Int)))):=A5
     have HP:Sb B (upd H8 c (.dK (Ba cs (.inl (who:Int))))) kvs:=HM.pop hc
     have hl9:=(Nd hc (Yn hw) (kvs:=kvs)).2 ⟨_,bV,rfl⟩
     have vB:∀ k' aQ,Al (upd H8 c (.dK (Ba cs (.inl (who:Int))))) kvs k' aQ ↔ Al H8 kvs k' aQ /\ ¬ (k' = k /\ aQ = who):=fun k' aQ=>Al.pop jG aS hc
     generalize upd H8 c (.dK (Ba cs (.inl (who:Int)))) = H9 at NB mW qJ HN HP hl9 vB ⊢
     have BE:=mW.ok
     have BF:=qJ.1 _ _ HL
     have hb9:=hb.up qJ.2
     have n1:∀ k' aQ,Al H9 kvs k' aQ -> Al H kvs k' aQ:=fun k' aQ z=>m1 _ _ ((vB k' aQ).mp z).1
     have n2:∀ k' aQ,Al H kvs k' aQ -> (∀ later ∈ bG.take (i + 1),some later ∉ Au ws k'.1 cm k'.2 aQ) -> Al H9 kvs k' aQ:=fun k' aQ z1 z2=>(vB k' aQ).mpr ⟨m2 _ _ z1 z2,fun e=>by
      refine z2 lk ?_ (by rw [e.1,e.2]; exact MY)
      rw [List.take_add_one,qF]
      simp⟩
     have n3:∀ later ∈ bG.take i,∀ k' aQ,some later ∈ Au ws k'.1 cm k'.2 aQ -> ¬ Al H9 kvs k' aQ:=fun later hl k' aQ z1 z2=>m3 later hl k' aQ z1 ((vB k' aQ).mp z2).1
     have n5:∀ k' aQ,Al H9 kvs k' aQ -> Al H8 kvs k' aQ:=fun k' aQ z=>((vB k' aQ).mp z).1
     have n6:=taken H9 n5 (fun z=>((vB k who).mp z).2 ⟨rfl,rfl⟩)
     have other:∀ k',k' ≠ k -> ((∀ aQ,¬ Al H9 kvs k' aQ) ↔ ∀ aQ,¬ Al H8 kvs k' aQ):=fun k' eX=>⟨fun z aQ y=>z aQ ((vB k' aQ).mpr ⟨y,fun e=>eX e.1⟩),fun z aQ y=>z aQ (n5 _ _ y)⟩
     have hkb:k ∉ gJ:=fun z=>((m4 k).mp z).2 who sA
     refine ⟨_,rfl,c,_,rfl,.inl HN,_,fun he=>?_,fun he=>?_,fun _ _ z=>z⟩
     ·have jH : Ba cs (.inl (who : Int)) = [] := by
       have:(Ba cs (.inl (who:Int))).isEmpty = true:=by simpa using he
       exact List.isEmpty_iff.mp this
      have BG:∀ aQ,¬ Al H9 kvs k aQ:=fun aQ z=>by
       obtain ⟨c',gW,g1,g2,g3⟩ := z
       rw [aS] at g1
       cases g1
       rw [HN] at g2
       cases g2
       rw [jH] at g3
       cases g3
      refine ⟨_,rfl,.inl ⟨rfl,_,Bj.of BF⟩,_,rfl,B,_,_,rfl,rfl,BF,Cb (by omega),?_⟩
      have sC:Am H9 (upd H9 B (.lst (pC ++ [.ref b]))):=Am.lst BF
      have HQ:∀ c' gW,H9 c' = some (.dK gW) -> (upd H9 B (.lst (pC ++ [.ref b]))) c' = some (.dK gW):=fun c' gW e=>by
       rw [Aa (Bh e BF (by intro z; cases z))]
       exact e
      have kl:∀ x xs,x ≠ B -> H9 x = some (.lst xs) -> (upd H9 B (.lst (pC ++ [.ref b]))) x = some (.lst xs):=fun x xs n e=>(Aa n).trans e
      have jI:∀ k' aQ,Al (upd H9 B (.lst (pC ++ [.ref b]))) kvs k' aQ ↔ Al H9 kvs k' aQ:=fun k' aQ=>Al.keep mW HQ
      obtain ⟨ub,NC,ND⟩ := hb9
      refine ⟨pC ++ [.ref b],gJ ++ [k],_,_,_,rfl,(zh.trans NB).new hB,mW.rP HP sC kl HQ,A5,(mV.imp fun _ _ z=>Ga.up sC (Ga.up qJ.2 z)).append (Ah.one ⟨b,ub,rfl,sC _ _ NC,sC _ _ ND⟩),?_,HP.keep BE HQ,(fun k' aQ z=>n1 _ _ ((jI k' aQ).mp z)),(fun k' aQ z1 z2=>(jI k' aQ).mpr (n2 _ _ z1 z2)),(fun later hl k' aQ z1 z2=>n3 later hl k' aQ z1 ((jI k' aQ).mp z2)),(fun k'=>?_),(zi.trans qJ.2).trans sC,kl _ _ MV (qJ.1 _ _ qI),(fun k' aQ z=>m5 _ _ (n5 _ _ ((jI k' aQ).mp z))),(fun t' b' aQ k' z1 z2 z3 z4=>n6 t' b' aQ k' z1 z2 z3 ((jI k' aQ).mp z4))⟩
      ·rw [Di BE HQ,List.length_append,List.length_singleton]
       omega
      ·have vC:(∀ aQ,¬ Al (upd H9 B (.lst (pC ++ [.ref b]))) kvs k' aQ) ↔ ∀ aQ,¬ Al H9 kvs k' aQ:=⟨fun z aQ y=>z aQ ((jI k' aQ).mpr y),fun z aQ y=>z aQ ((jI k' aQ).mp y)⟩
       rw [vC]
       by_cases eX:k' = k
       ·subst eX
        exact ⟨fun _=>⟨⟨who,m1 _ _ sA⟩,BG⟩,fun _=>by simp⟩
       ·rw [other k' eX,<- m4 k']
        simp [eX]
     ·have dX : Ba cs (.inl (who : Int)) ≠ [] := fun z => by
       rw [z] at he
       exact absurd he (by decide)
      refine ⟨pC,gJ,_,_,_,rfl,zh.trans NB,mW,BF,mV.imp (fun _ _ z=>Ga.up qJ.2 z),by omega,HP,n1,n2,n3,(fun k'=>?_),zi.trans qJ.2,qJ.1 _ _ qI,(fun k' aQ z=>m5 _ _ (n5 _ _ z)),n6⟩
      by_cases eX:k' = k
      ·subst eX
       refine ⟨fun z=>absurd z hkb,fun z=>?_⟩
       obtain ⟨x,hx⟩ := List.exists_mem_of_ne_nil _ dX
       obtain ⟨mH,l9,us9,g1,_⟩ := qB x (Hl hx)
       have hs:(Af (Ba cs (.inl (who:Int))) (.inl (mH:Int))).isSome = true:=by
        obtain ⟨y,hy⟩ := J0 (k:=x.1) (v:=x.2) hx
        rw [<- g1,hy]
        rfl
       exact absurd ⟨c,_,aS,HN,hs⟩ (z.2 mH)
      ·rw [other k' eX]
       exact m4 k'
    ·have lQ : ¬ Al H8 kvs k who := fun z => by
      obtain ⟨c',gW,g1,g2,g3⟩ := z
      rw [aS] at g1
      cases g1
      rw [hc] at g2
      cases g2
      rw [tZ] at g3
      cases g3
     exact ⟨pC,gJ,_,_,_,rfl,zh,jG,HL,mV,vA,HM,m1,m2,m3,m4,zi,qI,m5,taken H8 (fun _ _ z=>z) lQ⟩
   rintro σ H8 ⟨pC,gJ,v5,v6,v7,rfl,zh,jG,HL,mV,vA,HM,m1,m2,m3,m4,zi,qI,m5,m6⟩
   refine ⟨pC,gJ,_,_,_,_,rfl,zh,jG,HL,mV,vA,HM,m1,m2,(fun later hl k who z1 z2=>?_),m4⟩
   rw [List.take_add_one,qF] at hl
   rcases List.mem_append.mp hl with y | y
   ·exact m3 later y k who z1 z2
   ·have e1:later = lk:=by simpa using y
    subst e1
    obtain ⟨lx,ux,tx,bx,f1,f2,f3,f4,f5⟩ := (iP k who later (m1 _ _ z2) z1).up lt7
    have ex:=hlx lx f1
    subst ex
    rw [MU] at f2
    cases f2
    refine m6 tx bx who k ?_ f4 f5 z2
    rw [List.take_length]
    exact f3
  rintro σ H' ⟨bs,beta,v4,v5,v6,v7,rfl,ch,eC,HK,MP,MQ,nb,l1,l2,l3,l4⟩
  unfold ba at l2
  unfold eg at l3
  rw [rZ.1,List.take_length] at l2 l3
  exact ⟨_,rfl,q B bs beta H' hB ch eC HK MP MQ (fun k who=>⟨fun z=>⟨l1 k who z,fun later hl y=>l3 later hl k who y z⟩,fun z=>l2 k who z.1 z.2⟩) l4⟩
def Nl (K:PySem.W.Frag) (aA:Addr):Sp:=fun vs H Q E=>(Mb fun (a:Addr) (ws:List Int) (cm:Option Int)=>Ux (vs = [.ref a]) (B6 H a ws cm) ((∀ w ∈ ws,1 <= w)) (1 <= qv cm) ((∀ w ∈ ws,intBits w <= 256)) (intBits (qv cm) <= 256) (ws.length <= 8) (Ad (qv cm) ws <= 3000) (∀ (T:Addr) (tv:List ((List Int × Int) × V)) (H':Hp),H T = none -> A9 H H' -> H' T = some (.dT tv) -> Cv ws cm tv -> (tv.map (·.1)).Nodup -> tv.length <= 60000 -> Q (.ref T) H')) \/ (Mb fun (a:Addr) (ws:List Int) (cm:Option Int)=>K7 (vs = [.ref a]) (B6 H a ws cm) ((∀ w ∈ ws,intBits w <= 256)) (intBits (qv cm) <= 256) (ws.length <= 8) (3000 < Ad (qv cm) ws) (∀ H2,A9 H H2 -> E (.ref aA) none H2))
theorem fc {fd sE mX sI:FuncData} (T:Txt K mg ad aA aD aI aB aJ aK aO aE aF aG aL aC) (F:F8 K "ranks" "ranks" Kf ad.bZ fd) (vD:Ai P w K mg base (B8 P w) 6 ad.fX sE ["hall"] (Ww K aA)) (vE:Aw K sE ["hall"] []) (mY:Ai P w K mg base (B8 P w) 1 ad.cN mX ["pending"] (R0 K)) (mZ:Aw K mX ["pending"] []) (vF:Ai P w K mg base (B8 P w) 1 ad.fY sI ["pending","ways","ranked"] (Vb K)) (vG:Aw K sI ["pending","ways","ranked"] []):Ai P w K mg base (B8 P w) 7 ad.bZ fd ["hall"] (Nl K aA):=by
 refine F.qY Ev (fun vs H Q E h=>?_) (fun aV A outer s H vs Q E hr h=>?_)
 ·rcases h with ⟨a,ws,cm,rfl,ha,dH,mP,kT,kS,zf,hp,q⟩ | ⟨a,ws,cm,rfl,_,_,_,_,_,_⟩ <;> rfl
 ·obtain h:=h
  refine ⟨_,(A8 (Ar (i:=1) Ev.nd rfl (Or.inl rfl) (Ej vD (hr.mono (by decide)) rfl T.KQ T.k_x2 vE .nil Te (A0 (pv 0) A7))) (A8 (Ar (i:=2) Ev.nd rfl (Or.inl rfl) (Ag mY (hr.mono (by decide)) rfl T.AB T.k_x23 mZ .nil Az (A0 (pv 1) A7))) (A8 (Ar (i:=3) Ev.nd rfl (Or.inl rfl) Fc) (A8 (Ar (i:=4) Ev.nd rfl (Or.inl rfl) Ac) (A8 (Ng (Ep (i:=5) Ev.nd rfl (Hh (pv 1)) _ rfl Rb rfl rfl (fun _ _ _ _=>(G7 K (n:=2) rfl (C5 (Av (i:=0) Ju rfl (Or.inl rfl)) (C5 (Av (i:=1) Ju rfl (Or.inl rfl)) Fz)))) (fun _ _ _ _=>(Ti (Ih (Sh (pv 1))))) (fun _ _ _ _=>(pv 0)) rfl rfl)) (A8 (Kn Qp (Kj (pv 5) (by intro _; rfl)) (A8 (Cw Qp rfl (Dp (w':=Qo K _) (Dq (pv 5))) (Av (i:=6) Ev.nd rfl (Or.inl rfl)) (Ab (Ho (F7 hr) (pv 3) (pv 6) (pv 4) rfl))) (A8 (Ar (i:=5) Ev.nd rfl (Or.inl rfl) (Ag vF (hr.mono (by decide)) rfl T.KR T.k_x0 vG .nil Az (A0 (pv 1) (A0 (pv 2) (A0 (pv 5) A7))))) (Ab (Ar (i:=4) Ev.nd rfl (Or.inl rfl) (Be Ew (pv 4) Ac)))))) (Ab (Ax (pv 3))))))))),?_⟩
  rcases h with ⟨a,ws,cm,rfl,ha,dH,mP,kT,kS,zf,hp,q⟩ | ⟨a,ws,cm,rfl,ha,hb,eV,cX,hp,he⟩
  ·refine ⟨_,rfl,E,fun _ _ _ z=>z,.inl ⟨a,ws,cm,rfl,ha,dH,mP,kT,kS,zf,hp,fun D kvs H1 hD s1 eD iL eO mT eU lH=>?_⟩⟩
   have iQ:=iL.ok
   refine ⟨_,rfl,D,kvs,ws,cm,rfl,eD,iL,lH,fun W wv H2 hW s2 eW qC NF qU=>?_⟩
   refine fun T hT=>?_
   have s3:A9 H2 (upd H2 T (.dT [])):=A9.upd hT
   have e3:(upd H2 T (.dT [])) T = some (.dT []):=A5
   generalize upd H2 T (.dT []) = H3 at s3 e3 ⊢
   have pD:=s2.trans s3
   have zj:=pD _ _ eD
   have hTD:T ≠ D:=(Aj (s2 _ _ eD) hT).symm
   refine ⟨D,.dT kvs,trivial,zj,_,rfl,D,.dT kvs,rfl,trivial,zj,fun o=>?_⟩
   have qK:=iL.keep (LT.of pD) (fun c cs e=>pD _ _ e)
   have NG:=qK.ok
   have BH:=mT.keep iL (fun c cs e=>pD _ _ e)
   have tF:LT H3 (upd H3 D (.bK o (.dT kvs))):=LT.dT zj
   have kF:∀ c cs,H3 c = some (.dK cs) -> (upd H3 D (.bK o (.dT kvs))) c = some (.dK cs):=fun c cs e=>by
    rw [Aa (Bh e zj (by intro z; cases z))]
    exact e
   have bF:∀ b ob,b ≠ D -> H3 b = some ob -> (upd H3 D (.bK o (.dT kvs))) b = some ob:=fun b ob n e=>(Aa n).trans e
   have dF:(upd H3 D (.bK o (.dT kvs))) D = some (.bK o (.dT kvs)):=A5
   have qL:=qK.keep tF kF
   have sJ:=BH.keep qK kF
   generalize upd H3 D (.bK o (.dT kvs)) = HF at tF kF bF dF qL sJ ⊢
   refine fun R hR=>?_
   refine Qq (K:=K) (d:=D) (o:=o) (u := .dT kvs) (fun i zs H'=>∃ (bG:List (List Int × Int)),Kc (H' R = some (.lst zs)) (zs.length <= i) (Ah (Ga H') bG zs) (A9 HF H') (∀ k,k ∈ bG ↔ ∃ v,(k,v) ∈ kvs.take i /\ W0 HF v)) ⟨[],A5,Nat.le_refl _,Ah.nil,A9.upd hR,fun k=>⟨(fun z=>by cases z),fun ⟨v,z,_⟩=>by rw [List.take_zero] at z; cases z⟩⟩ (by rintro i zs H' _ ⟨_,_,_,_,s,_⟩; exact s _ _ dF) ?_ ?_ ?_ ?_
   ·rintro i x y T2 zs H' hi hit ⟨bG,oY,ze,pE,s',BI⟩ LW
    have hi3:i < 3000:=Nat.lt_of_lt_of_le hi lH
    obtain ⟨kk,bb,aS,rfl,pX⟩ := hit
    obtain ⟨c,cs,ey,hc,rY,qB⟩ := qL.1 _ (List.mem_of_getElem? aS)
    have LM:y = .ref c:=ey
    subst LM
    have s4:A9 H' (upd H' T2 (.tup [.ref bb,.ref c])):=A9.upd LW
    have e4:(upd H' T2 (.tup [.ref bb,.ref c])) T2 = some (.tup [.ref bb,.ref c]):=A5
    generalize upd H' T2 (.tup [.ref bb,.ref c]) = H4 at s4 e4 ⊢
    have zk:=s4 _ _ oY
    refine ⟨_,rfl,c,cs,rfl,.inl (s4 _ _ (s' _ _ hc)),?_⟩
    obtain ⟨ku,rH,pS⟩ := pX.up (Am.of s4)
    refine Oe (fun HR=>?_) (fun HR=>?_)
    ·have jH : cs = [] := by
      have:cs.isEmpty = true:=by simpa using HR
      exact List.isEmpty_iff.mp this
     subst jH
     have tt:Am H4 (upd H4 R (.lst (zs ++ [.ref bb]))):=Am.lst zk
     refine ⟨_,rfl,zk,Cb (by omega),bG ++ [kk],A5,by rw [List.length_append,List.length_singleton]; omega,(pE.imp fun _ _ z=>Ga.up tt (Ga.up (Am.of s4) z)).append (Ah.one ⟨bb,ku,rfl,tt _ _ rH,tt _ _ pS⟩),(s'.trans s4).new hR,fun k=>?_⟩
     rw [List.mem_append,BI,List.mem_singleton,List.take_add_one,aS]
     constructor
     ·rintro (⟨v,z1,z2⟩ | z)
      ·exact ⟨v,List.mem_append_left _ z1,z2⟩
      ·subst z
       exact ⟨.ref c,by simp,c,rfl,hc⟩
     ·rintro ⟨v,z1,z2⟩
      rcases List.mem_append.mp z1 with y | y
      ·exact .inl ⟨v,y,z2⟩
      ·have e1:(k,v) = (kk,.ref c):=by simpa using y
       cases e1
       exact .inr rfl
    ·have dX : cs ≠ [] := fun z => by
      rw [z] at HR
      exact absurd HR (by decide)
     refine ⟨bG,zk,by omega,pE.imp fun _ _ z=>Ga.up (Am.of s4) z,s'.trans s4,fun k=>?_⟩
     rw [BI,List.take_add_one,aS]
     constructor
     ·rintro ⟨v,z1,z2⟩
      exact ⟨v,List.mem_append_left _ z1,z2⟩
     ·rintro ⟨v,z1,z2⟩
      rcases List.mem_append.mp z1 with y | y
      ·exact ⟨v,y,z2⟩
      ·have e1:(k,v) = (kk,.ref c):=by simpa using y
       cases e1
       obtain ⟨c',e2,e3⟩ := z2
       cases e2
       rw [hc] at e3
       cases e3
       exact absurd rfl dX
   ·rintro σ H1 Q1 Q2 hQ ⟨v,e1,c,cs,e2,r,z⟩
    exact ⟨v,e1,c,cs,e2,r,hQ _ _ z⟩
   ·rintro σ H1 Q1 Q2 hQ ⟨v,e1,z⟩
    exact ⟨v,e1,hQ _ _ z⟩
   rintro zs HG ⟨vH,hRG,ze,pE,sG,sL⟩
   rw [show kvs.take (Cr (.dT kvs)) = kvs from List.take_length] at sL
   have NH:=F0.start qL eO sJ sL
   have BJ:=sG _ _ dF
   have MO:Cr (.dT kvs) <= 3000:=lH
   have tG:LT HG (upd HG D (.dT kvs)):=⟨fun b xs e=>by rw [Aa (Bh e BJ (by intro z; cases z))]; exact e,fun b xs e=>by rw [Aa (Bh e BJ (by intro z; cases z))]; exact e⟩
   have pF:A9 H3 (upd HG D (.dT kvs)):=fun b ob e=>by
    by_cases z:b = D
    ·subst z
     rw [zj] at e
     cases e
     exact A5
    ·exact (Aa z).trans (sG _ _ (bF b ob z e))
   refine ⟨o,BJ,?_⟩
   have zk:=tG.1 _ _ hRG
   have BK:Ah (Ga (upd HG D (.dT kvs))) vH zs:=pE.imp fun _ _ z=>Ga.up tG.2 z
   have cG:∀ c cs,HF c = some (.dK cs) -> (upd HG D (.dT kvs)) c = some (.dK cs):=fun c cs e=>by
    rw [Aa (Bh (sG _ _ e) BJ (by intro z; cases z))]
    exact sG _ _ e
   have hR3:H3 R = none:=by
    cases hx:H3 R with
    | none=>rfl
    | some ob =>
     by_cases z:R = D
     ·rw [z,dF] at hR
      cases hR
     ·rw [bF R ob z hx] at hR
      cases hR
   generalize upd HG D (.dT kvs) = H4 at tG pF zk BK cG ⊢
   clear tG hRG pE sG BJ
   have BL:=qK.keep (LT.of pF) (fun c cs e=>pF _ _ e)
   have vI:=BL.ok
   have NI:F0 ws cm [] vH 1 (Al H4 kvs):=by
    have e:Al H4 kvs = Al HF kvs:=by
     funext k who
     exact propext (Al.keep qL cG)
    rw [e]
    exact NH
   have NJ:∀ k who later,Al H4 kvs k who -> some later ∈ Au ws k.1 cm k.2 who -> C9 H4 wv later k who:=fun k who later z1 z2=>((NF k who later ((Al.keep iL (fun c cs e=>pF _ _ (pD _ _ e))).mp z1) z2).up (LT.of s3)).up (LT.of pF)
   have eD4:=pF _ _ zj
   have eW4:=pF _ _ (s3 _ _ eW)
   have NK:=pF _ _ e3
   have NL:=qC.up ((LT.of s3).trans (LT.of pF)) (Nat.le_refl _)
   have hl4:Bx H4 kvs <= 24000:=by
    have:=L6 vI
    omega
   have hTv:∀ kv ∈ kvs,kv.2 ≠ .ref T:=fun kv aS z=>by
    obtain ⟨c,cs,e1,e2,_⟩ := NG kv aS
    rw [z] at e1
    cases e1
    rw [e3] at e2
    cases e2
   dsimp only
   refine Pt (fun σ' H'=>iw fun (R:Addr) (rs:List V) (bG:List (List Int × Int)) (tv:List ((List Int × Int) × V)) (rank:Int) (v6:Option V)=>P8 (σ' = [some (.ref a),some (.ref D),some (.ref W),some (.ref T),some (.int rank),some (.ref R),v6]) ((su T kvs H4 H')) (C4 ws cm H' kvs) (H' T = some (.dT tv)) ((tv.map (·.1)).Nodup) (H' R = some (.lst rs)) (Ah (Ga H') bG rs) (F0 ws cm tv bG rank (Al H' kvs)) ((Xx kvs H' H4)) (tv.length + rs.length + Bx H' kvs <= 27000))
    (fun σ' H'=>2 * Bx H' kvs + match σ' with
     | [_,_,_,_,_,some (.ref R),_]=>(match H' R with
      | some (.lst [])=>0
      | _=>1)
     | _=>0) ⟨R,zs,vH,[],1,_,rfl,(fun b ob _ e _=>e),BL,NK,List.Pairwise.nil,zk,BK,NI,(fun _ _ z=>z),by show 0 + zs.length + _ <= _; omega⟩ ?_ ?_
   ·rintro σ' H' ⟨R,rs,bG,tv,rank,v6,rfl,kp,eC,sM,htv,oY,rZ,BM,uM,hsum⟩
    have qH:=eC.ok
    refine ⟨_,rfl,_,.inl ⟨_,Bj.of oY,rfl⟩,?_⟩
    have kU:=kp D _ hTD.symm eD4 (fun kv aS z=>by
     obtain ⟨c,cs,e1,e2,_⟩ := vI kv aS
     rw [z] at e1
     cases e1
     rw [eD4] at e2
     cases e2)
    refine Oe (fun dX=>?_) (fun jH=>?_)
    ·have NM : 0 < rs.length := by
      cases rs with
      | nil=>exact absurd dX (by decide)
      | cons x xs=>simp
     have hRT:R ≠ T:=Bh oY sM (by intro z; cases z)
     have mu0:(match H' R with
      | some (.lst [])=>0
      | _=>1) = 1:=by
      rw [oY]
      cases rs with
      | nil=>exact absurd NM (by decide)
      | cons x xs=>rfl
     refine ⟨_,rfl,R,rfl,.inl ⟨⟨_,Bj.of oY⟩,?_⟩⟩
     refine D4 (K:=K) (a:=R) (xs:=rs) (fun i σ H5=>Yy fun (nA:List ((List Int × Int) × V)) (v6:Option V)=>K7 (σ = [some (.ref a),some (.ref D),some (.ref W),some (.ref T),some (.int rank),some (.ref R),v6]) ((∀ b,b ≠ T -> H5 b = H' b)) (H5 T = some (.dT nA)) ((nA.map (·.1)).Nodup) ((∀ kv ∈ nA,∃ n:Int,kv.2 = .int n /\ 1 <= n /\ n < rank + 1)) ((∀ k,Af nA k = if k ∈ bG.take i then some (.int rank) else Af tv k)) (nA.length <= tv.length + i))
      ⟨tv,_,rfl,(fun _ _=>rfl),sM,htv,(fun kv aS=>by obtain ⟨n,e1,e2,e3⟩ := BM.2.1 kv aS; exact ⟨n,e1,e2,by omega⟩),(fun k=>by rw [List.take_zero,if_neg (by simp)]),Nat.le_refl _⟩ (by rintro i σ H5 _ ⟨_,_,_,e,_⟩; exact Bj.of ((e R hRT).trans oY)) ?_ ?_
     ·rintro i u σ H5 hu ⟨nA,v6,rfl,k5,NN,vJ,vK,qM,hl5⟩
      have hi:=(List.getElem?_eq_some_iff.mp hu).1
      obtain ⟨k,NO,b,u1,rfl,kT,kS⟩ := rZ.get hu
      have hbk:F4 H5 b k:=⟨u1,(k5 b (Bh kT sM (by intro z; cases z))).trans kT,(k5 u1 (Bh kS sM (by intro z; cases z))).trans kS⟩
      refine ⟨_,rfl,_,rfl,_,rfl,T,_,rfl,Ll.t NN hbk (Cb (by omega)),?_⟩
      refine ⟨Bc nA k (.int rank),_,rfl,(fun x n=>(Aa n).trans (k5 x n)),A5,ez vJ,Pe (P:=fun v=>∃ n:Int,v = .int n /\ 1 <= n /\ n < rank + 1) vK ⟨rank,rfl,BM.1,by omega⟩,(fun k'=>?_),Nat.le_trans (D5 _ _ _) (by omega)⟩
      rw [Fm,qM,List.take_add_one,NO]
      by_cases z:k' = k
      ·rw [if_pos z,if_pos (by rw [z]; simp)]
      ·rw [if_neg z]
       have e:(k' ∈ bG.take i ++ (some k).toList) ↔ k' ∈ bG.take i:=by simp [z]
       by_cases y:k' ∈ bG.take i
       ·rw [if_pos y,if_pos (e.mpr y)]
       ·rw [if_neg y,if_neg (fun x=>y (e.mp x))]
     rintro σ H5 ⟨nA,v65,rfl,k5,NN,vJ,vK,qM,hl5⟩
     rw [rZ.1,List.take_length] at qM
     have c5:∀ c cs,H' c = some (.dK cs) -> H5 c = some (.dK cs):=fun c cs e=>(k5 c (Bh e sM (by intro z; cases z))).trans e
     have t5:LT H' H5:=⟨fun b xs e=>(k5 b (Bh e sM (by intro z; cases z))).trans e,fun b xs e=>(k5 b (Bh e sM (by intro z; cases z))).trans e⟩
     have BN:=eC.keep t5 c5
     have jE:=BN.ok
     have HS:∀ k who,Al H5 kvs k who ↔ Al H' kvs k who:=fun k who=>Al.keep eC c5
     have NP:Al H5 kvs = Al H' kvs:=by
      funext k who
      exact propext (HS k who)
     have hl5e:=Di qH c5
     have kp5:∀ b ob,b ≠ T -> H4 b = some ob -> (∀ kv ∈ kvs,kv.2 ≠ .ref b) -> H5 b = some ob:=fun b ob n e m=>(k5 b n).trans (kp b ob n e m)
     have nB:∀ b ob,b ≠ T -> H4 b = some ob -> (∀ cs,ob ≠ .dK cs) -> H5 b = some ob:=fun b ob n e m=>kp5 b ob n e fun kv aS z=>by
      obtain ⟨c,cs,e1,e2,_⟩ := vI kv aS
      rw [z] at e1
      cases e1
      rw [e] at e2
      exact m cs (Option.some.inj e2)
     have hWT:W ≠ T:=Aj eW hT
     have t45:LT H4 H5:=⟨fun b xs e=>nB b _ (Bh e NK (by intro z; cases z)) e (fun cs z=>nomatch z),fun b xs e=>nB b _ (Bh e NK (by intro z; cases z)) e (fun cs z=>nomatch z)⟩
     refine ⟨_,rfl,_,rfl,_,rfl,D,W,R,kvs,wv,rs,bG,H1,ws,cm,rfl,(k5 D hTD.symm).trans kU,BN,nB W _ hWT eW4 (fun cs z=>nomatch z),NL.up t45 (Nat.le_refl _),(fun k who later z1 z2=>(NJ k who later (uM k who ((HS k who).mp z1)) z2).up t45),(k5 R hRT).trans oY,rZ.imp (fun _ _ z=>Ga.up t5.2 z),Nat.le_trans (L6 jE) (by omega),fun B bs beta H6 hB ch6 NQ hB6 NR BO BP NS=>?_⟩
     have NT:F0 ws cm nA beta (rank + 1) (Al H6 kvs):=F0.step BM qM vK (fun k who=>by rw [BP,HS]) (fun k=>by rw [NS,NP])
     have hT6:H6 T = some (.dT nA):=ch6 T _ NN hTv
     refine ⟨_,rfl,_,_,rfl,rfl,⟨B,bs,beta,nA,rank + 1,_,rfl,(fun b ob n e m=>ch6 b ob (kp5 b ob n e m) m),NQ,hT6,vJ,hB6,NR,NT,(fun k who z=>uM k who ((HS k who).mp ((BP k who).mp z).1)),by omega⟩,?_⟩
     show 2 * Bx H6 kvs + (match H6 B with
      | some (.lst [])=>0
      | _=>1) < 2 * Bx H' kvs + (match H' R with
      | some (.lst [])=>0
      | _=>1)
     rw [mu0,hB6]
     cases bs with
     | nil =>
      show 2 * Bx H6 kvs + 0 < _
      have:Bx H6 kvs + 0 <= Bx H5 kvs:=BO
      omega
     | cons x xs =>
      show 2 * Bx H6 kvs + 1 < _
      rw [List.length_cons] at BO
      omega
    ·have NU : rs = [] := by
      cases rs with
      | nil=>rfl
      | cons x xs=>exact absurd rfl jH
     have BQ:bG = []:=by
      have:=rZ.1
      rw [NU] at this
      exact List.length_eq_zero_iff.mp this.symm
     rw [BQ] at BM
     refine ⟨_,rfl,q T tv H' (s1.free (s2.free hT)) (fun b ob e=>?_) sM BM.done htv (by omega)⟩
     have e4:=pF _ _ (pD _ _ (s1 _ _ e))
     refine kp b ob (fun z=>?_) e4 (fun kv aS z=>?_)
     ·have:=s1.free (s2.free hT)
      rw [z,this] at e
      cases e
     ·rw [eU kv aS b z] at e
      cases e
   ·intro σ H0 Q1 Q2 z h1
    obtain ⟨_,e,k,t,h2⟩ := h1
    exact ⟨_,e,k,t,z _ _ h2⟩
  ·exact ⟨_,rfl,E,fun _ _ _ z=>z,.inr ⟨a,ws,cm,rfl,ha,hb,eV,cX,hp,he⟩⟩
def Nk (K:PySem.W.Frag):Sp:=fun vs H Q _=>Xh fun (TB:Addr) (v:V) (o:Option (List Int × Int)) (tv:List ((List Int × Int) × V))=>Kc (vs = [.ref TB,v]) (H TB = some (.dT tv)) (Gu H o v) (Y6 tv) (∀ (p:Addr) (H':Hp),A9 H H' -> H' p = some (.tup [.int (told tv o).1,.int (told tv o).2]) -> Q (.ref p) H')
theorem df {fd  : FuncData} (T:Txt K mg ad aA aD aI aB aJ aK aO aE aF aG aL aC) (F:F8 K "worth" "worth" Mp ad.cA fd):Ai P w K mg base (B8 P w) 1 ad.cA fd ["table","behind"] (Nk K):=by
 refine F.okN br (fun vs H Q E h=>?_) (fun aV A outer s H vs Q E hr h=>?_)
 ·rcases h with ⟨TB,v,o,tv,rfl,hT,hv,pG,q⟩ <;> rfl
 ·obtain ⟨TB,v,o,tv,rfl,hT,hv,pG,q⟩ := h
  refine ⟨_,(A8 (Eh (Ck Q9 (pv 1) Dd (C8 _)) (Ab (Ax (Bl (A0 Ac (A0 Ac A7))))) B9) (A8 (Eh (Hy (Qu (F7 hr) (pv 1) (pv 0)) rfl) (Ab (Ax (Bl (A0 Ac (A0 (Hj (F7 hr) (pv 0) (pv 1) (fun _ _=>rfl)) A7))))) B9) (Ab (Ax (Bl (A0 Ac (A0 Ac A7))))))),?_⟩
  cases o with
  | none =>
   have ev:v = .aW:=hv
   subst ev
   exact ⟨_,rfl,rfl,_,rfl,Ps rfl ⟨Bf,fun p hp=>q p _ (A9.upd hp) A5⟩⟩
  | some k =>
   obtain ⟨p,ev,fO⟩ := hv
   subst ev
   refine ⟨_,rfl,rfl,_,rfl,Mg rfl ?_⟩
   refine ⟨_,rfl,_,rfl,TB,_,rfl,D8.t hT (show F4 H p k from fO),_,rfl,Oe (fun hn=>?_) (fun hn=>?_)⟩
   ·obtain ⟨v,hv⟩ := Option.isSome_iff_exists.mp hn
    obtain ⟨m,e⟩ := pG k v hv
    subst e
    have dg:D8 H TB (.ref p) (some (.int m)):=by
     rw [<- hv]
     exact D8.t hT fO
    refine ⟨_,rfl,_,rfl,TB,_,rfl,dg,Bf,fun p2 zM=>q p2 _ (A9.upd zM) ?_⟩
    have e:told tv (some k) = (0,m):=by
     show Mt (Af tv k) = _
     rw [hv]
     rfl
    rw [e]
    exact A5
   ·refine ⟨Bf,fun p2 zM=>q p2 _ (A9.upd zM) ?_⟩
    have e:told tv (some k) = (1,0):=by
     show Mt (Af tv k) = _
     cases hv:Af tv k with
     | none=>rfl
     | some v=>rw [hv] at hn; exact absurd rfl hn
    rw [e]
    exact A5
def Qx (K:PySem.W.Frag):Sp:=fun vs H Q _=>Zy fun (a TB b:Addr) (ws ls:List Int) (cm:Option Int) (q w:Int) (who:Nat) (tv:List ((List Int × Int) × V))=>Sl (vs = [.ref a,.ref TB,.ref b,.int w]) (w = (who:Int)) (B6 H a ws cm) (Ea H b ls q) (H TB = some (.dT tv)) (Y6 tv) (who < ws.length) (ls.length = ws.length) (ws.length <= 8) ((∀ x ∈ ws,1 <= x)) (∀ (p:Addr) (H':Hp),A9 H H' -> H' p = some (.tup [.int (Hs tv ws ls cm q who).1,.int (Hs tv ws ls cm q who).2]) -> Q (.ref p) H')
theorem ak {fd fG cF:FuncData} (T:Txt K mg ad aA aD aI aB aJ aK aO aE aF aG aL aC) (F:F8 K "call_worth" "call_worth" L7 ad.cO fd) (fH:Ai P w K mg base (B8 P w) 1 ad.cA fG ["table","behind"] (Nk K)) (fI:Aw K fG ["table","behind"] []) (dQ:Ai P w K mg base (B8 P w) 5 ad.bT cF ["hall","standing","who"] (Ki K)) (dR:Aw K cF ["hall","standing","who"] []):Ai P w K mg base (B8 P w) 6 ad.cO fd ["hall","table","standing","who"] (Qx K):=by
 refine F.okN ap (fun vs H Q E h=>?_) (fun aV A outer s H vs Q E hr h=>?_)
 ·rcases h with ⟨a,TB,b,ws,ls,cm,n,w0,who,tv,rfl,rfl,ha,hb,hT,pG,hw,hl,h8,dH,q⟩ <;> rfl
 ·obtain ⟨a,TB,b,ws,ls,cm,n,w0,who,tv,rfl,rfl,ha,hb,hT,pG,hw,hl,h8,dH,q⟩ := h
  refine ⟨_,(Ab (Ax (Bt (Uu K hr rfl) (by rfl) T.AI boot_min (A0 (Dr (Dp (w':=Qo K _) (Dq (Ag dQ (hr.mono (by decide)) rfl T.mB T.k_x12 dR .nil Az (A0 (pv 0) (A0 (pv 2) (A0 (pv 3) A7)))))) _ rfl Jc rfl rfl (fun _ _ _ _=>(Av (i:=0) Je rfl (Or.inl rfl))) (fun _ _ _ _=>D3) (fun _ _ _ _=>(Ag fH (hr.mono (by decide)) rfl T.mC T.k_x26 fI .nil Az (A0 (pv 1) (A0 (pv 0) A7))))) A7)))),?_⟩
  have hbl:(Au ws ls cm n who).length <= 2:=by
   unfold Au
   split <;> simp
  refine ⟨_,rfl,_,rfl,_,rfl,a,b,ws,ls,cm,n,_,who,rfl,rfl,ha,hb,hw,hl,h8,fun l us H1 zV s1 el kB=>⟨l,rfl,.inl ⟨⟨_,Bj.of el⟩,fun W hW=>?_⟩⟩⟩
  have hul:=kB.1
  refine N5 (K:=K) (a:=l) (xs:=us) (fun i zs H'=>zs.length = i /\ Qw H' (fun j=>told tv ((Au ws ls cm n who).getD j none)) zs /\ H' W = some (.lst zs) /\ A9 H1 H') ⟨rfl,(fun j u h=>by simp at h),A5,A9.upd hW⟩ (by rintro i zs H' _ ⟨_,_,_,s⟩; exact Bj.of (s _ _ el)) ?_ ?_
  ·rintro i y zs H' hy ⟨ze,pE,pB,s'⟩ Qe hQ
   obtain ⟨o,ho,hyo⟩ := kB.get hy
   have hi:=(List.getElem?_eq_some_iff.mp hy).1
   refine ⟨_,rfl,_,rfl,TB,y,o,tv,rfl,(s1.trans s') _ _ hT,hyo.up (Am.of s'),pG,fun p H2 s2 e2=>?_⟩
   have HU:=s2 _ _ pB
   have tt:Am H2 (upd H2 W (.lst (zs ++ [.ref p]))):=Am.lst HU
   refine hQ _ _ HU (C6 (by omega)) ⟨by rw [List.length_append,List.length_singleton]; omega,pE.snoc ((Am.of s2).trans tt) ze (tt _ _ ?_),A5,(s'.trans s2).new hW⟩
   have eo:(Au ws ls cm n who).getD i none = o:=by rw [List.getD_eq_getElem?_getD,ho]; rfl
   show H2 p = some (.tup [.int (told tv ((Au ws ls cm n who).getD i none)).1,.int (told tv ((Au ws ls cm n who).getD i none)).2])
   rw [eo]
   exact e2
  rintro zs H2 ⟨ze,pE,HU,s2⟩
  have NV:zs.length = (Au ws ls cm n who).length:=by omega
  have eM:=s1.trans s2
  have kT:0 < (Au ws ls cm n who).length:=by
   unfold Au
   simp
  refine ⟨W,_,_,rfl,Bj.of HU,pE.rp NV,by omega,Sx _ _,Sm _ _,fun v hv=>?_⟩
  obtain ⟨p,e1,e2⟩ := pE _ v hv
  subst e1
  refine q p H2 eM ?_
  rw [e2]
  have key:told tv ((Au ws ls cm n who).getD (Jk ((List.range (Au ws ls cm n who).length).map fun i=>wd (told tv ((Au ws ls cm n who).getD i none)))) none) = Hs tv ws ls cm n who:=by
   by_cases hm:Hd cm n = true
   ·have eb : Au ws ls cm n who = [Co ws ls cm n who false, Co ws ls cm n who true] := by
     unfold Au
     rw [if_pos hm]
    rw [eb]
    unfold Hs Zv
    rw [if_pos hm]
    have el2:Jk ((List.range [Co ws ls cm n who false,Co ws ls cm n who true].length).map fun i=>wd (told tv ([Co ws ls cm n who false,Co ws ls cm n who true].getD i none))) = if Gb (told tv (Co ws ls cm n who false)) (told tv (Co ws ls cm n who true)) = true then 1 else 0:=by
     rw [<- dq]
     unfold Jk
     rw [show ((List.range [Co ws ls cm n who false,Co ws ls cm n who true].length).map fun i=>wd (told tv ([Co ws ls cm n who false,Co ws ls cm n who true].getD i none))).length - 1 = 0 + 1 from rfl,Db]
     rfl
    rw [el2]
    by_cases y:Gb (told tv (Co ws ls cm n who false)) (told tv (Co ws ls cm n who true)) = true
    ·rw [if_pos y,if_pos y]
     rfl
    ·rw [if_neg y,if_neg y]
     rfl
   ·have eb : Au ws ls cm n who = [Co ws ls cm n who false] := by
     unfold Au
     rw [if_neg hm]
    rw [eb]
    unfold Hs
    rw [if_neg hm]
    rfl
  rw [<- key]
def Rs (K:PySem.W.Frag):Sp:=fun vs H Q _=>fm fun (a TB b:Addr) (ws ls:List Int) (cm:Option Int) (q:Int) (tv:List ((List Int × Int) × V))=>P8 (vs = [.ref a,.ref TB,.ref b]) (B6 H a ws cm) (Ea H b ls q) (H TB = some (.dT tv)) (Y6 tv) (0 < ws.length) (ls.length = ws.length) (ws.length <= 8) ((∀ x ∈ ws,1 <= x)) (∀ (j:Nat) (H':Hp),A9 H H' -> Dk (fun i=>Hs tv ws ls cm q i) ws.length j -> Q (.int (j:Int)) H')
theorem ae {fd nC:FuncData} (T:Txt K mg ad aA aD aI aB aJ aK aO aE aF aG aL aC) (F:F8 K "best_call" "best_call" Km ad.cP fd) (nD:Ai P w K mg base (B8 P w) 6 ad.cO nC ["hall","table","standing","who"] (Qx K)) (nF:Aw K nC ["hall","table","standing","who"] []):Ai P w K mg base (B8 P w) 7 ad.cP fd ["hall","table","standing"] (Rs K):=by
 refine F.okN Ws (fun vs H Q E h=>?_) (fun aV A outer s H vs Q E hr h=>?_)
 ·rcases h with ⟨a,TB,b,ws,ls,cm,n,tv,rfl,ha,hb,hT,pG,uV,hl,h8,dH,q⟩ <;> rfl
 ·obtain ⟨a,TB,b,ws,ls,cm,n,tv,rfl,ha,hb,hT,pG,uV,hl,h8,dH,q⟩ := h
  refine ⟨_,(A8 (Ep (i:=3) Ws.nd rfl (E8 (by rfl) T.cJ (A0 (Bt (Cy K) (by rfl) T.fF PySem.boot_len (A0 (Cm (Cn K) (pv 0) Ac (fun _ _=>rfl)) A7)) A7)) _ rfl Ko rfl rfl (fun _ _ _ _=>(Av (i:=0) Jx rfl (Or.inl rfl))) (fun _ _ _ _=>D3) (fun _ _ _ _=>(Ag nD (hr.mono (by decide)) rfl T.AD T.k_x13 nF .nil Az (A0 (pv 1) (A0 (pv 2) (A0 (pv 3) (A0 (pv 0) A7)))))) rfl rfl) (Ab (Ax (Gg (u':=Yf K _ _ _ _) (J5 PySem.F.plainAttrs_list PySem.F.slot_list_index PySem.F.type_list_index (Uq hr) (pv 3) (A0 (Bt (Tw K hr rfl) (by rfl) T.rN boot_max (A0 (pv 3) A7)) A7)))))),?_⟩
  obtain ⟨wt,cY,dW⟩ := id ha
  refine ⟨_,rfl,a,_,_,_,rfl,rfl,.inr (Ci.of cY),rfl,wt,_,rfl,.inr (Ci.of dW),_,rfl,by omega,by rw [List.length_map]; omega,fun D hD=>?_⟩
  refine Et (cnt:=((ws.map V.int).length:Int).toNat) (fun j ys H'=>ys.length = j /\ Qw H' (fun i=>Hs tv ws ls cm n i) ys /\ H' D = some (.lst ys) /\ A9 H H') ⟨rfl,(fun i u h=>by simp at h),A5,A9.upd hD⟩ ?_ ?_
  ·rintro j ys H5 hj ⟨NW,BR,mU,s5⟩ Qe hQ
   rw [List.length_map] at hj
   have LA:j < ws.length:=by omega
   refine ⟨_,rfl,_,rfl,_,rfl,_,rfl,a,TB,b,ws,ls,cm,n,_,j,tv,rfl,Int.zero_add _,ha.same s5,hb.same s5,s5 _ _ hT,pG,LA,hl,h8,dH,fun p2 H6 s6 e6=>?_⟩
   have hD6:=s6 _ _ mU
   have tt:Am H6 (upd H6 D (.lst (ys ++ [.ref p2]))):=Am.lst hD6
   exact hQ _ _ hD6 (C6 (by omega)) ⟨by rw [List.length_append,List.length_singleton]; omega,BR.snoc ((Am.of s6).trans tt) NW (tt _ _ e6),A5,(s5.trans s6).new hD⟩
  rintro ys H5 ⟨NW,BR,mU,s5⟩
  have BS:ys.length = ws.length:=by
   rw [NW,List.length_map]
   omega
  refine ⟨_,rfl,.inl ⟨rfl,_,Bj.of mU⟩,_,rfl,D,_,_,rfl,Bj.of mU,BR.rp BS,by omega,Sx _ _,Sm _ _,fun vb lR=>?_⟩
  obtain ⟨pb,HV,NX⟩ := BR _ vb lR
  subst HV
  obtain ⟨j,j1,j2,j3⟩ := ja (Pr:=fun m=>Hs tv ws ls cm n m = Hs tv ws ls cm n (D2 ((List.range ws.length).map fun i=>wd (Hs tv ws ls cm n i)))) _ rfl
  have hbi:Dk (fun i=>Hs tv ws ls cm n i) ws.length j:=Dk.of uV j1 j2 j3
  refine ⟨D,ys,_,wd (Hs tv ws ls cm n (D2 ((List.range ws.length).map fun i=>wd (Hs tv ws ls cm n i)))),_,j,rfl,rfl,Bj.of mU,Zi NX,BR.rp BS,P5 _,⟨_,Y0 _ hbi.1,by rw [Wo]; exact decide_eq_true j2⟩,(fun m e hm he=>by rw [X9 he,Wo]; exact decide_eq_false (j3 m hm)),?_⟩
  exact q j H5 s5 hbi
def Vw (K:PySem.W.Frag):Sp:=fun vs H Q _=>Xh fun (x0 x1 x2 x3:V)=>vs = [x0,x1,x2,x3] /\ False
theorem jp {fd fG bH cD:FuncData} (T:Txt K mg ad aA aD aI aB aJ aK aO aE aF aG aL aC) (F:F8 K "worst_answer" "worst_answer" Tp ad.fZ fd) (fH:Ai P w K mg base (B8 P w) 1 ad.cA fG ["table","behind"] (Nk K)) (fI:Aw K fG ["table","behind"] []) (cE:Ai P w K mg base (B8 P w) 4 ad.bO bH ["hall","standing","who","lost"] (Kl K)) (dN:Aw K bH ["hall","standing","who","lost"] []) (aZ:Aw K bH ["hall","standing","who","lost"] [Value.bool false]) (dJ:Ai P w K mg base (B8 P w) 1 ad.bS cD ["hall","standing"] (Kg K)) (dM:Aw K cD ["hall","standing"] []):Ai P w K mg base (B8 P w) 5 ad.fZ fd ["hall","table","standing","who"] (Vw K):=by
 refine F.okN Zr (fun vs H Q E h=>?_) (fun aV A outer s H vs Q E hr h=>?_)
 ·rcases h with ⟨x0,x1,x2,x3,rfl,h⟩ <;> rfl
 ·obtain ⟨x0,x1,x2,x3,rfl,h⟩ := h
  refine ⟨_,(A8 (Ar (i:=4) Zr.nd rfl (Or.inl rfl) (Ag fH (hr.mono (by decide)) rfl T.mC T.k_x26 fI .nil Az (A0 (pv 1) (A0 (Um (Ag cE (hr.mono (by decide)) rfl T.iH T.k_x24 aZ (Hb) Az (A0 (pv 0) (A0 (pv 2) (A0 (pv 3) A7))))) A7)))) (A8 (Eh (Ih (Fn (Ag dJ (hr.mono (by decide)) rfl T.lZ T.k_x19 dM .nil Az (A0 (pv 0) (A0 (pv 2) A7))))) (Ab (Ax Mv)) B9) (Ab (Ax (Du (f8 hr) (Ag fH (hr.mono (by decide)) rfl T.mC T.k_x26 fI .nil Az (A0 (pv 1) (A0 (Um (Ag cE (hr.mono (by decide)) rfl T.iH T.k_x24 dN .nil Az (A0 (pv 0) (A0 (pv 2) (A0 (pv 3) (A0 Mv A7)))))) A7))) (pv 4) (C8 _)))))),?_⟩
  exact h.elim
def O5 (K:PySem.W.Frag) (aA:Addr):Sp:=fun vs H Q E=>(Mb fun (a:Addr) (ws:List Int) (cm:Option Int)=>Kc (vs = [.ref a]) (B6 H a ws cm) (Jt ws cm) ((∀ (tv:List ((List Int × Int) × V)) (H':Hp),A9 H H' -> Cv ws cm tv -> (tv.map (·.1)).Nodup -> (Af tv (ws,0)).isSome = true -> Q .aW H')) (∀ (p:Addr) (us:List V) (ps tv:List ((List Int × Int) × V)) (H':Hp),A9 H H' -> H p = none -> H' p = some (.lst us) -> Cv ws cm tv -> (tv.map (·.1)).Nodup -> Af tv (ws,0) = none -> Oy ws cm tv ps -> Ah (Qk H') ps us -> Q (.ref p) H')) \/ (Mb fun (a:Addr) (ws:List Int) (cm:Option Int)=>K7 (vs = [.ref a]) (B6 H a ws cm) ((∀ w ∈ ws,intBits w <= 256)) (intBits (qv cm) <= 256) (ws.length <= 8) (3000 < Ad (qv cm) ws) (∀ H2,A9 H H2 -> E (.ref aA) none H2))
theorem f7 {fd fJ fK nG cF:FuncData} (T:Txt K mg ad aA aD aI aB aJ aK aO aE aF aG aL aC) (F:F8 K "kept_paper" "kept_paper" Me ad.cB fd) (gK:Ai P w K mg base (B8 P w) 7 ad.bZ fJ ["hall"] (Nl K aA)) (gL:Aw K fJ ["hall"] []) (eP:Ai P w K mg base (B8 P w) 1 ad.bX fK ["hall"] (Oc K)) (eQ:Aw K fK ["hall"] []) (nH:Ai P w K mg base (B8 P w) 7 ad.cP nG ["hall","table","standing"] (Rs K)) (nI:Aw K nG ["hall","table","standing"] []) (dQ:Ai P w K mg base (B8 P w) 5 ad.bT cF ["hall","standing","who"] (Ki K)) (dR:Aw K cF ["hall","standing","who"] []):Ai P w K mg base (B8 P w) 8 ad.cB fd ["hall"] (O5 K aA):=by
 refine F.qY K1 (fun vs H Q E h=>?_) (fun aV A outer s H vs Q E hr h=>?_)
 ·rcases h with ⟨a,ws,cm,rfl,ha,aR,q0,q⟩ | ⟨a,ws,cm,rfl,_,_,_,_,_,_⟩ <;> rfl
 ·obtain h:=h
  refine ⟨_,(A8 (Ar (i:=1) K1.nd rfl (Or.inl rfl) (Ej gK (hr.mono (by decide)) rfl T.rK T.k_x25 gL .nil Te (A0 (pv 0) A7))) (A8 (Eh (Hy (Qu (F7 hr) (Ag eP (hr.mono (by decide)) rfl T.jV T.k_x15 eQ .nil Az (A0 (pv 0) A7)) (pv 1)) rfl) (Ab (Ax Dd)) B9) (A8 (Ar (i:=2) K1.nd rfl (Or.inl rfl) Fc) (A8 (Ar (i:=3) K1.nd rfl (Or.inl rfl) (D9 (A0 (Ag eP (hr.mono (by decide)) rfl T.jV T.k_x15 eQ .nil Az (A0 (pv 0) A7)) A7))) (A8 (Kn Qp (Kj (pv 3) (by intro _; rfl)) (A8 (Ar (i:=4) K1.nd rfl (Or.inl rfl) (Gg (u':=c9 K _ _ _) (Rr PySem.F.plainAttrs_list PySem.F.slot_list_pop PySem.F.type_list_pop Vf (pv 3)))) (Ab (Df (Hy (Hu (F7 hr) (pv 4) (pv 2)) rfl) (A8 (Ho (F7 hr) (pv 2) (pv 4) (Ag nH (hr.mono (by decide)) rfl T.AE T.k_x17 nI .nil Az (A0 (pv 0) (A0 (pv 1) (A0 (pv 4) A7)))) rfl) (Ab (Cq (Gg (u':=Yf K _ _ _ _) (J5 PySem.F.plainAttrs_list PySem.F.slot_list_extend PySem.F.type_list_extend Fw (pv 3) (A0 (Ag dQ (hr.mono (by decide)) rfl T.mB T.k_x12 dR .nil Az (A0 (pv 0) (A0 (pv 4) (A0 (Hj (F7 hr) (pv 2) (pv 4) (fun _ _=>rfl)) A7)))) A7)))))) B9)))) (Ab (Ax (Bt (Rv hr rfl) (by rfl) T.iI boot_sorted (A0 (Rr PySem.F.plainAttrs_dict PySem.F.slot_dict_items PySem.F.type_dict_items Ue (pv 2)) A7))))))))),?_⟩
  rcases h with ⟨a,ws,cm,rfl,ha,aR,q0,q⟩ | ⟨a,ws,cm,rfl,ha,hb,eV,cX,hp,he⟩
  ·obtain ⟨wt,cY,dW⟩ := id ha
   have hq:=aR.qv
   have dH:∀ x ∈ ws,1 <= x:=fun x hx=>(aR.1 x hx).1
   have h8:=aR.2.2.2.1
   have uV:=aR.2.2.1
   refine ⟨_,rfl,E,fun _ _ _ z=>z,.inl ⟨a,ws,cm,rfl,ha,(fun w hw=>(aR.1 w hw).1),hq.1,(fun w hw=>Fg (by have:=aR.1 w hw; omega) (aR.1 w hw).2),Fg (by omega) hq.2,aR.2.2.2.1,(by have:=aR.2.2.2.2; omega),fun TB tv H1 hTB s1 zl rQ zc htl=>?_⟩⟩
   have pG:Y6 tv:=fun k v hv=>by
    obtain ⟨m,e,_⟩ := rQ.1 k v hv
    exact ⟨m,e⟩
   refine ⟨_,rfl,a,ws,cm,rfl,ha.same s1,fun b0 H2 s2 za=>?_⟩
   have eM:=s1.trans s2
   refine ⟨_,rfl,TB,_,rfl,D8.t (s2 _ _ zl) (show F4 H2 b0 (ws,0) from za),_,rfl,?_⟩
   refine Oe (fun h=>q0 tv H2 eM rQ zc h) (fun hnv=>?_)
   have hv0:Af tv (ws,0) = none:=by
    cases e:Af tv (ws,0) with
    | none=>rfl
    | some v=>rw [e] at hnv; exact absurd rfl hnv
   have NY:Sf ws cm tv (ws,0):=⟨Q7 rfl (fun i hi=>⟨dH _ (by rw [List.getD_eq_getElem?_getD,List.getElem?_eq_getElem hi]; exact List.getElem_mem hi),Int.le_refl _⟩) (Int.le_refl _) (by have:=hq.1; show (0:Int) < qv cm; omega),hv0,.base⟩
   refine fun C hC=>?_
   have s3:A9 H2 (upd H2 C (.dT [])):=A9.upd hC
   have e3:(upd H2 C (.dT [])) C = some (.dT []):=A5
   generalize upd H2 C (.dT []) = H3 at s3 e3 ⊢
   refine ⟨_,rfl,a,ws,cm,rfl,(ha.same eM).same s3,fun b1 H4 s4 kT=>?_⟩
   refine ⟨Bf,fun L hL=>?_⟩
   have s5:A9 H4 (upd H4 L (.lst [.ref b1])):=A9.upd hL
   have e5:(upd H4 L (.lst [.ref b1])) L = some (.lst [.ref b1]):=A5
   generalize upd H4 L (.lst [.ref b1]) = H5 at s5 e5 ⊢
   have hC2:H2 C = none:=hC
   have NZ:H2 L = none:=by
    cases e:H2 L with
    | none=>rfl
    | some o=>rw [s4 _ _ (s3 _ _ e)] at hL; cases hL
   have s25:A9 H2 H5:=(s3.trans s4).trans s5
   obtain ⟨bu,OA,OB⟩ := kT.same s5
   dsimp only
   refine nt ?_
   refine ml ?_
   refine Pt (fun σ' H'=>Xh fun (es:List V) (E:List (List Int × Int)) (cv:List ((List Int × Int) × V)) (v4:Option V)=>K7 (σ' = [some (.ref a),some (.ref TB),some (.ref C),some (.ref L),v4]) (A9 H2 H') (H' L = some (.lst es)) (Ah (Ga H') E es) (H' C = some (.dT cv)) (Oh ws cm tv cv E) (E.length <= 2 * cv.length + 1))
    (fun _ H'=>3 * (3001 - Mr (H' C)) + Ts (H' L)) ⟨[.ref b1],[(ws,0)],[],none,rfl,s25,e5,Ah.one ⟨b1,bu,rfl,OA,OB⟩,s5 _ _ (s4 _ _ e3),Oh.start NY,by simp⟩ ?_ ?_
   ·rintro σ' H' ⟨es,E,cv,v4,rfl,s',zm,pR,zo,jC,hEl⟩
    have rY:=jC.len aR
    refine ⟨_,rfl,_,.inl ⟨_,Bj.of zm,rfl⟩,?_⟩
    refine Oe (fun dX=>?_) (fun jH=>?_)
    ·have OC : 0 < es.length := by
      cases es with
      | nil=>exact absurd dX (by decide)
      | cons x xs=>simp
     have hel:=pR.1
     obtain ⟨y,hy⟩ := Yc OC
     refine ⟨_,rfl,.inl ⟨rfl,_,Bj.of zm⟩,L,es,y,rfl,rfl,zm,hy,?_⟩
     obtain ⟨k,NO,b,b2,rfl,OD,OE⟩ := pR.get hy
     have eE:E = E.take (es.length - 1) ++ [k]:=by
      have h1:=List.take_append_drop (es.length - 1) E
      have h2:E.drop (es.length - 1) = [k]:=by
       rw [List.drop_eq_getElem_cons (by omega),(List.getElem?_eq_some_iff.mp NO).2,List.drop_of_length_le (by omega)]
      rw [h2] at h1
      exact h1.symm
     have OF:C ≠ L:=Bh zo zm (by intro z; cases z)
     have hTL:TB ≠ L:=fun z=>by rw [z] at zl; exact absurd (s2 _ _ zl) (by rw [NZ]; exact fun h=>nomatch h)
     have t4:Am H' (upd H' L (.lst es.dropLast)):=Am.lst zm
     have HW:(upd H' L (.lst es.dropLast)) L = some (.lst es.dropLast):=A5
     have BU:(upd H' L (.lst es.dropLast)) C = some (.dT cv):=(Aa OF).trans zo
     have BV:A9 H2 (upd H' L (.lst es.dropLast)):=s'.new NZ
     generalize upd H' L (.lst es.dropLast) = H6 at t4 HW BU BV ⊢
     have qN:Ea H6 b k.1 k.2:=⟨b2,t4 _ _ OD,t4 _ _ OE⟩
     have qO:Ah (Ga H6) (E.take (es.length - 1)) es.dropLast:=by
      rw [List.dropLast_eq_take]
      exact (pR.imp (fun _ _ y=>Ga.up t4 y)).take _
     have hl6:(E.take (es.length - 1)).length = E.length - 1:=by rw [List.length_take]; omega
     rw [eE] at jC
     generalize E.take (es.length - 1) = E0 at jC qO hl6 eE
     have hm0:Ts (H' L) = es.length:=by rw [zm]; rfl
     have oW:Mr (H' C) = cv.length:=by rw [zo]; rfl
     refine ⟨_,rfl,_,rfl,C,_,rfl,D8.t BU (show F4 H6 b k from qN),_,rfl,(fun σ'' H7=>Xh fun (es:List V) (E:List (List Int × Int)) (OG:List ((List Int × Int) × V)) (v4:Option V)=>Z6 (σ'' = [some (.ref a),some (.ref TB),some (.ref C),some (.ref L),v4]) (A9 H2 H7) (H7 L = some (.lst es)) (Ah (Ga H7) E es) (H7 C = some (.dT OG)) (Oh ws cm tv OG E) (E.length <= 2 * OG.length + 1) (3 * (3001 - Mr (H7 C)) + Ts (H7 L) < 3 * (3001 - Mr (H' C)) + Ts (H' L))),fun h=>?_,fun h=>?_,?_⟩
     ·have hvn : Af cv k = none := by
       cases e:Af cv k with
       | none=>rfl
       | some v=>rw [e] at h; cases h
      have BW:Sf ws cm tv k:=jC.sf k (by simp)
      have lH:k.1.length = ws.length:=(Fq BW.1).1
      refine ⟨_,rfl,_,rfl,_,rfl,a,TB,b,ws,k.1,cm,k.2,tv,rfl,(ha.same eM).same BV,qN,BV _ _ (s2 _ _ zl),pG,uV,lH,h8,dH,fun j H7 s7 cT=>?_⟩
      have hC7:=s7 _ _ BU
      have hL7:=s7 _ _ HW
      refine ⟨_,rfl,_,rfl,C,_,rfl,Ll.t hC7 (show F4 H7 b k from qN.same s7) (Cb (by omega)),?_⟩
      have JD:L ≠ C:=fun z=>OF z.symm
      have k8:∀ b o,b ≠ C -> H7 b = some o -> (upd H7 C (.dT (Bc cv k (.int (j:Int))))) b = some o:=fun b o n e=>(Aa n).trans e
      have OH:(upd H7 C (.dT (Bc cv k (.int (j:Int))))) C = some (.dT (Bc cv k (.int (j:Int)))):=A5
      generalize upd H7 C (.dT (Bc cv k (.int (j:Int)))) = H8 at k8 OH ⊢
      have t8:Am H7 H8:=fun b xs e=>k8 b _ (Bh e hC7 (by intro z; cases z)) e
      have s8:A9 H2 H8:=fun b o e=>k8 b o (Aj e hC2) (s7 _ _ (BV _ _ e))
      have hL8:=k8 _ _ JD hL7
      have BX:Ea H8 b k.1 k.2:=(qN.same s7).up t8
      have ev:Af (Bc cv k (.int (j:Int))) k = some (.int (j:Int)):=by rw [Fm,if_pos rfl]
      refine ⟨_,rfl,.inl ⟨rfl,_,Bj.of hL8⟩,_,rfl,_,rfl,_,rfl,_,rfl,C,.int (j:Int),rfl,(by rw [<- ev]; exact D8.t OH (show F4 H8 b k from BX)),a,b,ws,k.1,cm,k.2,(j:Int),j,rfl,rfl,(ha.same eM).same s8,BX,cT.1,lH,h8,fun l us H9 hl9 s9 el9 hall=>?_⟩
      obtain ⟨Eb,HV,NX,eb3⟩ := Xz rQ aR BW cT
      rw [HV] at hall
      have iO:=Wt hall
      have hL9:=s9 _ _ hL8
      have hel6:=qO.1
      have hul:=iO.1
      refine ⟨L,l,es.dropLast,us,rfl,rfl,hL9,el9,Nat.le_of_lt (Cb (by omega)),?_⟩
      have sC:Am H9 (upd H9 L (.lst (es.dropLast ++ us))):=Am.lst hL9
      have BZ:(upd H9 L (.lst (es.dropLast ++ us))) C = some (.dT (Bc cv k (.int (j:Int)))):=(Aa OF).trans (s9 _ _ OH)
      have kE:(Bc cv k (.int (j:Int))).length = cv.length + 1:=by rw [De _ hvn,List.length_append,List.length_singleton]
      refine ⟨es.dropLast ++ us,E0 ++ Eb,Bc cv k (.int (j:Int)),_,rfl,(s8.trans s9).new NZ,A5,((qO.imp fun _ _ y=>Ga.up (((Am.of s7).trans t8).trans ((Am.of s9).trans sC)) y).append (iO.imp fun _ _ y=>Ga.up sC y)),BZ,jC.put hvn cT HV NX,?_,?_⟩
      ·rw [List.length_append,kE,hl6]
       omega
      ·have m1:Ts ((upd H9 L (.lst (es.dropLast ++ us))) L) = (es.dropLast ++ us).length:=by rw [A5]; rfl
       have m2:Mr ((upd H9 L (.lst (es.dropLast ++ us))) C) = cv.length + 1:=by rw [BZ]; exact kE
       rw [m1,m2,hm0,oW,List.length_append,List.length_dropLast]
       omega
     ·have lG : k ∈ cv.map (·.1) := by
       cases e:Af cv k with
       | none=>rw [e] at h; cases h
       | some v=>exact Yr e
      refine ⟨es.dropLast,E0,cv,_,rfl,BV,HW,qO,BU,jC.skip lG,by omega,?_⟩
      have m1:Ts (H6 L) = es.dropLast.length:=by rw [HW]; rfl
      have m2:Mr (H6 C) = cv.length:=by rw [BU]; rfl
      rw [m1,m2,hm0,oW,List.length_dropLast]
      omega
     ·rintro σ'' H7 ⟨es7,E7,cv7,v47,rfl,a1,a2,a3,a4,a5,a6,a7⟩
      exact ⟨⟨es7,E7,cv7,v47,rfl,a1,a2,a3,a4,a5,a6⟩,a7⟩
    ·have OI : es = [] := by
      cases es with
      | nil=>rfl
      | cons x xs=>exact absurd rfl jH
     have hE1:E = []:=by
      have h1:=pR.1
      rw [OI] at h1
      exact List.length_eq_zero_iff.mp h1.symm
     subst hE1
     refine ⟨_,rfl,.inr (.inr (.inl ⟨rfl,.inr ⟨cv,zo⟩⟩)),C,cv,rfl,rfl,zo,fun vw hvw=>?_⟩
     have sV:A9 H' (upd H' vw (Pm vw C)):=A9.upd hvw
     refine ⟨vw,C,cv,Dx,(fun kv=>(B0 ws (qv cm)).idxOf kv.1),rfl,A5,sV _ _ zo,(fun kv aS=>?_),Qy jC,fun p us ps H9 s9 hp e9 fB lX CA=>?_⟩
     ·obtain ⟨_,j,ej,_⟩ := jC.ent kv aS
      have e:Dx kv = .int j:=by unfold Dx; rw [ej]
      rw [e,ej]
      exact ⟨Kk _,by show 0 <= 40; omega⟩
     ·have hpH : H p = none := by
       cases e:H p with
       | none=>rfl
       | some o=>rw [sV _ _ (s' _ _ (eM _ _ e))] at hp; cases hp
      exact q p us ps tv H9 (((eM.trans s').trans sV).trans s9) hpH e9 rQ zc hv0 (Yd jC fB lX) (Jy CA)
   ·intro σ H0 Q1 Q2 z h1
    obtain ⟨_,e,k,t,h2⟩ := h1
    exact ⟨_,e,k,t,z _ _ h2⟩
  ·exact ⟨_,rfl,E,fun _ _ _ z=>z,.inr ⟨a,ws,cm,rfl,ha,hb,eV,cX,hp,he⟩⟩
def Rt (K:PySem.W.Frag):Sp:=fun vs H Q _=>Mb fun (x0 x1 x2:V)=>vs = [x0,x1,x2] /\ False
theorem a9 {fd sO:FuncData} (T:Txt K mg ad aA aD aI aB aJ aK aO aE aF aG aL aC) (F:F8 K "all_answers" "all_answers" Kh ad.cQ fd) (vL:Ai P w K mg base (B8 P w) 5 ad.fZ sO ["hall","table","standing","who"] (Vw K)) (vM:Aw K sO ["hall","table","standing","who"] []):Ai P w K mg base (B8 P w) 6 ad.cQ fd ["hall","table","standing"] (Rt K):=by
 refine F.okN ar (fun vs H Q E h=>?_) (fun aV A outer s H vs Q E hr h=>?_)
 ·rcases h with ⟨x0,x1,x2,rfl,h⟩ <;> rfl
 ·obtain ⟨x0,x1,x2,rfl,h⟩ := h
  refine ⟨_,(Ab (Ax (G8 (Ij K) (by rfl) T.gR boot_tuple (A0 (Dr (E8 (by rfl) T.cJ (A0 (Bt (Cy K) (by rfl) T.fF PySem.boot_len (A0 (Cm (Cn K) (pv 0) Ac (fun _ _=>rfl)) A7)) A7)) _ rfl Id rfl rfl (fun _ _ _ _=>(Av (i:=0) Iq rfl (Or.inl rfl))) (fun _ _ _ _=>D3) (fun _ _ _ _=>(Ag vL (hr.mono (by decide)) rfl T.KS T.k_x6 vM .nil Az (A0 (pv 1) (A0 (pv 2) (A0 (pv 3) (A0 (pv 0) A7))))))) A7)))),?_⟩
  exact h.elim
def Vz (K:PySem.W.Frag):Sp:=fun vs H Q _=>Mb fun (x0 x1 x2:V)=>vs = [x0,x1,x2] /\ False
theorem gw {fd bH:FuncData} (T:Txt K mg ad aA aD aI aB aJ aK aO aE aF aG aL aC) (F:F8 K "unbroken_behind" "unbroken_behind" Ou ad.gA fd) (cE:Ai P w K mg base (B8 P w) 4 ad.bO bH ["hall","standing","who","lost"] (Kl K)) (dN:Aw K bH ["hall","standing","who","lost"] []) (aZ:Aw K bH ["hall","standing","who","lost"] [Value.bool false]):Ai P w K mg base (B8 P w) 5 ad.gA fd ["hall","standing","answers"] (Vz K):=by
 refine F.okN Zq (fun vs H Q E h=>?_) (fun aV A outer s H vs Q E hr h=>?_)
 ·rcases h with ⟨x0,x1,x2,rfl,h⟩ <;> rfl
 ·obtain ⟨x0,x1,x2,rfl,h⟩ := h
  refine ⟨_,(A8 (Ep (i:=3) Zq.nd rfl (Vj (by rfl) T.iJ (A0 (pv 2) A7)) _ rfl Fh rfl rfl (fun _ _ _ _=>(G7 K (n:=2) rfl (C5 (Av (i:=0) D7 rfl (Or.inl rfl)) (C5 (Av (i:=1) D7 rfl (Or.inl rfl)) Fz)))) (fun _ _ _ _=>D3) (fun _ _ _ _=>(Ag cE (hr.mono (by decide)) rfl T.iH T.k_x24 dN .nil Az (A0 (pv 2) (A0 (pv 3) (A0 (pv 0) (A0 (pv 1) A7)))))) rfl rfl) (Ab (Ax (Dr (Dp (w':=Qo K _) (Dq (pv 3))) _ rfl Fl rfl rfl (fun _ _ _ _=>(Av (i:=0) Fo rfl (Or.inl rfl))) (fun _ _ _ _=>(Ti (Ck Sz (pv 0) Dd (C8 _)))) (fun _ _ _ _=>(pv 0)))))),?_⟩
  exact h.elim
def Sc (K:PySem.W.Frag) (aA:Addr):Sp:=fun vs H Q E=>(Mb fun (a:Addr) (ws:List Int) (cm:Option Int)=>Kc (vs = [.ref a]) (B6 H a ws cm) (Jt ws cm) ((∀ tv,Cv ws cm tv -> Af tv (ws,0) = none)) (∀ H':Hp,A9 H H' -> Q .aW H')) \/ (Mb fun (a:Addr) (ws:List Int) (cm:Option Int)=>K7 (vs = [.ref a]) (B6 H a ws cm) ((∀ w ∈ ws,intBits w <= 256)) (intBits (qv cm) <= 256) (ws.length <= 8) (3000 < Ad (qv cm) ws) (∀ H2,A9 H H2 -> E (.ref aA) none H2))
theorem iz {fd fJ fK nJ sP:FuncData} (T:Txt K mg ad aA aD aI aB aJ aK aO aE aF aG aL aC) (F:F8 K "broken_paper" "broken_paper" Rj ad.fE fd) (gK:Ai P w K mg base (B8 P w) 7 ad.bZ fJ ["hall"] (Nl K aA)) (gL:Aw K fJ ["hall"] []) (eP:Ai P w K mg base (B8 P w) 1 ad.bX fK ["hall"] (Oc K)) (eQ:Aw K fK ["hall"] []) (nK:Ai P w K mg base (B8 P w) 6 ad.cQ nJ ["hall","table","standing"] (Rt K)) (nL:Aw K nJ ["hall","table","standing"] []) (vP:Ai P w K mg base (B8 P w) 5 ad.gA sP ["hall","standing","answers"] (Vz K)) (vQ:Aw K sP ["hall","standing","answers"] []):Ai P w K mg base (B8 P w) 8 ad.fE fd ["hall"] (Sc K aA):=by
 refine F.qY Q4 (fun vs H Q E h=>?_) (fun aV A outer s H vs Q E hr h=>?_)
 ·rcases h with ⟨a,ws,cm,rfl,ha,aR,lQ,q⟩ | ⟨a,ws,cm,rfl,_,_,_,_,_,_⟩ <;> rfl
 ·obtain h:=h
  refine ⟨_,(A8 (Ar (i:=1) Q4.nd rfl (Or.inr rfl) (Ej gK (hr.mono (by decide)) rfl T.rK T.k_x25 gL .nil Te (A0 (pv 0) A7))) (A8 (Eh (Hy (Hu (F7 hr) (Ag eP (hr.mono (by decide)) rfl T.jV T.k_x15 eQ .nil Az (A0 (pv 0) A7)) (pv 1)) rfl) (Ab (Ax Dd)) B9) (A8 (Ar (i:=2) Q4.nd rfl (Or.inl rfl) Fc) (A8 (Ar (i:=3) Q4.nd rfl (Or.inl rfl) (D9 (A0 (Ag eP (hr.mono (by decide)) rfl T.jV T.k_x15 eQ .nil Az (A0 (pv 0) A7)) A7))) (A8 (Kn Qp (Kj (pv 3) (by intro _; rfl)) (A8 (Ar (i:=4) Q4.nd rfl (Or.inl rfl) (Gg (u':=c9 K _ _ _) (Rr PySem.F.plainAttrs_list PySem.F.slot_list_pop PySem.F.type_list_pop Vf (pv 3)))) (Ab (Df (Hy (Hu (F7 hr) (pv 4) (pv 2)) rfl) (A8 (Ho (F7 hr) (pv 2) (pv 4) (Ag nK (hr.mono (by decide)) rfl T.AF T.k_x10 nL .nil Az (A0 (pv 0) (A0 (pv 1) (A0 (pv 4) A7)))) rfl) (Ab (Cq (Gg (u':=Yf K _ _ _ _) (J5 PySem.F.plainAttrs_list PySem.F.slot_list_extend PySem.F.type_list_extend Fw (pv 3) (A0 (Ag vP (hr.mono (by decide)) rfl T.KU T.k_x3 vQ .nil Az (A0 (pv 0) (A0 (pv 4) (A0 (Hj (F7 hr) (pv 2) (pv 4) (fun _ _=>rfl)) A7)))) A7)))))) B9)))) (Ab (Ax (Bt (O7 hr) (by rfl) T.iI boot_sorted (A0 (Xs (Dr (Hh (pv 2)) _ rfl Gz rfl rfl (fun _ _ _ _=>(G7 K (n:=2) rfl (C5 (Av (i:=0) Dw rfl (Or.inl rfl)) (C5 (Av (i:=1) Dw rfl (Or.inl rfl)) Fz)))) (fun _ _ _ _=>D3) (fun _ _ _ _=>(Bl (A0 (pv 0) (A0 (Hj (F7 hr) (pv 2) (pv 0) (fun _ _=>rfl)) (A0 (pv 1) A7))))))) A7))))))))),?_⟩
  rcases h with ⟨a,ws,cm,rfl,ha,aR,lQ,q⟩ | ⟨a,ws,cm,rfl,ha,hb,eV,cX,hp,he⟩
  ·have hq:=aR.qv
   refine ⟨_,rfl,E,fun _ _ _ z=>z,.inl ⟨a,ws,cm,rfl,ha,(fun w hw=>(aR.1 w hw).1),hq.1,(fun w hw=>Fg (by have:=aR.1 w hw; omega) (aR.1 w hw).2),Fg (by omega) hq.2,aR.2.2.2.1,(by have:=aR.2.2.2.2; omega),fun TB tv H1 hTB s1 zl rQ zc htl=>?_⟩⟩
   refine ⟨_,rfl,a,ws,cm,rfl,ha.same s1,fun b0 H2 s2 za=>?_⟩
   refine ⟨_,rfl,TB,_,rfl,D8.t (s2 _ _ zl) (show F4 H2 b0 (ws,0) from za),_,rfl,Ps (by rw [lQ tv rQ]; rfl) (q _ (s1.trans s2))⟩
  ·exact ⟨_,rfl,E,fun _ _ _ z=>z,.inr ⟨a,ws,cm,rfl,ha,hb,eV,cX,hp,he⟩⟩
def O8 (K:PySem.W.Frag):Sp:=fun vs H Q _=>Mb fun (a:Addr) (ns:List Int) (k:Int)=>Wv (vs = [.ref a,.int k]) (Bj K H a (ns.map V.int)) (0 <= k) (Q (.int (Bm ns k)) H)
theorem cf {fd  : FuncData} (T:Txt K mg ad aA aD aI aB aJ aK aO aE aF aG aL aC) (F:F8 K "_law_cell" "_law_cell" Mj ad.cC fd):Ai P w K mg base (B8 P w) 1 ad.cC fd ["script","k"] (O8 K):=by
 refine F.okN et (fun vs H Q E h=>?_) (fun aV A outer s H vs Q E hr h=>?_)
 ·rcases h with ⟨a,ns,k,rfl,hS,hk,q⟩ <;> rfl
 ·obtain ⟨a,ns,k,rfl,hS,hk,q⟩ := h
  refine ⟨_,(A8 (Eh (Ck Sg (pv 1) (Bt (Cy K) (by rfl) T.fF PySem.boot_len (A0 (pv 0) A7)) (C8 _)) (Ab (Ax (Cm (Cn K) (pv 0) (pv 1) (fun _ _=>rfl)))) B9) (Ab (Ax Ac))),?_⟩
  refine ⟨_,rfl,_,rfl,a,_,rfl,.inl hS,_,_,rfl,rfl,_,rfl,?_⟩
  refine Oe (fun aX=>?_) (fun aX=>?_)
  ·have vR:k < ns.length:=by simpa using aX
   exact ⟨_,rfl,_,rfl,a,_,_,_,rfl,rfl,.inl hS,Z1 hk vR,q⟩
  ·have vR:¬ k < ns.length:=by simpa using aX
   rw [Ul hk vR] at q
   exact q
def Ro (K:PySem.W.Frag):Sp:=fun vs H Q _=>Xh fun (a:Addr) (ws:List Int) (cm:Option Int) (kk:Bool)=>K7 (vs = [.ref a,.bl kk]) (B6 H a ws cm) ((∀ w ∈ ws,intBits w <= 256)) (intBits (qv cm) <= 256) (ws.length <= 8) (3000 < Ad (qv cm) ws) (∀ H',A9 H H' -> Q (.bl true) H')
theorem aw {fd fL iM:FuncData} (T:Txt K mg ad aA aD aI aB aJ aK aO aE aF aG aL aC) (F:F8 K "_law_refused" "_law_refused" N1 ad.cR fd) (gM:Ai P w K mg base (B8 P w) 8 ad.cB fL ["hall"] (O5 K aA)) (gN:Aw K fL ["hall"] []) (kZ:Ai P w K mg base (B8 P w) 8 ad.fE iM ["hall"] (Sc K aA)) (lA:Aw K iM ["hall"] []):Ai P w K mg base (B8 P w) 9 ad.cR fd ["hall","kept"] (Ro K):=by
 refine F.okN Og (fun vs H Q E h=>?_) (fun aV A outer s H vs Q E hr h=>?_)
 ·rcases h with ⟨a,ws,cm,kk,rfl,ha,hb,eV,cX,hp,q⟩ <;> rfl
 ·obtain ⟨a,ws,cm,kk,rfl,ha,hb,eV,cX,hp,q⟩ := h
  refine ⟨_,(A8 (Ar (i:=2) Og.nd rfl (Or.inl rfl) Mv) (A8 (dk (i:=3) rfl rfl (fun W pn R hp=>(Ab (Df (Fn (pv 1)) (Ab (Cq (Ej gM (hr.mono (by decide)) rfl T.rL T.k_x14 gN .nil hp (A0 (pv 0) A7)))) (Ab (Cq (Ej kZ (hr.mono (by decide)) rfl T.AG T.k_x7 lA .nil hp (A0 (pv 0) A7))))))) (.cons (by rfl) T.kO (by decide) T.b_NoChain T.s_TooMany_NoChain (fun _=>rfl) (.cons (by rfl) T.mD (by decide) T.b_NoHall T.s_TooMany_NoHall (fun _=>rfl) (.cons (by rfl) T.gT (by decide) T.b_NoListener T.s_TooMany_NoListener (fun _=>rfl) (.cons (by rfl) T.mE (by decide) T.b_NoLoss T.s_TooMany_NoLoss (fun _=>rfl) (.cons (by rfl) T.mF (by decide) T.b_NoPart T.s_TooMany_NoPart (fun _=>rfl) (.cons (by rfl) T.pZ (by decide) T.b_NoRow T.s_TooMany_NoRow (fun _=>rfl) (.cons (by rfl) T.kP (by decide) T.b_NoStand T.s_TooMany_NoStand (fun _=>rfl) (.cons (by rfl) T.kQ (by decide) T.b_NoWheel T.s_TooMany_NoWheel (fun _=>rfl) (.cons (by rfl) T.kR (by decide) T.b_TooMuch T.s_TooMany_TooMuch (fun _=>rfl) (.cons (by rfl) T.mG (by decide) T.b_Unsafe T.s_TooMany_Unsafe (fun _=>rfl) .nil)))))))))) (by decide) (by rfl) T.gI T.e_TooMany Og.nd rfl rfl (fun A=>(Ab (Ar (i:=2) Og.nd rfl (Or.inl rfl) (Nu (Bt (Lx K) (by rfl) T.dG boot_isinstance (A0 (pv 3) (A0 (S8 (v := .ref aC) (by rfl) T.gU rfl) A7))) (Ni (Bt (Lx K) (by rfl) T.dG boot_isinstance (A0 (pv 3) (A0 (gq (by rfl) T.gS PyProof.Rows.Boot.«ValueError») A7))))))))) (Ab (Ax (pv 2))))),?_⟩
  refine ⟨_,rfl,_,rfl,(fun _ _=>False),fun _=>?_,fun _=>?_,fun _ _ z=>z.elim⟩
  ·refine ⟨_,rfl,(fun cls _ H2=>cls = .ref aA /\ A9 H H2),?_,.inr ⟨a,ws,cm,rfl,ha,hb,eV,cX,hp,fun H2 s2=>⟨rfl,s2⟩⟩⟩
   rintro cls H2 ⟨rfl,s2⟩
   refine ⟨rfl,fun x hx=>?_⟩
   refine ⟨_,rfl,x,_,_,_,rfl,hx,(fun _ z=>z),T.i_TooMany_RoundError,_,true,rfl,fun _ Q' z=>⟨_,rfl,x,_,_,_,rfl,hx,(fun _ z=>z),T.i_TooMany_ValueError,z⟩,?_⟩
   exact ⟨_,rfl,q H2 s2⟩
  ·refine ⟨_,rfl,(fun cls _ H2=>cls = .ref aA /\ A9 H H2),?_,.inr ⟨a,ws,cm,rfl,ha,hb,eV,cX,hp,fun H2 s2=>⟨rfl,s2⟩⟩⟩
   rintro cls H2 ⟨rfl,s2⟩
   refine ⟨rfl,fun x hx=>?_⟩
   refine ⟨_,rfl,x,_,_,_,rfl,hx,(fun _ z=>z),T.i_TooMany_RoundError,_,true,rfl,fun _ Q' z=>⟨_,rfl,x,_,_,_,rfl,hx,(fun _ z=>z),T.i_TooMany_ValueError,z⟩,?_⟩
   exact ⟨_,rfl,q H2 s2⟩
def Rz (K:PySem.W.Frag):Sp:=fun vs H Q _=>Yy fun (a:Addr) (ns:List Int)=>Wv (vs = [.ref a]) (Bj K H a (ns.map V.int)) (ns.length <= 63) (∀ (h:Addr) (ws:List Int) (cm:Option Int) (H':Hp),A9 H H' -> B6 H' h ws cm -> (∀ w ∈ ws,intBits w <= 256) -> intBits (qv cm) <= 256 -> ws.length <= 8 -> 3000 < Ad (qv cm) ws -> Q (.ref h) H')
theorem eh {fd fM:FuncData} (T:Txt K mg ad aA aD aI aB aJ aK aO aE aF aG aL aC) (F:F8 K "_law_grown" "_law_grown" L9 ad.cS fd) (bP:Ai P w K mg base (B8 P w) 1 ad.cC fM ["script","k"] (O8 K)) (bQ:Aw K fM ["script","k"] []):Ai P w K mg base (B8 P w) 2 ad.cS fd ["script"] (Rz K):=by
 refine F.okN Es (fun vs H Q E h=>?_) (fun aV A outer s H vs Q E hr h=>?_)
 ·rcases h with ⟨a,ns,rfl,hS,hlen,q⟩ <;> rfl
 ·obtain ⟨a,ns,rfl,hS,hlen,q⟩ := h
  refine ⟨_,(A8 (Ar (i:=1) Es.nd rfl (Or.inl rfl) (Be Vy (Dr (Dp (w':=Qo K _) (Dq (Xa (X6 K) (pv 0) (Tf Ac) (Tf Ac)))) _ rfl Jr rfl rfl (fun _ _ _ _=>(Av (i:=0) Jq rfl (Or.inl rfl))) (fun _ _ _ _=>D3) (fun _ _ _ _=>(Be Ew Ac (Be Dy (pv 0) Ac)))) (Be f9 (D9 (A0 (Be Ew Ac (Be Dy (Ag bP (hr.mono (by decide)) rfl T.dE T.k_x22 bQ .nil Az (A0 (pv 0) (A0 Ac A7))) Ac)) A7)) (G8 Uy (by rfl) T.AJ boot_int (A0 (Du Sg (Bt (Cy K) (by rfl) T.fF PySem.boot_len (A0 (pv 0) A7)) Ac (C8 _)) A7))))) (A8 (Ar (i:=2) Es.nd rfl (Or.inl rfl) Dd) (A8 (Ar (i:=3) Es.nd rfl (Or.inl rfl) Ac) (A8 (Df (Ck Wr (Be Dy (Ag bP (hr.mono (by decide)) rfl T.dE T.k_x22 bQ .nil Az (A0 (pv 0) (A0 Ac A7))) Ac) Ac (C8 _)) (A8 (Ar (i:=2) Es.nd rfl (Or.inl rfl) (Be Dy (Ag bP (hr.mono (by decide)) rfl T.dE T.k_x22 bQ .nil Az (A0 (pv 0) (A0 Ac A7))) Ac)) (Ab (Ar (i:=3) Es.nd rfl (Or.inl rfl) (Be Ew (pv 2) Ac)))) B9) (A8 (Cw PassesOwn.never rfl (Dp (w':=Qo K _) (Dq (pv 1))) (Av (i:=4) Es.nd rfl (Or.inl rfl)) (Ab (Ar (i:=3) Es.nd rfl (Or.inl rfl) (Be Jg (pv 3) (pv 4))))) (A8 (Ar (i:=5) Es.nd rfl (Or.inl rfl) (Be Dy (Ag bP (hr.mono (by decide)) rfl T.dE T.k_x22 bQ .nil Az (A0 (pv 0) (A0 Ac A7))) (Bt (Cy K) (by rfl) T.fF PySem.boot_len (A0 (pv 1) A7)))) (A8 (R9 (Be Jg (Cm (Cn K) (pv 1) (pv 5) (fun _ _=>rfl)) (Be Ew (Be Jo Ac (pv 3)) Ac)) (S4 (pv 1) (pv 5) Ka)) (A8 (Df (Ck Wy (Be Dy (Be Jo (Ag bP (hr.mono (by decide)) rfl T.dE T.k_x22 bQ .nil Az (A0 (pv 0) (A0 Ac A7))) Ac) Ac) Ac (C8 _)) (Ab (R9 (Be Jg (Cm (Cn K) (pv 1) (pv 5) (fun _ _=>rfl)) (Be Ew Ac (Be Dy (Be Jo (Ag bP (hr.mono (by decide)) rfl T.dE T.k_x22 bQ .nil Az (A0 (pv 0) (A0 Ac A7))) Ac) (Be af Ac Ac)))) (S4 (pv 1) (pv 5) Ka))) B9) (Ab (Ax (Bl (A0 (G8 (Ij K) (by rfl) T.gR boot_tuple (A0 (pv 1) A7)) (A0 (pv 2) A7))))))))))))),?_⟩
  have CB:(Us ns (some 3) (some 11)).length = min 11 ns.length - min 3 ns.length:=Vl ns 3 11
  refine ⟨_,rfl,_,rfl,_,rfl,a,_,rfl,hS,fun sl hsl=>?_⟩
  rw [U8]
  generalize Us ns (some 3) (some 11) = cs at CB ⊢
  have s1:A9 H (upd H sl (.lst (cs.map V.int))):=A9.upd hsl
  have e1:(upd H sl (.lst (cs.map V.int))) sl = some (.lst (cs.map V.int)):=A5
  generalize upd H sl (.lst (cs.map V.int)) = H1 at s1 e1 ⊢
  refine ⟨sl,rfl,.inl ⟨⟨_,Bj.of e1⟩,fun W hW=>?_⟩⟩
  refine N5 (K:=K) (a:=sl) (xs:=cs.map V.int) (fun i zs H'=>∃ (ws:List Int),Kc (zs = ws.map V.int) (ws.length = i) ((∀ w ∈ ws,1 <= w /\ w <= 5)) (H' W = some (.lst zs)) (A9 H1 H')) ⟨[],rfl,rfl,(fun w hw=>by cases hw),A5,A9.upd hW⟩ (by rintro i zs H' _ ⟨_,_,_,_,_,s⟩; exact Bj.of (s _ _ e1)) ?_ ?_
  ·rintro i y zs H' hy ⟨ws,rfl,qU,dH,pB,s'⟩ Qe hQ
   have hi:=(List.getElem?_eq_some_iff.mp hy).1
   rw [List.length_map] at hi
   rw [List.getElem?_map] at hy
   obtain ⟨x,hx,rfl⟩ := Option.map_eq_some_iff.mp hy
   have AU:=Bv x (show (0:Int) < 5 by decide)
   refine ⟨_,rfl,_,_,rfl,rfl,(by first | (show (0:Int) < _; decide) | simp),_,_,rfl,rfl,?_⟩
   refine hQ _ _ pB (C6 (by rw [List.length_map]; omega)) ⟨ws ++ [_],X5 _ _,Vk qU,?_,A5,s'.new hW⟩
   intro w hw
   rcases List.mem_append.mp hw with z | z
   ·exact dH w z
   ·rw [List.mem_singleton.mp z]
    show 1 <= 1 + x % 5 /\ 1 + x % 5 <= 5
    omega
  rintro zs H2 ⟨sQ,rfl,OJ,OK,eW,s2⟩
  rw [List.length_map] at OJ
  have eM:=s1.trans s2
  have m5:=Bv (Bm ns 2) (show (0:Int) < 5 by decide)
  refine ⟨_,rfl,a,ns,_,rfl,eM.seq hS,by decide,_,_,rfl,rfl,(by first | (show (0:Int) < _; decide) | simp),_,_,rfl,rfl,Bf,fun A1 hA1=>?_⟩
  have s3:A9 H2 (upd H2 A1 (.lst [.int (1 + Bm ns 2 % 5)])):=A9.upd hA1
  have e3:(upd H2 A1 (.lst [.int (1 + Bm ns 2 % 5)])) A1 = some (.lst [.int (1 + Bm ns 2 % 5)]):=A5
  generalize upd H2 A1 (.lst [.int (1 + Bm ns 2 % 5)]) = H3 at s3 e3 ⊢
  have pD:=eM.trans s3
  refine ⟨_,rfl,a,_,rfl,.inl (pD.seq hS),_,_,rfl,rfl,.inr ⟨_,rfl,?_⟩⟩
  have CC:∃ jJ:List Int,(List.replicate (if decide (((ns.map V.int).length:Int) < 4) = true then (1:Int) else 0).toNat [V.int (1 + Bm ns 2 % 5)]).flatten = jJ.map V.int /\ (∀ w ∈ jJ,1 <= w /\ w <= 5) /\ 1 <= sQ.length + jJ.length /\ sQ.length + jJ.length <= 8:=by
   rw [List.length_map]
   by_cases h4:ns.length < 4
   ·rw [if_pos (decide_eq_true (show ((ns.length:Nat):Int) < 4 by omega))]
    refine ⟨[1 + Bm ns 2 % 5],rfl,fun w hw=>?_,?_,?_⟩
    ·rw [List.mem_singleton.mp hw]
     omega
    ·simp
    ·rw [List.length_singleton]
     omega
   ·rw [if_neg (by rw [decide_eq_true_eq]; omega)]
    refine ⟨[],rfl,(fun w hw=>by cases hw),?_,?_⟩
    ·rw [List.length_nil]
     omega
    ·rw [List.length_nil]
     omega
  have OL:(0:Int) <= (if decide (((ns.map V.int).length:Int) < 4) = true then (1:Int) else 0) /\ (if decide (((ns.map V.int).length:Int) < 4) = true then (1:Int) else 0) <= 1:=by split <;> omega
  generalize (if decide (((ns.map V.int).length:Int) < 4) = true then (1:Int) else 0) = kk at CC OL ⊢
  refine ⟨A1,kk,_,rfl,rfl,e3,by omega,by omega,Hi (by simp; omega),fun P hP=>?_⟩
  obtain ⟨jJ,er,OM,zV,cX⟩ := CC
  rw [er]
  have s4:A9 H3 (upd H3 P (.lst (jJ.map V.int))):=A9.upd hP
  have e4:(upd H3 P (.lst (jJ.map V.int))) P = some (.lst (jJ.map V.int)):=A5
  generalize upd H3 P (.lst (jJ.map V.int)) = H4 at s4 e4 ⊢
  refine ⟨W,P,_,_,rfl,rfl,s4 _ _ (s3 _ _ eW),e4,Hi (by simp; omega),fun L hL=>?_⟩
  have ews:sQ.map V.int ++ jJ.map V.int = (sQ ++ jJ).map V.int:=by rw [List.map_append]
  rw [ews]
  have hlw:(sQ ++ jJ).length = sQ.length + jJ.length:=List.length_append
  have oX:∀ w ∈ sQ ++ jJ,1 <= w /\ w <= 5:=fun w hw=>by
   rcases List.mem_append.mp hw with z | z
   ·exact OK w z
   ·exact OM w z
  generalize sQ ++ jJ = ws at hlw oX ⊢
  have hHL:H L = none:=(pD.trans s4).free hL
  have s5:A9 H4 (upd H4 L (.lst (ws.map V.int))):=A9.upd hL
  have e5:(upd H4 L (.lst (ws.map V.int))) L = some (.lst (ws.map V.int)):=A5
  generalize upd H4 L (.lst (ws.map V.int)) = H5 at s5 e5 ⊢
  have zg:A9 H H5:=(pD.trans s4).trans s5
  have m4:=Bv (Bm ns 1) (show (0:Int) < 4 by decide)
  refine ⟨_,rfl,a,ns,_,rfl,zg.seq hS,by decide,_,_,rfl,rfl,(by first | (show (0:Int) < _; decide) | simp),_,_,rfl,rfl,_,rfl,(fun σ' H'=>∃ (cm:Option Int),Vd (σ' = [some (.ref a),some (.ref L),some (vO cm),some (.int (qv cm)),none,none]) (H' = H5) (∀ c,cm = some c -> 1 <= c /\ c <= 3)),fun h=>?_,fun h=>⟨none,rfl,rfl,fun c e=>nomatch e⟩,?_⟩
  ·have h0:Bm ns 1 % 4 > 0:=of_decide_eq_true h
   refine ⟨_,rfl,a,ns,_,rfl,zg.seq hS,by decide,_,_,rfl,rfl,(by first | (show (0:Int) < _; decide) | simp),?_⟩
   refine ⟨_,rfl,_,_,rfl,rfl,?_⟩
   exact ⟨some (Bm ns 1 % 4),rfl,rfl,fun c e=>by cases e; omega⟩
  rintro σ H6 ⟨cm,rfl,rfl,iP⟩
  have mP:1 <= qv cm /\ qv cm <= 4:=by
   cases cm with
   | none=>exact ⟨by decide,by decide⟩
   | some c =>
    have:=iP c rfl
    show 1 <= c + 1 /\ c + 1 <= 4
    omega
  refine ⟨_,rfl,L,rfl,.inl ⟨⟨_,Bj.of e5⟩,?_⟩⟩
  refine D4 (K:=K) (a:=L) (xs:=ws.map V.int) (fun i σ H'=>∃ (v4:Option V),σ = [some (.ref a),some (.ref L),some (vO cm),some (.int (Ad (qv cm) (ws.take i))),v4,none] /\ H' = H6) ⟨_,rfl,rfl⟩ (by rintro i σ H' _ ⟨_,_,e⟩; exact (by rw [e]; exact Bj.of e5)) ?_ ?_
  ·rintro i y σ H' hy ⟨v4,rfl,rfl⟩
   rw [List.getElem?_map] at hy
   obtain ⟨x,hx,rfl⟩ := Option.map_eq_some_iff.mp hy
   have hxb:=oX x (List.mem_of_getElem? hx)
   refine ⟨_,rfl,_,rfl,_,_,rfl,rfl,Xc.ok (.inr ⟨by omega,by omega⟩),?_⟩
   refine ⟨some (.int x),?_,rfl⟩
   rw [List.take_add_one,hx]
   show _ = [some (V.ref a),some (V.ref L),some (vO cm),some (V.int (Ad (qv cm) (ws.take i ++ [x]))),_,none]
   rw [Up]
   rfl
  rintro σ H7 ⟨v4,rfl,rfl⟩
  rw [List.length_map,List.take_length]
  have hP1:1 <= Ad (qv cm) ws:=Int.le_trans mP.1 (Dt ws _ (by omega) fun w hw=>(oX w hw).1)
  have hP2:Ad (qv cm) ws <= 1562500:=by
   have h1:=Gy ws (qv cm) (by omega) oX
   have h2:=iu (n:=ws.length) (by omega)
   have h3:qv cm * 5 ^ ws.length <= 4 * 390625:=Int.mul_le_mul mP.2 h2 (Int.le_of_lt (Int.pow_pos (by decide))) (by decide)
   omega
  have hlp:(0:Int) < ((ws.map V.int).length:Nat):=by rw [List.length_map]; omega
  have hix:=Bv (Bm ns 2) hlp
  refine ⟨_,rfl,a,ns,_,rfl,zg.seq hS,by decide,_,rfl,L,_,rfl,.inl (Bj.of e5),_,_,rfl,rfl,hlp,?_⟩
  obtain ⟨j,hj⟩ : ∃ j:Nat,Bm ns 2 % ((ws.map V.int).length:Nat) = j:=⟨(Bm ns 2 % ((ws.map V.int).length:Nat)).toNat,by omega⟩
  have uY:j < ws.length:=by
   rw [List.length_map] at hix hj
   omega
  have ej:∀ us:List V,us.length = ws.length -> Xj us.length (Bm ns 2 % ((ws.map V.int).length:Nat)) = some j:=fun us hu=>by
   rw [hj,hu]
   exact Sy uY
  have kJ:Ui (ws.map V.int) (Bm ns 2 % ((ws.map V.int).length:Nat)) = some (.int (ws.getD j 0)):=Wf uY hj
  have hwj:=oX _ (Ic uY)
  have hdv:0 <= 3000 / Ad (qv cm) ws /\ 3000 / Ad (qv cm) ws <= 3000:=⟨Int.ediv_nonneg (by decide) (by omega),Int.ediv_le_self _ (by decide)⟩
  refine ⟨_,rfl,_,rfl,L,_,_,_,rfl,rfl,.inl (Bj.of e5),kJ,_,rfl,_,_,rfl,rfl,⟨by omega,by omega⟩,_,_,rfl,rfl,_,_,rfl,rfl,Xc.ok (.inl ⟨by omega,by omega⟩),_,rfl,_,rfl,L,_,_,j,rfl,rfl,e5,ej _ (by rw [List.length_map]),?_⟩
  have hpr:Ad (qv cm) (ws.set j (ws.getD j 0 * (3000 / Ad (qv cm) ws + 1))) = Ad (qv cm) ws * (3000 / Ad (qv cm) ws + 1):=Eu ws (qv cm) j uY
  have nM:3000 < Ad (qv cm) ws * (3000 / Ad (qv cm) ws + 1):=by
   have:=Int.lt_ediv_add_one_mul_self 3000 (show (0:Int) < Ad (qv cm) ws by omega)
   rw [Int.mul_comm]
   exact this
  rw [<- hpr] at nM
  have hfv:1 <= ws.getD j 0 * (3000 / Ad (qv cm) ws + 1) /\ ws.getD j 0 * (3000 / Ad (qv cm) ws + 1) <= 5 * 3001:=⟨by
   have:=Int.mul_le_mul (show (1:Int) <= ws.getD j 0 by omega) (show (1:Int) <= 3000 / Ad (qv cm) ws + 1 by omega) (by decide) (by omega)
   omega,Int.mul_le_mul hwj.2 (by omega) (by omega) (by decide)⟩
  have qP:∀ w ∈ ws.set j (ws.getD j 0 * (3000 / Ad (qv cm) ws + 1)),1 <= w /\ w <= 15005:=P4 (Pr:=fun w=>1 <= w /\ w <= 15005) (fun w hw=>by have:=oX w hw; omega) (by omega)
  have hgj:(ws.set j (ws.getD j 0 * (3000 / Ad (qv cm) ws + 1))).getD j 0 = ws.getD j 0 * (3000 / Ad (qv cm) ws + 1):=by
   rw [List.getD_eq_getElem?_getD,List.getElem?_set_self uY]
   rfl
  have lE:(ws.set j (ws.getD j 0 * (3000 / Ad (qv cm) ws + 1))).length = ws.length:=List.length_set
  have e8:(upd H7 L (.lst ((ws.map V.int).set j (.int (ws.getD j 0 * (3000 / Ad (qv cm) ws + 1)))))) L = some (.lst ((ws.set j (ws.getD j 0 * (3000 / Ad (qv cm) ws + 1))).map V.int)):=by
   rw [A5,List.map_set]
  have CD:A9 H (upd H7 L (.lst ((ws.map V.int).set j (.int (ws.getD j 0 * (3000 / Ad (qv cm) ws + 1)))))):=zg.new hHL
  generalize upd H7 L (.lst ((ws.map V.int).set j (.int (ws.getD j 0 * (3000 / Ad (qv cm) ws + 1))))) = H8 at e8 CD ⊢
  generalize ws.set j (ws.getD j 0 * (3000 / Ad (qv cm) ws + 1)) = wz at nM qP hgj lE e8 ⊢
  have ON:j < wz.length:=by omega
  have OO:Ui (wz.map V.int) (Bm ns 2 % ((ws.map V.int).length:Nat)) = some (.int (wz.getD j 0)):=Wf ON hj
  have hwz:=qP _ (Ic ON)
  refine ⟨_,rfl,a,ns,_,rfl,CD.seq hS,by decide,_,_,rfl,rfl,⟨by decide,by decide⟩,_,_,rfl,rfl,(by first | (show (0:Int) < _; decide) | simp),rfl,_,rfl,(fun σ' H'=>Mb fun (v4 v5:Option V) (wy:List Int)=>P9 (σ' = [some (.ref a),some (.ref L),some (vO cm),some (.int (Ad (qv cm) ws)),v4,v5]) (H' L = some (.lst (wy.map V.int))) (A9 H H') (wy.length <= 8) (3000 < Ad (qv cm) wy) (∀ w ∈ wy,intBits w <= 256)),fun _=>?_,fun _=>⟨_,_,wz,rfl,e8,CD,by omega,nM,fun w hw=>Jn (Nat.lt_trans (show w.natAbs < 16384 by have:=qP w hw; omega) (by decide))⟩,?_⟩
  ·have m40:=Bv (Bm ns 2 / 8) (show (0:Int) < 10 ^ 40 by decide)
   refine ⟨_,rfl,_,rfl,L,_,_,_,rfl,rfl,.inl (Bj.of e8),OO,_,rfl,a,ns,_,rfl,CD.seq hS,by decide,_,_,rfl,rfl,⟨by decide,by decide⟩,_,_,rfl,rfl,⟨by decide,by decide,by decide⟩,_,_,rfl,rfl,(by show (0:Int) < 10 ^ 40; decide),_,_,rfl,rfl,_,_,rfl,rfl,Xc.ok (.inl ⟨by omega,by omega⟩),_,rfl,_,rfl,L,_,_,j,rfl,rfl,e8,ej _ (by rw [List.length_map]; exact lE),?_⟩
   have em:Bm ns 2 / 8 % 10 ^ (40:Int).toNat = Bm ns 2 / 8 % 10 ^ 40:=rfl
   have hg:1 <= 1 + Bm ns 2 / 8 % 10 ^ 40 /\ 1 + Bm ns 2 / 8 % 10 ^ 40 <= 10 ^ 40:=by omega
   refine ⟨_,_,wz.set j (wz.getD j 0 * (1 + Bm ns 2 / 8 % 10 ^ 40)),rfl,by rw [A5,List.map_set]; rfl,CD.new hHL,by rw [List.length_set]; omega,?_,?_⟩
   ·rw [Eu wz (qv cm) j ON]
    have:=Int.mul_le_mul_of_nonneg_left hg.1 (show 0 <= Ad (qv cm) wz by omega)
    omega
   ·refine P4 (Pr:=fun w=>intBits w <= 256) (fun w hw=>Jn (Nat.lt_trans (show w.natAbs < 16384 by have:=qP w hw; omega) (by decide))) ?_
    have h1:wz.getD j 0 * (1 + Bm ns 2 / 8 % 10 ^ 40) <= 15005 * 10 ^ 40:=Int.mul_le_mul hwz.2 hg.2 (by omega) (by decide)
    have h0:0 <= wz.getD j 0 * (1 + Bm ns 2 / 8 % 10 ^ 40):=Int.mul_nonneg (by omega) (by omega)
    exact Jn (Nat.lt_of_le_of_lt (show (wz.getD j 0 * (1 + Bm ns 2 / 8 % 10 ^ 40)).natAbs <= 15005 * 10 ^ 40 by omega) (by decide))
  rintro σ H9 ⟨v4',v5',wy,rfl,e9,s09,hy8,hyp,hyb⟩
  refine ⟨_,rfl,L,_,rfl,.inl ⟨Bj.of e9,fun t ht=>?_⟩⟩
  have qV:A9 H9 (upd H9 t (.tup (wy.map V.int))):=A9.upd ht
  have vC:(upd H9 t (.tup (wy.map V.int))) t = some (.tup (wy.map V.int)):=A5
  generalize upd H9 t (.tup (wy.map V.int)) = qW at qV vC ⊢
  refine ⟨_,rfl,Bf,fun h hh=>?_⟩
  exact q h wy cm _ ((s09.trans qV).trans (A9.upd hh)) ⟨t,A5,(A9.upd hh) _ _ vC⟩ hyb (Fg (by omega) (by omega)) hy8 hyp
def Ob (K:PySem.W.Frag):Sp:=fun vs H Q _=>Yy fun (a:Addr) (ns:List Int)=>Kc (vs = [.ref a]) (Bj K H a (ns.map V.int)) (ns.length <= 63) ((∀ z ∈ ns,intBits z <= 2 ^ 20)) (∀ H',Q (.bl true) H')
theorem d7 {fd nN fM fL nO iM:FuncData} (T:Txt K mg ad aA aD aI aB aJ aK aO aE aF aG aL aC) (F:F8 K "law" "law" Gf ad.eK fd) (nP:Ai P w K mg base (B8 P w) 2 ad.cS nN ["script"] (Rz K)) (nQ:Aw K nN ["script"] []) (bP:Ai P w K mg base (B8 P w) 1 ad.cC fM ["script","k"] (O8 K)) (bQ:Aw K fM ["script","k"] []) (gM:Ai P w K mg base (B8 P w) 8 ad.cB fL ["hall"] (O5 K aA)) (gN:Aw K fL ["hall"] []) (jY:Ai P w K mg base (B8 P w) 9 ad.cR nO ["hall","kept"] (Ro K)) (jZ:Aw K nO ["hall","kept"] []) (kZ:Ai P w K mg base (B8 P w) 8 ad.fE iM ["hall"] (Sc K aA)) (lA:Aw K iM ["hall"] []):Ai P w K mg base (B8 P w) 10 ad.eK fd ["script"] (Ob K):=by
 refine F.okN Fa (fun vs H Q E h=>?_) (fun aV A outer s H vs Q E hr h=>?_)
 ·rcases h with ⟨a,ns,rfl,hS,hlen,nM,q⟩ <;> rfl
 ·obtain ⟨a,ns,rfl,hS,hlen,nM,q⟩ := h
  refine ⟨_,(A8 (Eh (Ck Sg (Be Dy (Ag bP (hr.mono (by decide)) rfl T.dE T.k_x22 bQ .nil Az (A0 (pv 0) (A0 Ac A7))) Ac) Ac (C8 _)) (A8 (Ar (i:=1) Fa.nd rfl (Or.inl rfl) (Ag nP (hr.mono (by decide)) rfl T.AH T.k_x18 nQ .nil Az (A0 (pv 0) A7))) (Ab (Ax (Z3 (Ag jY (hr.mono (by decide)) rfl T.rM T.k_x11 jZ .nil Az (A0 (pv 1) (A0 Mv A7))) (Ni (Ag jY (hr.mono (by decide)) rfl T.rM T.k_x11 jZ .nil Az (A0 (pv 1) (A0 Mv A7)))))))) B9) (A8 (Ar (i:=2) Fa.nd rfl (Or.inl rfl) (Be Dy (Ag bP (hr.mono (by decide)) rfl T.dE T.k_x22 bQ .nil Az (A0 (pv 0) (A0 Ac A7))) Ac)) (A8 (Ar (i:=3) Fa.nd rfl (Or.inr rfl) (Be Jo Ac (Be Ew (pv 2) Ac))) (A8 (Ar (i:=1) Fa.nd rfl (Or.inl rfl) (Bl (A0 (Bl (A0 (pv 3) A7)) (A0 Dd A7)))) (A8 (Ar (i:=4) Fa.nd rfl (Or.inl rfl) (D9 (A0 (Bl (A0 (Bl (A0 (Bl (A0 (pv 3) A7)) (A0 Ac A7))) (A0 Ac A7))) A7))) (A8 (Df (Ck Wr (pv 2) Ac (C8 _)) (A8 (Ar (i:=1) Fa.nd rfl (Or.inl rfl) (Bl (A0 (Bl (A0 (pv 3) A7)) (A0 (pv 2) A7)))) (Ab (Ar (i:=4) Fa.nd rfl (Or.inl rfl) (Be Vy (D9 (A0 (Bl (A0 (Bl (A0 (Bl (A0 (Be Rg (pv 3) Ac) A7)) (A0 (pv 2) A7))) (A0 Ac A7))) A7)) (Dr (E8 (by rfl) T.cJ (A0 (pv 2) A7)) _ rfl V7 rfl rfl (fun _ _ _ _=>(Av (i:=0) Wk rfl (Or.inl rfl))) (fun _ _ _ _=>D3) (fun _ _ _ _=>(Bl (A0 (Bl (A0 (Bl (A0 (pv 1) A7)) (A0 (pv 0) A7))) (A0 Ac A7))))))))) B9) (A8 (Eh (Ck Wy (Be Dy (Ag bP (hr.mono (by decide)) rfl T.dE T.k_x22 bQ .nil Az (A0 (pv 0) (A0 Ac A7))) Ac) Ac (C8 _)) (Ab (Ax (Du Q9 (Ag kZ (hr.mono (by decide)) rfl T.AG T.k_x7 lA .nil Az (A0 (pv 1) A7)) Dd (C8 _)))) B9) (Ab (Ax (Du (ag hr) (Ag gM (hr.mono (by decide)) rfl T.rL T.k_x14 gN .nil Az (A0 (pv 1) A7)) (pv 4) (C8 _))))))))))),?_⟩
  refine ⟨_,rfl,a,ns,_,rfl,hS,by decide,_,_,rfl,rfl,(by first | (show (0:Int) < _; decide) | simp),_,_,rfl,rfl,_,rfl,?_⟩
  refine Oe (fun _=>?_) (fun _=>?_)
  ·refine ⟨_,rfl,a,ns,rfl,hS,hlen,fun h ws cm H1 s1 ha hb eV cX hp=>?_⟩
   refine ⟨_,rfl,h,ws,cm,true,rfl,ha,hb,eV,cX,hp,fun H2 s2=>?_⟩
   refine ⟨_,(fun d H'=>d = true),rfl,(fun z=>by cases z),(fun _=>⟨_,rfl,h,ws,cm,false,rfl,ha.same s2,hb,eV,cX,hp,fun H3 s3=>⟨_,rfl,rfl⟩⟩),fun d H' hd=>?_⟩
   subst hd
   exact q _
  refine ⟨_,rfl,a,ns,_,rfl,hS,by decide,_,_,rfl,rfl,(by first | (show (0:Int) < _; decide) | simp),?_⟩
  have m6:=Bv (Bm ns 1) (show (0:Int) < 6 by decide)
  dsimp only
  generalize Bm ns 1 % 6 = c at m6 ⊢
  have hcs:c = 0 \/ c = 1 \/ c = 2 \/ c = 3 \/ c = 4 \/ c = 5:=by omega
  have hd:500 <= 3000 / (c + 1) /\ 3000 / (c + 1) <= 3000 /\ (c + 1) * (3000 / (c + 1)) <= 3000:=by rcases hcs with e | e | e | e | e | e <;> subst e <;> decide
  refine ⟨_,rfl,_,_,rfl,rfl,_,_,rfl,rfl,⟨by omega,by omega⟩,?_⟩
  dsimp only
  generalize 3000 / (c + 1) = w at hd ⊢
  refine ⟨_,rfl,Bf,fun t1 ht1=>?_⟩
  have s1:A9 H (upd H t1 (.tup [.int w])):=A9.upd ht1
  have e1:(upd H t1 (.tup [.int w])) t1 = some (.tup [.int w]):=A5
  generalize upd H t1 (.tup [.int w]) = H1 at s1 e1 ⊢
  refine ⟨Bf,fun h1 hh1=>?_⟩
  have s2:A9 H1 (upd H1 h1 (.tup [.ref t1,.aW])):=A9.upd hh1
  have e2:(upd H1 h1 (.tup [.ref t1,.aW])) h1 = some (.tup [.ref t1,.aW]):=A5
  generalize upd H1 h1 (.tup [.ref t1,.aW]) = H2 at s2 e2 ⊢
  refine ⟨_,rfl,Bf,fun t2 ht2=>?_⟩
  have s3:A9 H2 (upd H2 t2 (.tup [.int w])):=A9.upd ht2
  have e3:(upd H2 t2 (.tup [.int w])) t2 = some (.tup [.int w]):=A5
  generalize upd H2 t2 (.tup [.int w]) = H3 at s3 e3 ⊢
  refine ⟨Bf,fun k2 pS=>?_⟩
  have s4:A9 H3 (upd H3 k2 (.tup [.ref t2,.int 0])):=A9.upd pS
  have e4:(upd H3 k2 (.tup [.ref t2,.int 0])) k2 = some (.tup [.ref t2,.int 0]):=A5
  generalize upd H3 k2 (.tup [.ref t2,.int 0]) = H4 at s4 e4 ⊢
  refine ⟨Bf,fun x2 MZ=>?_⟩
  have s5:A9 H4 (upd H4 x2 (.tup [.ref k2,.int 0])):=A9.upd MZ
  have e5:(upd H4 x2 (.tup [.ref k2,.int 0])) x2 = some (.tup [.ref k2,.int 0]):=A5
  generalize upd H4 x2 (.tup [.ref k2,.int 0]) = H5 at s5 e5 ⊢
  refine ⟨Bf,fun D1 HD=>?_⟩
  have s6:A9 H5 (upd H5 D1 (.lst [.ref x2])):=A9.upd HD
  have e6:(upd H5 D1 (.lst [.ref x2])) D1 = some (.lst [.ref x2]):=A5
  generalize upd H5 D1 (.lst [.ref x2]) = H6 at s6 e6 ⊢
  have OP:=((s3.trans s4).trans s5).trans s6
  have s06:=(s1.trans s2).trans OP
  refine ⟨_,rfl,_,_,rfl,rfl,_,rfl,(fun σ' H'=>Xh fun (h D:Addr) (cm:Option Int) (us:List V)=>K7 (σ' = [some (.ref a),some (.ref h),some (.int c),some (.int w),some (.ref D)]) (A9 H H') (B6 H' h [w] cm) (Jt [w] cm) ((∀ d,cm = some d -> 1 <= d)) (H' D = some (.lst us)) (Ah (Qk H') ((Lk w cm).map fun k=>(k,V.int 0)) us)),fun hc=>?_,fun hc=>?_,?_⟩
  ·have hc1:0 < c:=of_decide_eq_true hc
   refine ⟨_,rfl,Bf,fun t3 ht3=>?_⟩
   have s7:A9 H6 (upd H6 t3 (.tup [.int w])):=A9.upd ht3
   have e7:(upd H6 t3 (.tup [.int w])) t3 = some (.tup [.int w]):=A5
   generalize upd H6 t3 (.tup [.int w]) = H7 at s7 e7 ⊢
   refine ⟨_,rfl,Bf,fun h3 hh3=>?_⟩
   have s8:A9 H7 (upd H7 h3 (.tup [.ref t3,.int c])):=A9.upd hh3
   have e8:(upd H7 h3 (.tup [.ref t3,.int c])) h3 = some (.tup [.ref t3,.int c]):=A5
   generalize upd H7 h3 (.tup [.ref t3,.int c]) = H8 at s8 e8 ⊢
   refine ⟨_,rfl,_,_,rfl,rfl,Bf,fun t4 ht4=>?_⟩
   have s9:A9 H8 (upd H8 t4 (.tup [.int (w - 1)])):=A9.upd ht4
   have e9:(upd H8 t4 (.tup [.int (w - 1)])) t4 = some (.tup [.int (w - 1)]):=A5
   generalize upd H8 t4 (.tup [.int (w - 1)]) = H9 at s9 e9 ⊢
   refine ⟨_,rfl,Bf,fun k4 hk4=>?_⟩
   have qV:A9 H9 (upd H9 k4 (.tup [.ref t4,.int c])):=A9.upd hk4
   have vC:(upd H9 k4 (.tup [.ref t4,.int c])) k4 = some (.tup [.ref t4,.int c]):=A5
   generalize upd H9 k4 (.tup [.ref t4,.int c]) = qW at qV vC ⊢
   refine ⟨Bf,fun x4 hx4=>?_⟩
   have zG:A9 qW (upd qW x4 (.tup [.ref k4,.int 0])):=A9.upd hx4
   have GK:(upd qW x4 (.tup [.ref k4,.int 0])) x4 = some (.tup [.ref k4,.int 0]):=A5
   generalize upd qW x4 (.tup [.ref k4,.int 0]) = uJ at zG GK ⊢
   refine ⟨Bf,fun L1 hL1=>?_⟩
   have eM:A9 uJ (upd uJ L1 (.lst [.ref x4])):=A9.upd hL1
   have e12:(upd uJ L1 (.lst [.ref x4])) L1 = some (.lst [.ref x4]):=A5
   generalize upd uJ L1 (.lst [.ref x4]) = H12 at eM e12 ⊢
   have OQ:=((s9.trans qV).trans zG).trans eM
   have OS:=(qV.trans zG).trans eM
   refine ⟨_,rfl,c,rfl,by omega,by omega,fun B hB=>?_⟩
   refine Et (fun m ys H'=>H' B = some (.lst ys) /\ A9 H12 H' /\ Ah (Qk H') (((List.range m).map fun (q:Nat)=>([w],(q:Int))).map fun k=>(k,V.int 0)) ys) ⟨A5,A9.upd hB,Ah.nil⟩ ?_ ?_
   ·rintro m ys H' hm ⟨b1,b2,b3⟩ Qe hQ
    refine ⟨_,rfl,Bf,fun t5 ht5=>?_⟩
    have g1:A9 H' (upd H' t5 (.tup [.int w])):=A9.upd ht5
    have f1:(upd H' t5 (.tup [.int w])) t5 = some (.tup [.int w]):=A5
    generalize upd H' t5 (.tup [.int w]) = G1 at g1 f1 ⊢
    refine ⟨_,rfl,Bf,fun k5 hk5=>?_⟩
    have g2:A9 G1 (upd G1 k5 (.tup [.ref t5,.int (0 + (m:Int))])):=A9.upd hk5
    have f2:(upd G1 k5 (.tup [.ref t5,.int (0 + (m:Int))])) k5 = some (.tup [.ref t5,.int (0 + (m:Int))]):=A5
    generalize upd G1 k5 (.tup [.ref t5,.int (0 + (m:Int))]) = G2 at g2 f2 ⊢
    refine ⟨Bf,fun x5 hx5=>?_⟩
    have g3:A9 G2 (upd G2 x5 (.tup [.ref k5,.int 0])):=A9.upd hx5
    have f3:(upd G2 x5 (.tup [.ref k5,.int 0])) x5 = some (.tup [.ref k5,.int 0]):=A5
    generalize upd G2 x5 (.tup [.ref k5,.int 0]) = G3 at g3 f3 ⊢
    have OT:=(g1.trans g2).trans g3
    have rC:=OT _ _ b1
    have kl:ys.length = m:=by rw [b3.1]; simp
    refine hQ _ _ rC (C6 (by omega)) ⟨A5,(b2.trans OT).new hB,?_⟩
    have tu:Am G3 (upd G3 B (.lst (ys ++ [.ref x5]))):=Am.lst rC
    rw [List.range_succ,List.map_append,List.map_append]
    refine (b3.imp fun _ _ y=>Qk.up ((Am.of OT).trans tu) y).append (Ah.one ⟨x5,k5,rfl,tu _ _ f3,t5,tu _ _ (g3 _ _ ?_),tu _ _ (g3 _ _ (g2 _ _ f1))⟩)
    rw [f2]
    simp
   ·rintro ys G ⟨b1,b2,b3⟩
    have bl:=b3.1
    refine ⟨L1,B,_,_,rfl,rfl,b2 _ _ e12,b1,Nat.le_of_lt (C6 (by rw [bl]; simp; omega)),fun P hP=>?_⟩
    have g1:A9 G (upd G P (.lst ([.ref x4] ++ ys))):=A9.upd hP
    have f1:(upd G P (.lst ([.ref x4] ++ ys))) P = some (.lst ([.ref x4] ++ ys)):=A5
    generalize upd G P (.lst ([.ref x4] ++ ys)) = G1 at g1 f1 ⊢
    have sH:A9 H8 G1:=(OQ.trans b2).trans g1
    have sF:A9 H12 G1:=b2.trans g1
    refine ⟨h3,P,some c,_,rfl,((s06.trans s7).trans s8).trans sH,⟨t3,sH _ _ e8,sH _ _ (s8 _ _ e7)⟩,⟨(fun x hx=>by cases List.mem_singleton.mp hx; omega),(fun d hd=>by cases hd; omega),by simp,by simp,(by show (c + 1) * w <= 3000; omega)⟩,(fun d hd=>by cases hd; omega),f1,?_⟩
    exact Ah.cons ⟨x4,k4,rfl,sF _ _ (eM _ _ GK),t4,sF _ _ (eM _ _ (zG _ _ vC)),sF _ _ (OS _ _ e9)⟩ (b3.imp fun _ _ y=>Qk.up (Am.of g1) y)
  ·refine ⟨h1,D1,none,_,rfl,s06,⟨t1,OP _ _ e2,OP _ _ (s2 _ _ e1)⟩,⟨(fun x hx=>by cases List.mem_singleton.mp hx; omega),(fun d hd=>by cases hd),by simp,by simp,(by show 1 * w <= 3000; omega)⟩,(fun d hd=>by cases hd),e6,?_⟩
   exact Ah.one ⟨x2,k2,rfl,s6 _ _ e5,t2,s6 _ _ (s5 _ _ e4),s6 _ _ (s5 _ _ (s4 _ _ e3))⟩
  rintro σ' H7 ⟨h,D,cm,us,rfl,s7,ha,aR,iP,eD,iO⟩
  have HE:2 <= w:=by omega
  refine ⟨_,rfl,a,ns,_,rfl,s7.seq hS,by decide,_,_,rfl,rfl,(by first | (show (0:Int) < _; decide) | simp),rfl,_,rfl,?_⟩
  refine Oe (fun _=>?_) (fun _=>?_)
  ·refine ⟨_,rfl,.inl ⟨h,[w],cm,rfl,ha,aR,(fun tv hr=>M9 HE iP hr),fun H8 s8=>?_⟩⟩
   exact ⟨rfl,q _⟩
  ·refine ⟨_,rfl,.inl ⟨h,[w],cm,rfl,ha,aR,(fun tv H8 _ hr _ hv=>by rw [M9 HE iP hr] at hv; cases hv),fun p zs ps tv H8 s8 hpn ep hr zc hv hk hall=>?_⟩⟩
   have eps:=U0 HE iP hk
   rw [eps] at hall
   have OU:=iO.imp fun _ _ y=>Qk.up (Am.of s8) y
   have rpK:∀ {vs:List V},Ah (Qk H8) ((Lk w cm).map fun k=>(k,V.int 0)) vs -> aM H8 (((Lk w cm).map fun k=>(k,V.int 0)).map (Dh Dx)) vs:=fun {vs} hv=>by
    refine So (fun r hr v y=>?_) hv
    obtain ⟨k,_,rfl⟩ := List.mem_map.mp hr
    exact Ye (j:=0) rfl y
   have rpA:=Vc ep (rpK hall)
   have rpB:=Vc (s8 _ _ eD) (rpK OU)
   have dpt:(PyData.list (((Lk w cm).map fun k=>(k,V.int 0)).map (Dh Dx))).depth <= 60:=by
    have:=Iy (n:=50) (ds:=((Lk w cm).map fun k=>(k,V.int 0)).map (Dh Dx)) fun d hd=>by
     obtain ⟨kv,aS,rfl⟩ := List.mem_map.mp hd
     obtain ⟨k,_,rfl⟩ := List.mem_map.mp aS
     show (PyData.tuple [dS k,.int 0]).depth <= 50
     simp only [PyData.depth,PyData.depthAll,V5]
     omega
    simp only [PyData.depth]
    omega
   refine ⟨_,rfl,_,_,rpA,rpB,dpt,?_⟩
   rw [if_neg (by decide),PySem.SeqAt.eqv_refl _ (Cd _ _ rpA)]
   exact q _
end
theorem all_mk {l : PySem.W.OpenLaw} {w : World} {K : PySem.W.Frag} {h : Heap} {mg : Str -> Option Value} {fa : Addr} (X : K.In h) (G : h.Ns mainGlobals mg) (hfa : mg "law" = some (.ref fa)) {bX bS fT fU fV fW bO bT fD cK cL cM fX cN fY bZ cA cO cP fZ cB cQ gA fE cC cR cS eK aA aD aI aB aJ aK aO aE aF aG aL aC : Addr} {vS vT vU vV CF CG CH CI CJ CK CL CM vW jK vX vY CN CO vZ w4 w5 w6 w8 wc CP CQ we wg CS CT wj wk wm wq wu wx wA wB CU CV wC wD wF wG CW CY CZ DA wH wI wJ wK wL wM wN nR : Option Addr} {wO wQ DB DC DD DE wR wU DF wV wW wX DG wY DH wZ xb xc xf DI xg xh DJ DK xi xj xk xl : Array (Option Value)} {xm xn xo xp nS xq xr xu xv xw nU xx DL DM DN DP sR DQ DR DS DT DU sS DV DW DX DY DZ sT EA EB EC ED EE sU EF xy jL jM jN gX jO xA xB xC xD nV xE EG EH EI EJ sW EK xF xG xH xI nW xJ xK xM xN xO nX xP xQ xR xS xU nY xV EL EM EN EO sX ER xW xX xY xZ nZ y0 ES ET EU EV sY EW y8 y9 ya yb oA yc yd ye yf yg oB yh yi yj yk yl oC ym yn yo yp yq oD yr EX EY EZ FA sZ FC yt yu yv yw oE yx yy yz yA yB oF yC FD FE FF FG tE FH FI FJ FK FL tH FN yD yE yF yG oG yH yI yJ yK yL oH yM yN yO yP yQ oJ yR yS oK oM oN jP oO : Value} {gY : Addr} {yT : Value} {yU : Option Addr} {yV : Nat} {yW : Array (Option Value)}
  (a_x15:PySem.W.nsIn K mainGlobals "beginning" = some (some (.ref bX))) (l_x15:K.lookup bX = some ⟨xm,vS,.func (PySem.W.fnOf "beginning" "beginning" (Ap N7) (Ak N7) (A6 N7) .none xn xo xp vT nS xq),wO⟩) (c_x15:PySem.W.codeIn K nS "beginning" = true) (k_x15:PySem.W.keepIn K (.ref bX) = true)
  (a_x19:PySem.W.nsIn K mainGlobals "may_lose" = some (some (.ref bS))) (l_x19:K.lookup bS = some ⟨xr,vU,.func (PySem.W.fnOf "may_lose" "may_lose" (Ap Nb) (Ak Nb) (A6 Nb) .none xu xv xw vV nU xx),wQ⟩) (c_x19:PySem.W.codeIn K nU "may_lose" = true) (k_x19:PySem.W.keepIn K (.ref bS) = true)
  (a_x8:PySem.W.nsIn K mainGlobals "is_listener" = some (some (.ref fT))) (l_x8:K.lookup fT = some ⟨DL,CF,.func (PySem.W.fnOf "is_listener" "is_listener" (Ap Uz) (Ak Uz) (A6 Uz) .none DM DN DP CG sR DQ),DB⟩) (c_x8:PySem.W.codeIn K sR "is_listener" = true) (k_x8:PySem.W.keepIn K (.ref fT) = true)
  (a_x1:PySem.W.nsIn K mainGlobals "refuse_wrong_turn" = some (some (.ref fU))) (l_x1:K.lookup fU = some ⟨DR,CH,.func (PySem.W.fnOf "refuse_wrong_turn" "refuse_wrong_turn" (Ap Uv) (Ak Uv) (A6 Uv) .none DS DT DU CI sS DV),DC⟩) (c_x1:PySem.W.codeIn K sS "refuse_wrong_turn" = true) (k_x1:PySem.W.keepIn K (.ref fU) = true)
  (a_x9:PySem.W.nsIn K mainGlobals "left_behind" = some (some (.ref fV))) (l_x9:K.lookup fV = some ⟨DW,CJ,.func (PySem.W.fnOf "left_behind" "left_behind" (Ap Qz) (Ak Qz) (A6 Qz) .none DX DY DZ CK sT EA),DD⟩) (c_x9:PySem.W.codeIn K sT "left_behind" = true) (k_x9:PySem.W.keepIn K (.ref fV) = true)
  (a_x4:PySem.W.nsIn K mainGlobals "quiet_behind" = some (some (.ref fW))) (l_x4:K.lookup fW = some ⟨EB,CL,.func (PySem.W.fnOf "quiet_behind" "quiet_behind" (Ap To) (Ak To) (A6 To) .none EC ED EE CM sU EF),DE⟩) (c_x4:PySem.W.codeIn K sU "quiet_behind" = true) (k_x4:PySem.W.keepIn K (.ref fW) = true)
  (a_x24:PySem.W.nsIn K mainGlobals "after" = some (some (.ref bO))) (l_x24:K.lookup bO = some ⟨xy,vW,.func (PySem.W.fnOf "after" "after" (Ap Ez) (Ak Ez) (A6 Ez) (.ref gY) jL jM jN jK gX jO),wR⟩) (c_x24:PySem.W.codeIn K gX "after" = true) (k_x24:PySem.W.keepIn K (.ref bO) = true) (t_x24:K.lookup gY = some ⟨yT,yU,.seq #[Value.bool false] yV,yW⟩)
  (a_x12:PySem.W.nsIn K mainGlobals "all_behind" = some (some (.ref bT))) (l_x12:K.lookup bT = some ⟨xA,vX,.func (PySem.W.fnOf "all_behind" "all_behind" (Ap Mi) (Ak Mi) (A6 Mi) .none xB xC xD vY nV xE),wU⟩) (c_x12:PySem.W.codeIn K nV "all_behind" = true) (k_x12:PySem.W.keepIn K (.ref bT) = true)
  (a_x5:PySem.W.nsIn K mainGlobals "quiet_values" = some (some (.ref fD))) (l_x5:K.lookup fD = some ⟨EG,CN,.func (PySem.W.fnOf "quiet_values" "quiet_values" (Ap Tv) (Ak Tv) (A6 Tv) .none EH EI EJ CO sW EK),DF⟩) (c_x5:PySem.W.codeIn K sW "quiet_values" = true) (k_x5:PySem.W.keepIn K (.ref fD) = true)
  (a_x20:PySem.W.nsIn K mainGlobals "how_many" = some (some (.ref cK))) (l_x20:K.lookup cK = some ⟨xF,vZ,.func (PySem.W.fnOf "how_many" "how_many" (Ap Lr) (Ak Lr) (A6 Lr) .none xG xH xI w4 nW xJ),wV⟩) (c_x20:PySem.W.codeIn K nW "how_many" = true) (k_x20:PySem.W.keepIn K (.ref cK) = true)
  (a_x21:PySem.W.nsIn K mainGlobals "all_left" = some (some (.ref cL))) (l_x21:K.lookup cL = some ⟨xK,w5,.func (PySem.W.fnOf "all_left" "all_left" (Ap Kq) (Ak Kq) (A6 Kq) .none xM xN xO w6 nX xP),wW⟩) (c_x21:PySem.W.codeIn K nX "all_left" = true) (k_x21:PySem.W.keepIn K (.ref cL) = true)
  (a_x16:PySem.W.nsIn K mainGlobals "standings" = some (some (.ref cM))) (l_x16:K.lookup cM = some ⟨xQ,w8,.func (PySem.W.fnOf "standings" "standings" (Ap L4) (Ak L4) (A6 L4) .none xR xS xU wc nY xV),wX⟩) (c_x16:PySem.W.codeIn K nY "standings" = true) (k_x16:PySem.W.keepIn K (.ref cM) = true)
  (a_x2:PySem.W.nsIn K mainGlobals "calls_by_standing" = some (some (.ref fX))) (l_x2:K.lookup fX = some ⟨EL,CP,.func (PySem.W.fnOf "calls_by_standing" "calls_by_standing" (Ap Tk) (Ak Tk) (A6 Tk) .none EM EN EO CQ sX ER),DG⟩) (c_x2:PySem.W.codeIn K sX "calls_by_standing" = true) (k_x2:PySem.W.keepIn K (.ref fX) = true)
  (a_x23:PySem.W.nsIn K mainGlobals "ways_to" = some (some (.ref cN))) (l_x23:K.lookup cN = some ⟨xW,we,.func (PySem.W.fnOf "ways_to" "ways_to" (Ap Mn) (Ak Mn) (A6 Mn) .none xX xY xZ wg nZ y0),wY⟩) (c_x23:PySem.W.codeIn K nZ "ways_to" = true) (k_x23:PySem.W.keepIn K (.ref cN) = true)
  (a_x0:PySem.W.nsIn K mainGlobals "without_calls_left" = some (some (.ref fY))) (l_x0:K.lookup fY = some ⟨ES,CS,.func (PySem.W.fnOf "without_calls_left" "without_calls_left" (Ap Uf) (Ak Uf) (A6 Uf) .none ET EU EV CT sY EW),DH⟩) (c_x0:PySem.W.codeIn K sY "without_calls_left" = true) (k_x0:PySem.W.keepIn K (.ref fY) = true)
  (a_x25:PySem.W.nsIn K mainGlobals "ranks" = some (some (.ref bZ))) (l_x25:K.lookup bZ = some ⟨y8,wj,.func (PySem.W.fnOf "ranks" "ranks" (Ap Kf) (Ak Kf) (A6 Kf) .none y9 ya yb wk oA yc),wZ⟩) (c_x25:PySem.W.codeIn K oA "ranks" = true) (k_x25:PySem.W.keepIn K (.ref bZ) = true)
  (a_x26:PySem.W.nsIn K mainGlobals "worth" = some (some (.ref cA))) (l_x26:K.lookup cA = some ⟨yd,wm,.func (PySem.W.fnOf "worth" "worth" (Ap Mp) (Ak Mp) (A6 Mp) .none ye yf yg wq oB yh),xb⟩) (c_x26:PySem.W.codeIn K oB "worth" = true) (k_x26:PySem.W.keepIn K (.ref cA) = true)
  (a_x13:PySem.W.nsIn K mainGlobals "call_worth" = some (some (.ref cO))) (l_x13:K.lookup cO = some ⟨yi,wu,.func (PySem.W.fnOf "call_worth" "call_worth" (Ap L7) (Ak L7) (A6 L7) .none yj yk yl wx oC ym),xc⟩) (c_x13:PySem.W.codeIn K oC "call_worth" = true) (k_x13:PySem.W.keepIn K (.ref cO) = true)
  (a_x17:PySem.W.nsIn K mainGlobals "best_call" = some (some (.ref cP))) (l_x17:K.lookup cP = some ⟨yn,wA,.func (PySem.W.fnOf "best_call" "best_call" (Ap Km) (Ak Km) (A6 Km) .none yo yp yq wB oD yr),xf⟩) (c_x17:PySem.W.codeIn K oD "best_call" = true) (k_x17:PySem.W.keepIn K (.ref cP) = true)
  (a_x6:PySem.W.nsIn K mainGlobals "worst_answer" = some (some (.ref fZ))) (l_x6:K.lookup fZ = some ⟨EX,CU,.func (PySem.W.fnOf "worst_answer" "worst_answer" (Ap Tp) (Ak Tp) (A6 Tp) .none EY EZ FA CV sZ FC),DI⟩) (c_x6:PySem.W.codeIn K sZ "worst_answer" = true) (k_x6:PySem.W.keepIn K (.ref fZ) = true)
  (a_x14:PySem.W.nsIn K mainGlobals "kept_paper" = some (some (.ref cB))) (l_x14:K.lookup cB = some ⟨yt,wC,.func (PySem.W.fnOf "kept_paper" "kept_paper" (Ap Me) (Ak Me) (A6 Me) .none yu yv yw wD oE yx),xg⟩) (c_x14:PySem.W.codeIn K oE "kept_paper" = true) (k_x14:PySem.W.keepIn K (.ref cB) = true)
  (a_x10:PySem.W.nsIn K mainGlobals "all_answers" = some (some (.ref cQ))) (l_x10:K.lookup cQ = some ⟨yy,wF,.func (PySem.W.fnOf "all_answers" "all_answers" (Ap Kh) (Ak Kh) (A6 Kh) .none yz yA yB wG oF yC),xh⟩) (c_x10:PySem.W.codeIn K oF "all_answers" = true) (k_x10:PySem.W.keepIn K (.ref cQ) = true)
  (a_x3:PySem.W.nsIn K mainGlobals "unbroken_behind" = some (some (.ref gA))) (l_x3:K.lookup gA = some ⟨FD,CW,.func (PySem.W.fnOf "unbroken_behind" "unbroken_behind" (Ap Ou) (Ak Ou) (A6 Ou) .none FE FF FG CY tE FH),DJ⟩) (c_x3:PySem.W.codeIn K tE "unbroken_behind" = true) (k_x3:PySem.W.keepIn K (.ref gA) = true)
  (a_x7:PySem.W.nsIn K mainGlobals "broken_paper" = some (some (.ref fE))) (l_x7:K.lookup fE = some ⟨FI,CZ,.func (PySem.W.fnOf "broken_paper" "broken_paper" (Ap Rj) (Ak Rj) (A6 Rj) .none FJ FK FL DA tH FN),DK⟩) (c_x7:PySem.W.codeIn K tH "broken_paper" = true) (k_x7:PySem.W.keepIn K (.ref fE) = true)
  (a_x22:PySem.W.nsIn K mainGlobals "_law_cell" = some (some (.ref cC))) (l_x22:K.lookup cC = some ⟨yD,wH,.func (PySem.W.fnOf "_law_cell" "_law_cell" (Ap Mj) (Ak Mj) (A6 Mj) .none yE yF yG wI oG yH),xi⟩) (c_x22:PySem.W.codeIn K oG "_law_cell" = true) (k_x22:PySem.W.keepIn K (.ref cC) = true)
  (a_x11:PySem.W.nsIn K mainGlobals "_law_refused" = some (some (.ref cR))) (l_x11:K.lookup cR = some ⟨yI,wJ,.func (PySem.W.fnOf "_law_refused" "_law_refused" (Ap N1) (Ak N1) (A6 N1) .none yJ yK yL wK oH yM),xj⟩) (c_x11:PySem.W.codeIn K oH "_law_refused" = true) (k_x11:PySem.W.keepIn K (.ref cR) = true)
  (a_x18:PySem.W.nsIn K mainGlobals "_law_grown" = some (some (.ref cS))) (l_x18:K.lookup cS = some ⟨yN,wL,.func (PySem.W.fnOf "_law_grown" "_law_grown" (Ap L9) (Ak L9) (A6 L9) .none yO yP yQ wM oJ yR),xk⟩) (c_x18:PySem.W.codeIn K oJ "_law_grown" = true) (k_x18:PySem.W.keepIn K (.ref cS) = true)
  (a_law:PySem.W.nsIn K mainGlobals "law" = some (some (.ref eK))) (l_law:K.lookup eK = some ⟨yS,wN,.func (PySem.W.fnOf "law" "law" (Ap Gf) (Ak Gf) (A6 Gf) .none oK oM oN nR jP oO),xl⟩) (c_law:PySem.W.codeIn K jP "law" = true) (k_law:PySem.W.keepIn K (.ref eK) = true)
  {dU:Nat} (y_MOST_STANDINGS:PySem.W.nsIn K mainGlobals "MOST_STANDINGS" = some (some (.int 3000 dU))) (z_len:PySem.W.nsIn K mainGlobals "len" = some none) (z_max:PySem.W.nsIn K mainGlobals "max" = some none) (z_tuple:PySem.W.nsIn K mainGlobals "tuple" = some none) (z_range:PySem.W.nsIn K mainGlobals "range" = some none) (z_min:PySem.W.nsIn K mainGlobals "min" = some none) (z_sorted:PySem.W.nsIn K mainGlobals "sorted" = some none) (z_enumerate:PySem.W.nsIn K mainGlobals "enumerate" = some none) (z_ValueError:PySem.W.nsIn K mainGlobals "ValueError" = some none) (z_isinstance:PySem.W.nsIn K mainGlobals "isinstance" = some none) (z_int:PySem.W.nsIn K mainGlobals "int" = some none) (ac_TooMany:PySem.W.nsIn K mainGlobals "TooMany" = some (some (.ref aA))) (ac_NoChain:PySem.W.nsIn K mainGlobals "NoChain" = some (some (.ref aD))) (ac_NoHall:PySem.W.nsIn K mainGlobals "NoHall" = some (some (.ref aI))) (ac_NoListener:PySem.W.nsIn K mainGlobals "NoListener" = some (some (.ref aB))) (ac_NoLoss:PySem.W.nsIn K mainGlobals "NoLoss" = some (some (.ref aJ))) (ac_NoPart:PySem.W.nsIn K mainGlobals "NoPart" = some (some (.ref aK))) (ac_NoRow:PySem.W.nsIn K mainGlobals "NoRow" = some (some (.ref aO))) (ac_NoStand:PySem.W.nsIn K mainGlobals "NoStand" = some (some (.ref aE))) (ac_NoWheel:PySem.W.nsIn K mainGlobals "NoWheel" = some (some (.ref aF))) (ac_TooMuch:PySem.W.nsIn K mainGlobals "TooMuch" = some (some (.ref aG))) (ac_Unsafe:PySem.W.nsIn K mainGlobals "Unsafe" = some (some (.ref aL))) (ac_RoundError:PySem.W.nsIn K mainGlobals "RoundError" = some (some (.ref aC))) (e_TooMany:PySem.W.excIn K aA [.type "ValueError",.type "Exception",.type "BaseException",.type "object"] "ValueError.__new__" = true) (b_NoChain:PySem.W.subIn K (.ref aD) (.type "BaseException") = some true) (s_TooMany_NoChain:PySem.W.subIn K (.ref aA) (.ref aD) = some false) (b_NoHall:PySem.W.subIn K (.ref aI) (.type "BaseException") = some true) (s_TooMany_NoHall:PySem.W.subIn K (.ref aA) (.ref aI) = some false) (b_NoListener:PySem.W.subIn K (.ref aB) (.type "BaseException") = some true) (s_TooMany_NoListener:PySem.W.subIn K (.ref aA) (.ref aB) = some false) (b_NoLoss:PySem.W.subIn K (.ref aJ) (.type "BaseException") = some true) (s_TooMany_NoLoss:PySem.W.subIn K (.ref aA) (.ref aJ) = some false) (b_NoPart:PySem.W.subIn K (.ref aK) (.type "BaseException") = some true) (s_TooMany_NoPart:PySem.W.subIn K (.ref aA) (.ref aK) = some false) (b_NoRow:PySem.W.subIn K (.ref aO) (.type "BaseException") = some true) (s_TooMany_NoRow:PySem.W.subIn K (.ref aA) (.ref aO) = some false) (b_NoStand:PySem.W.subIn K (.ref aE) (.type "BaseException") = some true) (s_TooMany_NoStand:PySem.W.subIn K (.ref aA) (.ref aE) = some false) (b_NoWheel:PySem.W.subIn K (.ref aF) (.type "BaseException") = some true) (s_TooMany_NoWheel:PySem.W.subIn K (.ref aA) (.ref aF) = some false) (b_TooMuch:PySem.W.subIn K (.ref aG) (.type "BaseException") = some true) (s_TooMany_TooMuch:PySem.W.subIn K (.ref aA) (.ref aG) = some false) (b_Unsafe:PySem.W.subIn K (.ref aL) (.type "BaseException") = some true) (s_TooMany_Unsafe:PySem.W.subIn K (.ref aA) (.ref aL) = some false) (i_TooMany_RoundError:PySem.W.kitOne K (.ref aA) (.ref aC) = some true) (i_TooMany_ValueError:PySem.W.kitOne K (.ref aA) (.type "ValueError") = some true) :
  ∃ fd:FuncData,(∀ (s:Shared) (v:Value),BindsTo s fd ⟨[v],[]⟩ [("script",v)]) /\ ∀ base:Heap,K.In base -> base.Ns mainGlobals mg -> Ai l.prog w K mg base (B8 l.prog w) 10 fa fd ["script"] (Ob K):=by
 have e:=hfa.symm.trans (PySem.W.mg_of X G a_law)
 cases e
 have T:Txt K mg ⟨bX,bS,fT,fU,fV,fW,bO,bT,fD,cK,cL,cM,fX,cN,fY,bZ,cA,cO,cP,fZ,cB,cQ,gA,fE,cC,cR,cS,fa⟩ aA aD aI aB aJ aK aO aE aF aG aL aC:=⟨PySem.W.mg_of X G a_x15,k_x15,PySem.W.mg_of X G a_x19,k_x19,PySem.W.mg_of X G a_x8,k_x8,PySem.W.mg_of X G a_x1,k_x1,PySem.W.mg_of X G a_x9,k_x9,PySem.W.mg_of X G a_x4,k_x4,PySem.W.mg_of X G a_x24,k_x24,PySem.W.mg_of X G a_x12,k_x12,PySem.W.mg_of X G a_x5,k_x5,PySem.W.mg_of X G a_x20,k_x20,PySem.W.mg_of X G a_x21,k_x21,PySem.W.mg_of X G a_x16,k_x16,PySem.W.mg_of X G a_x2,k_x2,PySem.W.mg_of X G a_x23,k_x23,PySem.W.mg_of X G a_x0,k_x0,PySem.W.mg_of X G a_x25,k_x25,PySem.W.mg_of X G a_x26,k_x26,PySem.W.mg_of X G a_x13,k_x13,PySem.W.mg_of X G a_x17,k_x17,PySem.W.mg_of X G a_x6,k_x6,PySem.W.mg_of X G a_x14,k_x14,PySem.W.mg_of X G a_x10,k_x10,PySem.W.mg_of X G a_x3,k_x3,PySem.W.mg_of X G a_x7,k_x7,PySem.W.mg_of X G a_x22,k_x22,PySem.W.mg_of X G a_x11,k_x11,PySem.W.mg_of X G a_x18,k_x18,PySem.W.mg_of X G a_law,k_law,PySem.W.mg_none_of X G z_len,PySem.W.mg_none_of X G z_max,PySem.W.mg_none_of X G z_tuple,PySem.W.mg_none_of X G z_range,PySem.W.mg_none_of X G z_min,PySem.W.mg_none_of X G z_sorted,PySem.W.mg_none_of X G z_enumerate,PySem.W.mg_none_of X G z_ValueError,PySem.W.mg_none_of X G z_isinstance,PySem.W.mg_none_of X G z_int,⟨_,PySem.W.mg_of X G y_MOST_STANDINGS⟩,PySem.W.mg_of X G ac_TooMany,PySem.W.mg_of X G ac_NoChain,PySem.W.mg_of X G ac_NoHall,PySem.W.mg_of X G ac_NoListener,PySem.W.mg_of X G ac_NoLoss,PySem.W.mg_of X G ac_NoPart,PySem.W.mg_of X G ac_NoRow,PySem.W.mg_of X G ac_NoStand,PySem.W.mg_of X G ac_NoWheel,PySem.W.mg_of X G ac_TooMuch,PySem.W.mg_of X G ac_Unsafe,PySem.W.mg_of X G ac_RoundError,e_TooMany,b_NoChain,s_TooMany_NoChain,b_NoHall,s_TooMany_NoHall,b_NoListener,s_TooMany_NoListener,b_NoLoss,s_TooMany_NoLoss,b_NoPart,s_TooMany_NoPart,b_NoRow,s_TooMany_NoRow,b_NoStand,s_TooMany_NoStand,b_NoWheel,s_TooMany_NoWheel,b_TooMuch,s_TooMany_TooMuch,b_Unsafe,s_TooMany_Unsafe,i_TooMany_RoundError,i_TooMany_ValueError⟩
 have tI:=Bb (st:=N7) l_x15 c_x15 k_x15
 have tJ:=Bb (st:=Nb) l_x19 c_x19 k_x19
 have FO:=Bb (st:=Uz) l_x8 c_x8 k_x8
 have FP:=Bb (st:=Uv) l_x1 c_x1 k_x1
 have FQ:=Bb (st:=Qz) l_x9 c_x9 k_x9
 have FR:=Bb (st:=To) l_x4 c_x4 k_x4
 have FT:Pd K "after" "after" Ez bO _:=⟨⟨_,_,_,_,_,_,_,_,_,_,rfl,l_x24,c_x24⟩⟩
 have tK:=Bb (st:=Mi) l_x12 c_x12 k_x12
 have FU:=Bb (st:=Tv) l_x5 c_x5 k_x5
 have tL:=Bb (st:=Lr) l_x20 c_x20 k_x20
 have tM:=Bb (st:=Kq) l_x21 c_x21 k_x21
 have tO:=Bb (st:=L4) l_x16 c_x16 k_x16
 have FV:=Bb (st:=Tk) l_x2 c_x2 k_x2
 have tP:=Bb (st:=Mn) l_x23 c_x23 k_x23
 have FW:=Bb (st:=Uf) l_x0 c_x0 k_x0
 have tQ:=Bb (st:=Kf) l_x25 c_x25 k_x25
 have tR:=Bb (st:=Mp) l_x26 c_x26 k_x26
 have tS:=Bb (st:=L7) l_x13 c_x13 k_x13
 have tT:=Bb (st:=Km) l_x17 c_x17 k_x17
 have FX:=Bb (st:=Tp) l_x6 c_x6 k_x6
 have tU:=Bb (st:=Me) l_x14 c_x14 k_x14
 have tV:=Bb (st:=Kh) l_x10 c_x10 k_x10
 have FY:=Bb (st:=Ou) l_x3 c_x3 k_x3
 have FZ:=Bb (st:=Rj) l_x7 c_x7 k_x7
 have tW:=Bb (st:=Mj) l_x22 c_x22 k_x22
 have tX:=Bb (st:=N1) l_x11 c_x11 k_x11
 have tY:=Bb (st:=L9) l_x18 c_x18 k_x18
 have GA:=Bb (st:=Gf) l_law c_law k_law
 have eQ:=tI.binds (ps:=["hall"]) fun _ _ _ _ _ _ us hl=>by obtain ⟨_,rfl⟩ := Jb hl; rfl
 have dM:=tJ.binds (ps:=["hall","standing"]) fun _ _ _ _ _ _ us hl=>by obtain ⟨_,_,rfl⟩ := Ua hl; rfl
 have vc:=FO.binds (ps:=["hall","who"]) fun _ _ _ _ _ _ us hl=>by obtain ⟨_,_,rfl⟩ := Ua hl; rfl
 have vf:=FP.binds (ps:=["hall","standing","who","lost"]) fun _ _ _ _ _ _ us hl=>by obtain ⟨_,_,_,_,rfl⟩ := W1 hl; rfl
 have vh:=FQ.binds (ps:=["hall","standing","who","lost"]) fun _ _ _ _ _ _ us hl=>by obtain ⟨_,_,_,_,rfl⟩ := W1 hl; rfl
 have vn:=FR.binds (ps:=["hall","standing","lost"]) fun _ _ _ _ _ _ us hl=>by obtain ⟨_,_,_,rfl⟩ := Pf hl; rfl
 have dN:Aw K (PySem.W.fnOf "after" "after" (Ap Ez) (Ak Ez) (A6 Ez) (.ref gY) jL jM jN jK gX jO) ["hall","standing","who","lost"] []:=fun s us hK hl=>by
  have h4:us.length = 4:=by simpa using hl
  obtain ⟨_,_,_,_,rfl⟩ := W1 h4
  exact BindsTo.of_defaults rfl (hK _ _ t_x24) rfl rfl rfl
 have aZ:Aw K (PySem.W.fnOf "after" "after" (Ap Ez) (Ak Ez) (A6 Ez) (.ref gY) jL jM jN jK gX jO) ["hall","standing","who","lost"] [Value.bool false]:=fun s us hK hl=>by
  have h4:us.length = 3:=by simpa using hl
  obtain ⟨_,_,_,rfl⟩ := Pf h4
  exact BindsTo.of_defaults rfl (hK _ _ t_x24) rfl rfl rfl
 have dR:=tK.binds (ps:=["hall","standing","who"]) fun _ _ _ _ _ _ us hl=>by obtain ⟨_,_,_,rfl⟩ := Pf hl; rfl
 have kX:=FU.binds (ps:=["hall"]) fun _ _ _ _ _ _ us hl=>by obtain ⟨_,rfl⟩ := Jb hl; rfl
 have mO:=tL.binds (ps:=["hall"]) fun _ _ _ _ _ _ us hl=>by obtain ⟨_,rfl⟩ := Jb hl; rfl
 have mL:=tM.binds (ps:=["waits"]) fun _ _ _ _ _ _ us hl=>by obtain ⟨_,rfl⟩ := Jb hl; rfl
 have mS:=tO.binds (ps:=["hall"]) fun _ _ _ _ _ _ us hl=>by obtain ⟨_,rfl⟩ := Jb hl; rfl
 have vE:=FV.binds (ps:=["hall"]) fun _ _ _ _ _ _ us hl=>by obtain ⟨_,rfl⟩ := Jb hl; rfl
 have mZ:=tP.binds (ps:=["pending"]) fun _ _ _ _ _ _ us hl=>by obtain ⟨_,rfl⟩ := Jb hl; rfl
 have vG:=FW.binds (ps:=["pending","ways","ranked"]) fun _ _ _ _ _ _ us hl=>by obtain ⟨_,_,_,rfl⟩ := Pf hl; rfl
 have gL:=tQ.binds (ps:=["hall"]) fun _ _ _ _ _ _ us hl=>by obtain ⟨_,rfl⟩ := Jb hl; rfl
 have fI:=tR.binds (ps:=["table","behind"]) fun _ _ _ _ _ _ us hl=>by obtain ⟨_,_,rfl⟩ := Ua hl; rfl
 have nF:=tS.binds (ps:=["hall","table","standing","who"]) fun _ _ _ _ _ _ us hl=>by obtain ⟨_,_,_,_,rfl⟩ := W1 hl; rfl
 have nI:=tT.binds (ps:=["hall","table","standing"]) fun _ _ _ _ _ _ us hl=>by obtain ⟨_,_,_,rfl⟩ := Pf hl; rfl
 have vM:=FX.binds (ps:=["hall","table","standing","who"]) fun _ _ _ _ _ _ us hl=>by obtain ⟨_,_,_,_,rfl⟩ := W1 hl; rfl
 have gN:=tU.binds (ps:=["hall"]) fun _ _ _ _ _ _ us hl=>by obtain ⟨_,rfl⟩ := Jb hl; rfl
 have nL:=tV.binds (ps:=["hall","table","standing"]) fun _ _ _ _ _ _ us hl=>by obtain ⟨_,_,_,rfl⟩ := Pf hl; rfl
 have vQ:=FY.binds (ps:=["hall","standing","answers"]) fun _ _ _ _ _ _ us hl=>by obtain ⟨_,_,_,rfl⟩ := Pf hl; rfl
 have lA:=FZ.binds (ps:=["hall"]) fun _ _ _ _ _ _ us hl=>by obtain ⟨_,rfl⟩ := Jb hl; rfl
 have bQ:=tW.binds (ps:=["script","k"]) fun _ _ _ _ _ _ us hl=>by obtain ⟨_,_,rfl⟩ := Ua hl; rfl
 have jZ:=tX.binds (ps:=["hall","kept"]) fun _ _ _ _ _ _ us hl=>by obtain ⟨_,_,rfl⟩ := Ua hl; rfl
 have nQ:=tY.binds (ps:=["script"]) fun _ _ _ _ _ _ us hl=>by obtain ⟨_,rfl⟩ := Jb hl; rfl
 refine ⟨PySem.W.fnOf "law" "law" (Ap Gf) (Ak Gf) (A6 Gf) .none oK oM oN nR jP oO,fun s v=>.of_eq rfl,fun base _ _=>?_⟩
 have eP:Ai l.prog w K mg base (B8 l.prog w) 1 _ _ ["hall"] (Oc K):=d4 T tI
 have dJ:Ai l.prog w K mg base (B8 l.prog w) 1 _ _ ["hall","standing"] (Kg K):=cz T tJ
 have v9:Ai l.prog w K mg base (B8 l.prog w) 1 _ _ ["hall","who"] (Xf K):=jc T FO
 have vd:Ai l.prog w K mg base (B8 l.prog w) 2 _ _ ["hall","standing","who","lost"] (Wp K):=ir T FP v9 vc dJ dM
 have vg:Ai l.prog w K mg base (B8 l.prog w) 3 _ _ ["hall","standing","who","lost"] (Vs K):=jq T FQ vd vf
 have vk:Ai l.prog w K mg base (B8 l.prog w) 1 _ _ ["hall","standing","lost"] (X7 K):=jj T FR
 have cE:Ai l.prog w K mg base (B8 l.prog w) 4 _ _ ["hall","standing","who","lost"] (Kl K):=b9 T FT vg vh vk vn
 have dQ:Ai l.prog w K mg base (B8 l.prog w) 5 _ _ ["hall","standing","who"] (Ki K):=cg T tK dJ dM cE dN aZ
 have kW:Ai l.prog w K mg base (B8 l.prog w) 1 _ _ ["hall"] (Sk K):=jb T FU
 have mM:Ai l.prog w K mg base (B8 l.prog w) 2 _ _ ["hall"] (Qt K):=b7 T tL kW kX
 have mK:Ai l.prog w K mg base (B8 l.prog w) 1 _ _ ["waits"] (Qv K):=c8 T tM
 have mR:Ai l.prog w K mg base (B8 l.prog w) 3 _ _ ["hall"] (Qh K aA):=bj T tO mK mL mM mO kW kX
 have vD:Ai l.prog w K mg base (B8 l.prog w) 6 _ _ ["hall"] (Ww K aA):=ji T FV mR mS dQ dR
 have mY:Ai l.prog w K mg base (B8 l.prog w) 1 _ _ ["pending"] (R0 K):=Zz T tP
 have vF:Ai l.prog w K mg base (B8 l.prog w) 1 _ _ ["pending","ways","ranked"] (Vb K):=j5 T FW
 have gK:Ai l.prog w K mg base (B8 l.prog w) 7 _ _ ["hall"] (Nl K aA):=fc T tQ vD vE mY mZ vF vG
 have fH:Ai l.prog w K mg base (B8 l.prog w) 1 _ _ ["table","behind"] (Nk K):=df T tR
 have nD:Ai l.prog w K mg base (B8 l.prog w) 6 _ _ ["hall","table","standing","who"] (Qx K):=ak T tS fH fI dQ dR
 have nH:Ai l.prog w K mg base (B8 l.prog w) 7 _ _ ["hall","table","standing"] (Rs K):=ae T tT nD nF
 have vL:Ai l.prog w K mg base (B8 l.prog w) 5 _ _ ["hall","table","standing","who"] (Vw K):=jp T FX fH fI cE dN aZ dJ dM
 have gM:Ai l.prog w K mg base (B8 l.prog w) 8 _ _ ["hall"] (O5 K aA):=f7 T tU gK gL eP eQ nH nI dQ dR
 have nK:Ai l.prog w K mg base (B8 l.prog w) 6 _ _ ["hall","table","standing"] (Rt K):=a9 T tV vL vM
 have vP:Ai l.prog w K mg base (B8 l.prog w) 5 _ _ ["hall","standing","answers"] (Vz K):=gw T FY cE dN aZ
 have kZ:Ai l.prog w K mg base (B8 l.prog w) 8 _ _ ["hall"] (Sc K aA):=iz T FZ gK gL eP eQ nK nL vP vQ
 have bP:Ai l.prog w K mg base (B8 l.prog w) 1 _ _ ["script","k"] (O8 K):=cf T tW
 have jY:Ai l.prog w K mg base (B8 l.prog w) 9 _ _ ["hall","kept"] (Ro K):=aw T tX gM gN kZ lA
 have nP:Ai l.prog w K mg base (B8 l.prog w) 2 _ _ ["script"] (Rz K):=eh T tY bP bQ
 exact d7 T GA nP nQ bP bQ gM gN jY jZ kZ lA
theorem walk {l : PySem.W.OpenLaw} {q : Program} {loose : List Str} {XP : (Str -> Option Value) -> Heap -> Prop} {YP : World -> Heap -> Prop} {d : DefRec} {K : Params -> PySem.W.Frag} (hn : l.most = some 63) (JE : d.params.defaults = [])
  (hY:∀ (w:World) (h:Heap),YP w h -> (K w.params).In h)
  (F:∀ (w:World) (mg:Str -> Option Value) (fa:Addr) (h:Heap),(K w.params).In h -> h.Ns mainGlobals mg -> mg d.name = some (.ref fa) ->
   ∃ fd:FuncData,(∀ (s:Shared) (u:Value),BindsTo s fd ⟨[u],[]⟩ [("script",u)]) /\ ∀ base:Heap,(K w.params).In base -> base.Ns mainGlobals mg -> Ai l.prog w (K w.params) mg base (B8 l.prog w) 10 fa fd ["script"] (Ob (K w.params))) :
  PySem.W.WalkO q loose XP YP l.row.toRowW d [] (fun f vs=>PySem.call f vs) :=
 L2.lN (n:=63) (k:=10) (x := "script") (CX:=fun w=>B8 l.prog w) (sp:=fun w=>Ob (K w.params)) hn (by decide) JE ⟨rfl,by decide,by decide⟩ hY F (fun _ _ a ns hl hb _ hS=>⟨a,ns,rfl,hS,hl,hb,fun _=>rfl⟩) fun _ _ _ _ _ ⟨_,_,_,_,_,_,_,_,q⟩=>q
end Law
namespace PySem.W.Fast
theorem tw14974382375107384984:True:=trivial
theorem tw13789537832659361054:True:=trivial
theorem tw5761113672107090691:True:=trivial
theorem tw15332334733408461511:True:=trivial
theorem tw9087441172366888547:True:=trivial
theorem tw15107148912360348284:True:=trivial
theorem tw7201800638515011941:True:=trivial
theorem tw17420679340721428275:True:=trivial
theorem tw7140198316110973742:True:=trivial
theorem tw16447505109242894733:True:=trivial
theorem tw5881532488282793028:True:=trivial
theorem tw6592166471451479229:True:=trivial
theorem tw4521941781541228916:True:=trivial
theorem tw9814332413946487872:True:=trivial
theorem tw7346851983402766128:True:=trivial
theorem tw16356192605358764176:True:=trivial
theorem tw16769490321640121656:True:=trivial
theorem tw4327826542767428002:True:=trivial
theorem tw8681666778054355913:True:=trivial
theorem tw2292983486226036101:True:=trivial
theorem tw4205283312455945150:True:=trivial
theorem tw2607561149663294588:True:=trivial
theorem tw9487749669850548118:True:=trivial
theorem tw1880933214573323551:True:=trivial
theorem tw17991211935031840902:True:=trivial
theorem tw982507022260851061:True:=trivial
theorem tw16252480868477566046:True:=trivial
theorem tw17825738181011563989:True:=trivial
theorem tw13677061301588516041:True:=trivial
theorem tw5636011567382831263:True:=trivial
theorem tw11979105276003894208:True:=trivial
theorem tw14708503610700805354:True:=trivial
theorem tw16325069344319997875:True:=trivial
theorem tw2283222763119511861:True:=trivial
theorem tw3903388341985550949:True:=trivial
theorem tw5525117369930196642:True:=trivial
theorem tw16033667921430009190:True:=trivial
theorem tw9734935422316095150:True:=trivial
theorem tw4275933251465493727:True:=trivial
theorem tw6069102730549989169:True:=trivial
theorem tw14299258156375616548:True:=trivial
theorem tw8839311090343828349:True:=trivial
theorem tw13833548753380628993:True:=trivial
theorem tw1383626146097867816:True:=trivial
theorem tw11590770986650411019:True:=trivial
theorem tw10871454839492859944:True:=trivial
theorem tw14512354474426210298:True:=trivial
theorem tw14023551042424974556:True:=trivial
theorem tw14662909583450862843:True:=trivial
theorem tw15145228651694102207:True:=trivial
theorem tw17057011374305694117:True:=trivial
theorem tw12584637068958545967:True:=trivial
theorem tw13212947756281707347:True:=trivial
theorem tw9371506581850232467:True:=trivial
theorem tw5581271149048846990:True:=trivial
theorem tw3263338501535156186:True:=trivial
theorem tw7939789469159475516:True:=trivial
theorem tw7058781142359779658:True:=trivial
theorem tw9055877548948141794:True:=trivial
theorem tw11937087805469577510:True:=trivial
theorem tw10749790674076079064:True:=trivial
theorem tw2059334007969919273:True:=trivial
theorem tw13717386801548776875:True:=trivial
theorem tw17949037317444131516:True:=trivial
theorem tw368696783384810783:True:=trivial
theorem tw17507193181461904001:True:=trivial
theorem tw11785220119927182117:True:=trivial
theorem tw12553449166446560159:True:=trivial
theorem tw5320433198823115217:True:=trivial
theorem tw7143644382141746395:True:=trivial
theorem tw8127812329270815621:True:=trivial
theorem tw12904269711695007173:True:=trivial
theorem tw2519551743509965125:True:=trivial
theorem tw8956806963548914074:True:=trivial
theorem tw16851208921270218922:True:=trivial
theorem tw17002420785977684474:True:=trivial
theorem tw18011449551455658565:True:=trivial
theorem tw5908382334576225697:True:=trivial
theorem tw14288844608015528036:True:=trivial
theorem tw7945228414675802052:True:=trivial
theorem tw12601939505552903948:True:=trivial
theorem tw18085568467972367177:True:=trivial
theorem tw10459504532667712833:True:=trivial
end PySem.W.Fast
open PySem PySem.W PyProof.Rows
set_option maxRecDepth 100000 in
set_option maxHeartbeats 0 in
theorem PySem.Challenge.cw_roundcall_k39_too_many_for_papers_holds : PySem.Challenge.rw_roundcall_k39_too_many_for_papers.Holds := by
 w_on; o_law; k_head; (case hw=>w_witness2)
 k_fill
 refine Law.walk (l:=PySem.Challenge.rw_roundcall_k39_too_many_for_papers) rfl rfl (fun w h Y=>PySem.W.kIn_of Y) ?F
 case F =>
  intro w mg fa h KX G hmg
  refine' Law.all_mk KX G hmg ?a_x15 ?l_x15 ?c_x15 ?k_x15 ?a_x19 ?l_x19 ?c_x19 ?k_x19 ?a_x8 ?l_x8 ?c_x8 ?k_x8 ?a_x1 ?l_x1 ?c_x1 ?k_x1 ?a_x9 ?l_x9 ?c_x9 ?k_x9 ?a_x4 ?l_x4 ?c_x4 ?k_x4 ?a_x24 ?l_x24 ?c_x24 ?k_x24 ?t_x24 ?a_x12 ?l_x12 ?c_x12 ?k_x12 ?a_x5 ?l_x5 ?c_x5 ?k_x5 ?a_x20 ?l_x20 ?c_x20 ?k_x20 ?a_x21 ?l_x21 ?c_x21 ?k_x21 ?a_x16 ?l_x16 ?c_x16 ?k_x16 ?a_x2 ?l_x2 ?c_x2 ?k_x2 ?a_x23 ?l_x23 ?c_x23 ?k_x23 ?a_x0 ?l_x0 ?c_x0 ?k_x0 ?a_x25 ?l_x25 ?c_x25 ?k_x25 ?a_x26 ?l_x26 ?c_x26 ?k_x26 ?a_x13 ?l_x13 ?c_x13 ?k_x13 ?a_x17 ?l_x17 ?c_x17 ?k_x17 ?a_x6 ?l_x6 ?c_x6 ?k_x6 ?a_x14 ?l_x14 ?c_x14 ?k_x14 ?a_x10 ?l_x10 ?c_x10 ?k_x10 ?a_x3 ?l_x3 ?c_x3 ?k_x3 ?a_x7 ?l_x7 ?c_x7 ?k_x7 ?a_x22 ?l_x22 ?c_x22 ?k_x22 ?a_x11 ?l_x11 ?c_x11 ?k_x11 ?a_x18 ?l_x18 ?c_x18 ?k_x18 ?a_law ?l_law ?c_law ?k_law ?y_MOST_STANDINGS ?z_len ?z_max ?z_tuple ?z_range ?z_min ?z_sorted ?z_enumerate ?z_ValueError ?z_isinstance ?z_int ?ac_TooMany ?ac_NoChain ?ac_NoHall ?ac_NoListener ?ac_NoLoss ?ac_NoPart ?ac_NoRow ?ac_NoStand ?ac_NoWheel ?ac_TooMuch ?ac_Unsafe ?ac_RoundError ?e_TooMany ?b_NoChain ?s_TooMany_NoChain ?b_NoHall ?s_TooMany_NoHall ?b_NoListener ?s_TooMany_NoListener ?b_NoLoss ?s_TooMany_NoLoss ?b_NoPart ?s_TooMany_NoPart ?b_NoRow ?s_TooMany_NoRow ?b_NoStand ?s_TooMany_NoStand ?b_NoWheel ?s_TooMany_NoWheel ?b_TooMuch ?s_TooMany_TooMuch ?b_Unsafe ?s_TooMany_Unsafe ?i_TooMany_RoundError ?i_TooMany_ValueError
  (case a_x15=>k_is)
  (case l_x15=>k_is)
  (case c_x15=>k_is)
  (case k_x15=>k_is)
  (case a_x19=>k_is)
  (case l_x19=>k_is)
  (case c_x19=>k_is)
  (case k_x19=>k_is)
  (case a_x8=>k_is)
  (case l_x8=>k_is)
  (case c_x8=>k_is)
  (case k_x8=>k_is)
  (case a_x1=>k_is)
  (case l_x1=>k_is)
  (case c_x1=>k_is)
  (case k_x1=>k_is)
  (case a_x9=>k_is)
  (case l_x9=>k_is)
  (case c_x9=>k_is)
  (case k_x9=>k_is)
  (case a_x4=>k_is)
  (case l_x4=>k_is)
  (case c_x4=>k_is)
  (case k_x4=>k_is)
  (case a_x24=>k_is)
  (case l_x24=>k_is)
  (case c_x24=>k_is)
  (case k_x24=>k_is)
  (case t_x24=>k_is)
  (case a_x12=>k_is)
  (case l_x12=>k_is)
  (case c_x12=>k_is)
  (case k_x12=>k_is)
  (case a_x5=>k_is)
  (case l_x5=>k_is)
  (case c_x5=>k_is)
  (case k_x5=>k_is)
  (case a_x20=>k_is)
  (case l_x20=>k_is)
  (case c_x20=>k_is)
  (case k_x20=>k_is)
  (case a_x21=>k_is)
  (case l_x21=>k_is)
  (case c_x21=>k_is)
  (case k_x21=>k_is)
  (case a_x16=>k_is)
  (case l_x16=>k_is)
  (case c_x16=>k_is)
  (case k_x16=>k_is)
  (case a_x2=>k_is)
  (case l_x2=>k_is)
  (case c_x2=>k_is)
  (case k_x2=>k_is)
  (case a_x23=>k_is)
  (case l_x23=>k_is)
  (case c_x23=>k_is)
  (case k_x23=>k_is)
  (case a_x0=>k_is)
  (case l_x0=>k_is)
  (case c_x0=>k_is)
  (case k_x0=>k_is)
  (case a_x25=>k_is)
  (case l_x25=>k_is)
  (case c_x25=>k_is)
  (case k_x25=>k_is)
  (case a_x26=>k_is)
  (case l_x26=>k_is)
  (case c_x26=>k_is)
  (case k_x26=>k_is)
  (case a_x13=>k_is)
  (case l_x13=>k_is)
  (case c_x13=>k_is)
  (case k_x13=>k_is)
  (case a_x17=>k_is)
  (case l_x17=>k_is)
  (case c_x17=>k_is)
  (case k_x17=>k_is)
  (case a_x6=>k_is)
  (case l_x6=>k_is)
  (case c_x6=>k_is)
  (case k_x6=>k_is)
  (case a_x14=>k_is)
  (case l_x14=>k_is)
  (case c_x14=>k_is)
  (case k_x14=>k_is)
  (case a_x10=>k_is)
  (case l_x10=>k_is)
  (case c_x10=>k_is)
  (case k_x10=>k_is)
  (case a_x3=>k_is)
  (case l_x3=>k_is)
  (case c_x3=>k_is)
  (case k_x3=>k_is)
  (case a_x7=>k_is)
  (case l_x7=>k_is)
  (case c_x7=>k_is)
  (case k_x7=>k_is)
  (case a_x22=>k_is)
  (case l_x22=>k_is)
  (case c_x22=>k_is)
  (case k_x22=>k_is)
  (case a_x11=>k_is)
  (case l_x11=>k_is)
  (case c_x11=>k_is)
  (case k_x11=>k_is)
  (case a_x18=>k_is)
  (case l_x18=>k_is)
  (case c_x18=>k_is)
  (case k_x18=>k_is)
  (case a_law=>k_is)
  (case l_law=>k_is)
  (case c_law=>k_is)
  (case k_law=>k_is)
  (case y_MOST_STANDINGS=>k_is)
  (case z_len=>k_is)
  (case z_max=>k_is)
  (case z_tuple=>k_is)
  (case z_range=>k_is)
  (case z_min=>k_is)
  (case z_sorted=>k_is)
  (case z_enumerate=>k_is)
  (case z_ValueError=>k_is)
  (case z_isinstance=>k_is)
  (case z_int=>k_is)
  (case ac_TooMany=>k_is)
  (case ac_NoChain=>k_is)
  (case ac_NoHall=>k_is)
  (case ac_NoListener=>k_is)
  (case ac_NoLoss=>k_is)
  (case ac_NoPart=>k_is)
  (case ac_NoRow=>k_is)
  (case ac_NoStand=>k_is)
  (case ac_NoWheel=>k_is)
  (case ac_TooMuch=>k_is)
  (case ac_Unsafe=>k_is)
  (case ac_RoundError=>k_is)
  (case e_TooMany=>k_exc)
  (case b_NoChain=>k_is)
  (case s_TooMany_NoChain=>k_is)
  (case b_NoHall=>k_is)
  (case s_TooMany_NoHall=>k_is)
  (case b_NoListener=>k_is)
  (case s_TooMany_NoListener=>k_is)
  (case b_NoLoss=>k_is)
  (case s_TooMany_NoLoss=>k_is)
  (case b_NoPart=>k_is)
  (case s_TooMany_NoPart=>k_is)
  (case b_NoRow=>k_is)
  (case s_TooMany_NoRow=>k_is)
  (case b_NoStand=>k_is)
  (case s_TooMany_NoStand=>k_is)
  (case b_NoWheel=>k_is)
  (case s_TooMany_NoWheel=>k_is)
  (case b_TooMuch=>k_is)
  (case s_TooMany_TooMuch=>k_is)
  (case b_Unsafe=>k_is)
  (case s_TooMany_Unsafe=>k_is)
  (case i_TooMany_RoundError=>kit_is)
  (case i_TooMany_ValueError=>kit_is)
